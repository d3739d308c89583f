
/- A hub: plain, and in memory. -/
import Derived.Test.YtplekllhnpljiaaJ23
import Derived.OrdersHeld
import Derived.Deep.RegionHeld3
import Derived.Deep.QuietTactic
import Derived.BigQuiet
namespace Go.Proofs.Ytplekllhnpljiaa
open Go.RowKit

/-- four connections: which are up, their feeds, how often each was raised; and where the next one is looked for -/
structure Hb where
  up : Nat → Bool
  fd : Nat → Fd
  life : Nat → Int
  next : Int
def upd {α : Type} (f : Nat → α) (c : Nat) (v : α) : Nat → α := fun i => if i = c then v else f i
set_option maxRecDepth 100000 in
theorem upd_same {α : Type} (f : Nat → α) (c : Nat) (v : α) : upd f c v c = v := if_pos rfl
set_option maxRecDepth 100000 in
theorem upd_other {α : Type} (f : Nat → α) {c i : Nat} (v : α) (h : i ≠ c) : upd f c v i = f i := if_neg h
def fd0 : Fd := ⟨[], 0, 0⟩
/-- the same, all of it -/
def SameHb (a b : Hb) : Prop := (∀ i, i < 4 → a.fd i = b.fd i ∧ a.up i = b.up i ∧ a.life i = b.life i) ∧ a.next = b.next
set_option maxRecDepth 100000 in
theorem SameHb.refl (a : Hb) : SameHb a a := ⟨fun _ _ => ⟨rfl, rfl, rfl⟩, rfl⟩
def RightHb (h : Hb) : Prop := (∀ i, i < 4 → RightFd (h.fd i) ∧ (h.up i = false → h.fd i = fd0)) ∧ 0 ≤ h.next ∧ h.next < 4
def anyH (h : Hb) : Bool := h.up 0 || h.up 1 || h.up 2 || h.up 3
def raiseH (h : Hb) (c : Nat) : Hb := { h with up := upd h.up c true, fd := upd h.fd c fd0, life := upd h.life c (wrap64 (h.life c + 1)) }
def cutH (h : Hb) (c : Nat) : Hb := { h with up := upd h.up c false, fd := upd h.fd c fd0 }
def pushH (h : Hb) (c : Nat) (v : List UInt8) : Hb := { h with fd := upd h.fd c (pushF (h.fd c) v).1 }
/-- numbers of 64 bits -/
def B64 (x : Int) : Prop := -9223372036854775808 ≤ x ∧ x ≤ 9223372036854775807
def Hb64 (h : Hb) : Prop := (∀ i, i < 4 → B64 (h.fd i).skip ∧ B64 (h.fd i).bad ∧ B64 (h.life i)) ∧ B64 h.next
/-- where the feeds' bytes lie -/
abbrev Wh := Nat → Option Addr × Nat
def slH (x : Wh) (h : Hb) (i : Nat) : Value := .slice (x i).1 (h.fd i).buf.length (x i).2
def hubC (x : Wh) (h : Hb) : Array Value :=
  #[.bool (h.up 0), .bool (h.up 1), .bool (h.up 2), .bool (h.up 3),
    slH x h 0, .int .i64 (h.fd 0).skip, .int .i64 (h.fd 0).bad, slH x h 1, .int .i64 (h.fd 1).skip, .int .i64 (h.fd 1).bad,
    slH x h 2, .int .i64 (h.fd 2).skip, .int .i64 (h.fd 2).bad, slH x h 3, .int .i64 (h.fd 3).skip, .int .i64 (h.fd 3).bad,
    .int .i64 (h.life 0), .int .i64 (h.life 1), .int .i64 (h.life 2), .int .i64 (h.life 3), .int .i64 h.next]
set_option maxRecDepth 100000 in
theorem hubC_size (x : Wh) (h : Hb) : (hubC x h).size = 21 := rfl
set_option maxRecDepth 100000 in
theorem hubC_one (x : Wh) (h : Hb) : (hubC x h).all (·.oneCell') = true := by simp [hubC, slH, Value.oneCell']
set_option maxRecDepth 100000 in
theorem lt4 {c : Nat} (h : c < 4) : c = 0 ∨ c = 1 ∨ c = 2 ∨ c = 3 := by omega
set_option maxRecDepth 100000 in
theorem hubC_up (x : Wh) (h : Hb) {c : Nat} (hc : c < 4) : (hubC x h)[c]? = some (.bool (h.up c)) := by rcases lt4 hc with rfl | rfl | rfl | rfl <;> rfl
set_option maxRecDepth 100000 in
theorem hubC_buf (x : Wh) (h : Hb) {c : Nat} (hc : c < 4) : (hubC x h)[4 + c * 3]? = some (slH x h c) := by rcases lt4 hc with rfl | rfl | rfl | rfl <;> rfl
set_option maxRecDepth 100000 in
theorem hubC_skip (x : Wh) (h : Hb) {c : Nat} (hc : c < 4) : (hubC x h)[4 + c * 3 + 1]? = some (.int .i64 (h.fd c).skip) := by rcases lt4 hc with rfl | rfl | rfl | rfl <;> rfl
set_option maxRecDepth 100000 in
theorem hubC_bad (x : Wh) (h : Hb) {c : Nat} (hc : c < 4) : (hubC x h)[4 + c * 3 + 2]? = some (.int .i64 (h.fd c).bad) := by rcases lt4 hc with rfl | rfl | rfl | rfl <;> rfl
set_option maxRecDepth 100000 in
theorem hubC_life (x : Wh) (h : Hb) {c : Nat} (hc : c < 4) : (hubC x h)[16 + c]? = some (.int .i64 (h.life c)) := by rcases lt4 hc with rfl | rfl | rfl | rfl <;> rfl
set_option maxRecDepth 100000 in
theorem hubC_next (x : Wh) (h : Hb) : (hubC x h)[20]? = some (.int .i64 h.next) := rfl
set_option maxRecDepth 100000 in
theorem hubC_setUp (x : Wh) (h : Hb) {c : Nat} (hc : c < 4) (b : Bool) : (hubC x h).setIfInBounds c (.bool b) = hubC x { h with up := upd h.up c b } := by rcases lt4 hc with rfl | rfl | rfl | rfl <;> rfl
set_option maxRecDepth 100000 in
theorem hubC_setLife (x : Wh) (h : Hb) {c : Nat} (hc : c < 4) (n : Int) : (hubC x h).setIfInBounds (16 + c) (.int .i64 n) = hubC x { h with life := upd h.life c n } := by rcases lt4 hc with rfl | rfl | rfl | rfl <;> rfl
set_option maxRecDepth 100000 in
theorem hubC_setNext (x : Wh) (h : Hb) (n : Int) : (hubC x h).setIfInBounds 20 (.int .i64 n) = hubC x { h with next := n } := rfl
set_option maxRecDepth 100000 in
theorem hubC_setFd (x : Wh) (h : Hb) {c : Nat} (hc : c < 4) (A : Option Addr) (k : Nat) (f : Fd) :
    (((hubC x h).setIfInBounds (4 + c * 3) (.slice A f.buf.length k)).setIfInBounds (4 + c * 3 + 1) (.int .i64 f.skip)).setIfInBounds (4 + c * 3 + 2) (.int .i64 f.bad) = hubC (upd x c (A, k)) { h with fd := upd h.fd c f } := by
  rcases lt4 hc with rfl | rfl | rfl | rfl <;> rfl
/-- the feeds' bytes, in a world -/
def HubR (w : World) (x : Wh) (h : Hb) : Prop := ∀ i, i < 4 → (h.fd i).buf.length ≤ (x i).2 ∧ (x i).2 ≤ 9223372036854775807 ∧ Rd w w.heap.size (x i).1 (h.fd i).buf
set_option maxRecDepth 100000 in
theorem HubR.go {w w' : World} {x : Wh} {h : Hb} (k : HubR w x h) (hb : Below w.heap.size w w') : HubR w' x h := fun i hi => ⟨(k i hi).1, (k i hi).2.1, (k i hi).2.2.go hb⟩
set_option maxRecDepth 100000 in
theorem HubR.below {w w' : World} {x : Wh} {h : Hb} (k : HubR w x h) (hb : Below w.heap.size w w') (_ : w.heap.size ≤ w.heap.size) : HubR w' x h := k.go hb
set_option maxRecDepth 100000 in
theorem HubR.more {w : World} {x : Wh} {h : Hb} {n : Nat} (k : HubR w x h) (_ : n ≤ w.heap.size) : HubR w x h := k
set_option maxRecDepth 100000 in
theorem HubR.upd {w : World} {x : Wh} {h : Hb} (k : HubR w x h) (c : Nat) {A : Option Addr} {n : Nat} {f : Fd} (h1 : f.buf.length ≤ n) (h2 : n ≤ 9223372036854775807) (h3 : Rd w w.heap.size A f.buf) {h' : Hb} (e : h'.fd = Proofs.Ytplekllhnpljiaa.upd h.fd c f) : HubR w (Proofs.Ytplekllhnpljiaa.upd x c (A, n)) h' := fun i hi => by
  rw [e]
  by_cases hic : i = c
  · subst hic
    rw [upd_same, upd_same]
    exact ⟨h1, h2, h3⟩
  · rw [upd_other _ _ hic, upd_other _ _ hic]
    exact k i hi
set_option maxRecDepth 100000 in
theorem HubR.of {w : World} {x : Wh} {h h' : Hb} (k : HubR w x h) (e : h'.fd = h.fd) : HubR w x h' := fun i hi => by rw [e]; exact k i hi
abbrev hubT : TypeId := 29
/-- the box at g holds a hub -/
def BoxH (w : World) (g : Nat) (x : Wh) (h : Hb) : Prop := w.heap[g]? = some (.cells (hubC x h) 29 (0, 0))
set_option maxRecDepth 100000 in
theorem BoxH.cell {w : World} {g : Nat} {x : Wh} {h : Hb} (k : BoxH w g x h) {j : Nat} {v : Value} (hv : (hubC x h)[j]? = some v) : w.cell? ⟨g, j, none⟩ = some v := (cell_of_row _ _ _ _ _ _ k).trans hv
set_option maxRecDepth 100000 in
theorem BoxH.thaw {w : World} {g : Nat} {x : Wh} {h : Hb} (k : BoxH w g x h) (j : Nat) : w.frozen? ⟨g, j, none⟩ = false := frozen_of_row w g j _ _ k
set_option maxRecDepth 100000 in
theorem BoxH.old {w w' : World} {B g : Nat} {x : Wh} {h : Hb} (k : BoxH w g x h) (hb : Below B w w') (hB : w.heap.size ≤ B) : BoxH w' g x h := oldG k hb hB
set_option maxRecDepth 100000 in
theorem BoxH.set {w : World} {g : Nat} {x x' : Wh} {h h' : Hb} (k : BoxH w g x h) {j : Nat} {v : Value} (e : (hubC x h).setIfInBounds j v = hubC x' h') : BoxH (w.setCell ⟨g, j, none⟩ v) g x' h' := by
  have h1 := heap_setCell_same w g j _ _ v k
  rw [e] at h1
  exact h1
set_option maxRecDepth 100000 in
theorem boxH_new (w : World) (x : Wh) (h : Hb) : BoxH (w.alloc (.cells (hubC x h) 29)) w.heap.size x h := heap_alloc_new w _
set_option maxRecDepth 100000 in
theorem run_loadHb {w : World} {g : Nat} {x : Wh} {h : Hb} (k : BoxH w g x h) : (Instr.loadAt 29 (.pointer (some ⟨g, 0, none⟩))).run Try.prog w = .ok (.agg (hubC x h)) w := by
  simp only [Instr.loadAt, Instr.sureAddr, Sem.run_bind, Sem.run_pure, Result.andThen_ok, run_loadVar_row w g 29 29 (hubC x h) (0, 0) _ k Try.underlying29 rfl (by rw [hubC_size]; kernel_rfl)]
set_option maxRecDepth 100000 in
theorem yields_hub {ops : Array Oper} {S : World → Prop} {o : Oper} {a : Act} (hw : Region.wanted o (yielded ops a.tmps) = true) (p : Operand) (ho : o.op = .load 29 p) (g : Nat) (hx : a.eval p = .pointer (some ⟨g, 0, none⟩)) (C : Array Value)
    (hS : ∀ w, S w → (Instr.loadAt 29 (.pointer (some ⟨g, 0, none⟩))).run Try.prog w = .ok (.agg C) w) : YieldsIf Try.prog ops S o (.agg C) a :=
  .inl ⟨hw, fun w hw' => by
    unfold execOp
    simp only [ho, hx, Sem.run_bind, Sem.run_pure, Result.andThen_ok, hS w hw']⟩
set_option maxRecDepth 100000 in
theorem loadHb {ops : Array Oper} {rest : List Oper} {o : Oper} {a : Act} {Q : Exit → Act → World → Prop} (W : World) (p : Operand) (g : Nat) (x : Wh) (h : Hb)
    (hg : BoxH W g x h) (hw : Region.wanted o (yielded ops a.tmps) = true) (ho : o.op = .load 29 p) (hx : a.eval p = .pointer (some ⟨g, 0, none⟩))
    (hK : wpList Try.prog ops Q rest (a.put o.dst (.agg (hubC x h))) W) : wpList Try.prog ops Q (o :: rest) a W :=
  BigFrame.wpList_want hw fun _ hK' => wp_load_row 29 p ho g hx 29 (hubC x h) (0, 0) _ hg Try.underlying29 rfl (by rw [hubC_size]; kernel_rfl) (hK' _ _ hK)
set_option maxRecDepth 100000 in
theorem storeHb {ops : Array Oper} {rest : List Oper} {o : Oper} {a : Act} {Q : Exit → Act → World → Prop} (W : World) (p y : Operand) (g : Nat) (x : Wh) (h : Hb) (old : Array Value)
    (hg : W.heap[g]? = some (.cells old 29 (0, 0))) (hold : old.size = 21) (hw : Region.wanted o (yielded ops a.tmps) = true) (ho : o.op = .store 29 p y) (hx : a.eval p = .pointer (some ⟨g, 0, none⟩)) (hy : a.eval y = .agg (hubC x h))
    (hK : wpList Try.prog ops Q rest (a.put o.dst undef) (W.setRow g (hubC x h))) : wpList Try.prog ops Q (o :: rest) a W :=
  BigFrame.wpList_want hw fun _ hK' => wp_store_row 29 p y ho g (hubC x h) hx hy 29 old hg (by rw [hubC_size]; kernel_rfl) (by rw [hubC_size]; exact hold) (hubC_one x h) (hK' _ _ hK)
end Go.Proofs.Ytplekllhnpljiaa
/- The document's answers (hub): Any, Few. -/

namespace Go.Proofs.Ytplekllhnpljiaa
open Go.RowKit

set_option maxRecDepth 100000 in
/-- a hub's box, made -/
theorem boxH1 (W : World) (x : Wh) (h : Hb) : ∃ V C, C = hubC x h ∧ V = W.alloc (.cells C 29) ∧ Below W.heap.size W V ∧ BoxH V W.heap.size x h := ⟨_, _, rfl, rfl, (Below.refl W.heap.size W).alloc (Nat.le_refl _) _, heap_alloc_new W _⟩
set_option maxRecDepth 100000 in
theorem refAny_any (x : Wh) (h : Hb) (W : World) : Calls Try.prog 17 #[.agg (hubC x h)] W fun e W' => e = .returned (.bool (anyH h)) ∧ Below W.heap.size W W' := by
  obtain ⟨V, C, hC, hV, hb, hg⟩ := boxH1 W x h
  have x0 := hg.cell (hubC_up x h (show 0 < 4 by decide))
  have x1 := hg.cell (hubC_up x h (show 1 < 4 by decide))
  have x2 := hg.cell (hubC_up x h (show 2 < 4 by decide))
  have x3 := hg.cell (hubC_up x h (show 3 < 4 by decide))
  have HB := Lib.hid hb
  have HV := Lib.hid hV
  rw [← hC]
  rw [hV] at x0 x1 x2 x3
  unfold anyH
  generalize h.up 0 = u0 at *
  generalize h.up 1 = u1 at *
  generalize h.up 2 = u2 at *
  generalize h.up 3 = u3 at *
  clear hg hb hC hV
  cases u0 <;> cases u1 <;> cases u2 <;> cases u3
  all_goals
    go_enter Try.func17, Try.ntmps17
    go_wp2
    go_ret
    exact ⟨rfl, by rw [← HV.out]; exact HB.out⟩
/-- few bytes in each feed -/
def fewH (h : Hb) : Prop := (h.fd 0).buf.length ≤ 1200 ∧ (h.fd 1).buf.length ≤ 1200 ∧ (h.fd 2).buf.length ≤ 1200 ∧ (h.fd 3).buf.length ≤ 1200
instance (h : Hb) : Decidable (fewH h) := by unfold fewH; infer_instance
set_option maxRecDepth 100000 in
theorem fewH.at_ {h : Hb} (k : fewH h) {i : Nat} (hi : i < 4) : (h.fd i).buf.length ≤ 1200 := by rcases lt4 hi with rfl | rfl | rfl | rfl; exact k.1; exact k.2.1; exact k.2.2.1; exact k.2.2.2
set_option maxRecDepth 100000 in
theorem refFew_any (x : Wh) (h : Hb) (W : World) : Calls Try.prog 9 #[.agg (hubC x h)] W fun e W' => e = .returned (.bool (decide (fewH h))) ∧ Below W.heap.size W W' := by
  obtain ⟨V, C, hC, hV, hb, hg⟩ := boxH1 W x h
  have x0 := hg.cell (hubC_buf x h (show 0 < 4 by decide))
  have x1 := hg.cell (hubC_buf x h (show 1 < 4 by decide))
  have x2 := hg.cell (hubC_buf x h (show 2 < 4 by decide))
  have x3 := hg.cell (hubC_buf x h (show 3 < 4 by decide))
  have HB := Lib.hid hb
  have HV := Lib.hid hV
  rw [← hC]
  rw [hV] at x0 x1 x2 x3
  have e9 : decide (fewH h) = (decide (((h.fd 0).buf.length : Int) ≤ 1200) && decide (((h.fd 1).buf.length : Int) ≤ 1200) && decide (((h.fd 2).buf.length : Int) ≤ 1200) && decide (((h.fd 3).buf.length : Int) ≤ 1200)) := by
    rw [Bool.eq_iff_iff]
    simp only [Bool.and_eq_true, decide_eq_true_eq]
    unfold fewH
    omega
  rw [e9]
  unfold slH at x0 x1 x2 x3
  generalize (h.fd 0).buf.length = n0 at *
  generalize (h.fd 1).buf.length = n1 at *
  generalize (h.fd 2).buf.length = n2 at *
  generalize (h.fd 3).buf.length = n3 at *
  simp only [Nat.zero_mul, Nat.one_mul, Nat.add_zero, Nat.reduceMul, Nat.reduceAdd] at x0 x1 x2 x3
  clear hg hb hC hV e9
  by_cases h0 : (n0 : Int) ≤ 1200
  · by_cases h1 : (n1 : Int) ≤ 1200
    · by_cases h2 : (n2 : Int) ≤ 1200
      · by_cases h3 : (n3 : Int) ≤ 1200
        all_goals
          go_enter Try.func9, Try.ntmps9
          go_wp2
          go_ret
          exact ⟨by simp [h0, h1, h2, h3], by rw [← HV.out]; exact HB.out⟩
      · go_enter Try.func9, Try.ntmps9
        go_wp2
        go_ret
        exact ⟨by rw [show decide ((n2 : Int) ≤ 1200) = false from decide_eq_false (by omega)]; simp, by rw [← HV.out]; exact HB.out⟩
    · go_enter Try.func9, Try.ntmps9
      go_wp2
      go_ret
      exact ⟨by rw [show decide ((n1 : Int) ≤ 1200) = false from decide_eq_false (by omega)]; simp, by rw [← HV.out]; exact HB.out⟩
  · go_enter Try.func9, Try.ntmps9
    go_wp2
    go_ret
    exact ⟨by rw [show decide ((n0 : Int) ≤ 1200) = false from decide_eq_false (by omega)]; simp, by rw [← HV.out]; exact HB.out⟩
end Go.Proofs.Ytplekllhnpljiaa
/- The document's answers (hub): Right. -/

namespace Go.Proofs.Ytplekllhnpljiaa
open Go.RowKit

def OkC (h : Hb) (i : Nat) : Prop := RightFd (h.fd i) ∧ (h.up i = false → h.fd i = fd0)
instance : DecidableEq Fd := fun a b => decidable_of_iff (a.buf = b.buf ∧ a.skip = b.skip ∧ a.bad = b.bad) ⟨fun k => Fd.ext' k.1 k.2.1 k.2.2, fun k => by subst k; exact ⟨rfl, rfl, rfl⟩⟩
instance (h : Hb) (i : Nat) : Decidable (OkC h i) := by unfold OkC; infer_instance
instance (h : Hb) : Decidable (RightHb h) := by unfold RightHb; infer_instance
set_option maxRecDepth 100000 in
theorem Fd.eq3 {l : List UInt8} {s b : Int} : (l = [] ∧ s = 0 ∧ b = 0) ↔ (⟨l, s, b⟩ : Fd) = fd0 := by
  unfold fd0
  constructor
  · rintro ⟨rfl, rfl, rfl⟩; rfl
  · intro h; injection h with h1 h2 h3; exact ⟨h1, h2, h3⟩
set_option maxRecDepth 100000 in
set_option maxHeartbeats 4000000 in
theorem refRight9_any (x : Wh) (h : Hb) (W : World) (hr : HubR W x h) : Calls Try.prog 10 #[.agg (hubC x h)] W fun e W' => e = .returned (.bool (decide (RightHb h))) ∧ Below W.heap.size W W' := by
  obtain ⟨V, C, hC, hV, hb, hg⟩ := boxH1 W x h
  have HB := Lib.hid hb
  have HV := Lib.hid hV
  have HG := Lib.hid hg
  have HR := Lib.hid (hr.go hb)
  rw [← hC]
  obtain ⟨D, hD⟩ : ∃ D, D = decide (RightHb h) := ⟨_, rfl⟩
  rw [← hD]
  have HDE := Lib.hid hD
  clear hg hb hC hV hr hD
  go_enter Try.func10, Try.ntmps10
  go_wp2
  rw [← HV.out]
  go_loopw [3] (fun i wr => ∃ k : Nat, k ≤ 4 ∧ i = .int .i64 k ∧ Hid (∀ i, i < k → OkC h i) ∧ Hid (BoxH wr W.heap.size x h) ∧ Hid (HubR wr x h) ∧ Hid (Below W.heap.size W wr)) (fun i _ => 4 - (intOf i).toNat)
  case atStart => exact ⟨0, Nat.zero_le _, rfl, Lib.hid (fun i hi => absurd hi (by omega)), HG, HR, HB⟩
  case round =>
    clear HG HR HB HV
    obtain ⟨k, hk, rfl, HK, HG, HR, HB⟩ := hrel
    by_cases hlt : k < 4
    · have hki : (k : Int) < 4 := by omega
      have hk0 : (0 : Int) ≤ (k : Int) := Int.natCast_nonneg _
      have x0 := HG.out.cell (hubC_buf x h hlt)
      have x1 := HG.out.cell (hubC_skip x h hlt)
      have x2 := HG.out.cell (hubC_bad x h hlt)
      unfold slH at x0
      go_wp2_with fail
      refine (refRight8_any (x k).1 (h.fd k).buf (x k).2 (h.fd k).skip (h.fd k).bad wr (HR.out k hlt).2.2).mono ?_
      rintro e w1 ⟨rfl, hb1⟩
      have HB1 := Lib.hid (belG HB.out hb1 HB.out.size)
      have HG1 := Lib.hid (HG.out.old hb1 (Nat.le_refl _))
      have HR1 := Lib.hid (HR.out.go hb1)
      clear x0 x1 x2 hb1 HG HR HB
      have x0 := HG1.out.cell (hubC_buf x h hlt)
      have x1 := HG1.out.cell (hubC_skip x h hlt)
      have x2 := HG1.out.cell (hubC_bad x h hlt)
      unfold slH at x0
      go_wp2_with fail
      refine (refSame8_any (x k).1 none (h.fd k).buf [] (x k).2 0 (h.fd k).skip (h.fd k).bad 0 0 w1 (HR1.out k hlt).2.2 Rd.nil).mono ?_
      rintro e w2 ⟨rfl, hb2⟩
      have HB2 := Lib.hid (belG HB1.out hb2 HB1.out.size)
      have HG2 := Lib.hid (HG1.out.old hb2 (Nat.le_refl _))
      have HR2 := Lib.hid (HR1.out.go hb2)
      clear x0 x1 x2 hb2 HG1 HR1 HB1
      have z0 := HG2.out.cell (hubC_up x h hlt)
      have HOK := Lib.hid (show OkC h k ↔ (decide (RightFd ⟨(h.fd k).buf, (h.fd k).skip, (h.fd k).bad⟩) = true ∧ (h.up k = false → decide ((h.fd k).buf = [] ∧ (h.fd k).skip = 0 ∧ (h.fd k).bad = 0) = true)) from by
        rw [decide_eq_true_eq, decide_eq_true_eq, Fd.eq3]
        exact Iff.rfl)
      generalize decide (RightFd ⟨(h.fd k).buf, (h.fd k).skip, (h.fd k).bad⟩) = p at *
      generalize decide ((h.fd k).buf = [] ∧ (h.fd k).skip = 0 ∧ (h.fd k).bad = 0) = q at *
      generalize h.up k = u at *
      have HNO := Lib.hid (show ¬ OkC h k → RightHb h → False from fun h1 h2 => h1 (h2.1 k hlt))
      by_cases hok : OkC h k
      · obtain ⟨hp, hq⟩ := HOK.out.1 hok
        subst hp
        have HKK := Lib.hid (show ∀ i, i < k + 1 → OkC h i from fun i hi => by
          by_cases e : i = k
          · subst e; exact hok
          · exact HK.out i (by omega))
        clear hok HOK HNO HK
        cases u with
        | true =>
          clear hq
          go_wp2
          go_roundw
          case rel => exact ⟨k + 1, by omega, by go_num, HKK, HG2, HR2, HB2⟩
          case measure => simp [intOf]; omega
        | false =>
          obtain rfl := hq rfl
          clear hq
          go_wp2
          go_roundw
          case rel => exact ⟨k + 1, by omega, by go_num, HKK, HG2, HR2, HB2⟩
          case measure => simp [intOf]; omega
      · obtain rfl : D = false := HDE.out.trans (decide_eq_false (fun h2 => HNO.out hok h2))
        have hn := mt HOK.out.2 hok
        clear hok HOK HNO HK
        cases p with
        | false =>
          clear hn
          go_wp2
          go_ret
          exact ⟨rfl, HB2.out⟩
        | true =>
          cases u with
          | true => exact absurd ⟨rfl, fun e => Bool.noConfusion e⟩ hn
          | false =>
            cases q with
            | true => exact absurd ⟨rfl, fun _ => rfl⟩ hn
            | false =>
              clear hn
              go_wp2
              go_ret
              exact ⟨rfl, HB2.out⟩
    · have hki : ¬ (k : Int) < 4 := by omega
      have hk4 : k = 4 := by omega
      subst hk4
      have x0 := HG.out.cell (hubC_next x h)
      have HD := Lib.hid (show RightHb h ↔ (0 ≤ h.next ∧ h.next < 4) from ⟨fun h1 => h1.2, fun h1 => ⟨HK.out, h1⟩⟩)
      by_cases h1 : 0 ≤ h.next ∧ h.next < 4
      · obtain rfl : D = true := HDE.out.trans (decide_eq_true (HD.out.2 h1))
        obtain ⟨i1, i2⟩ := h1
        clear HD
        generalize h.next = nx at *
        go_wp2
        go_ret
        exact ⟨by first | rfl | (simp [i2]; done), HB.out⟩
      · obtain rfl : D = false := HDE.out.trans (decide_eq_false (fun h2 => h1 (HD.out.1 h2)))
        clear HD
        generalize h.next = nx at *
        by_cases h2 : (0 : Int) ≤ nx
        · have i2 : ¬ nx < 4 := fun e => h1 ⟨h2, e⟩
          clear h1
          go_wp2
          go_ret
          exact ⟨by first | rfl | (simp; done) | (simp; omega), HB.out⟩
        · clear h1
          go_wp2
          go_ret
          exact ⟨by first | rfl | (simp; done) | (simp; omega), HB.out⟩
end Go.Proofs.Ytplekllhnpljiaa
/- The document's answers (hub): Same. -/

namespace Go.Proofs.Ytplekllhnpljiaa
open Go.RowKit

set_option maxRecDepth 100000 in
theorem boxH2 (W : World) (x y : Wh) (h k : Hb) : ∃ V C D, C = hubC x h ∧ D = hubC y k ∧ V = (W.alloc (.cells C 29)).alloc (.cells D 29) ∧ Below W.heap.size W V ∧ BoxH V W.heap.size x h ∧ BoxH V (W.heap.size + 1) y k := by
  obtain ⟨V, hV, hb, g1, g2⟩ := box2x W (hubC x h) (hubC y k) 29 29
  exact ⟨V, _, _, rfl, rfl, hV, hb, g1, g2⟩
instance (a b : Hb) : Decidable (SameHb a b) := by unfold SameHb; infer_instance
set_option maxRecDepth 100000 in
set_option maxHeartbeats 4000000 in
theorem refSame9_any (x y : Wh) (h r : Hb) (W : World) (hr : HubR W x h) (hs : HubR W y r) : Calls Try.prog 13 #[.agg (hubC x h), .agg (hubC y r)] W fun e W' => e = .returned (.bool (decide (SameHb h r))) ∧ Below W.heap.size W W' := by
  obtain ⟨V, C, D, hC, hD, hV, hb, hg, hg2⟩ := boxH2 W x y h r
  have HB := Lib.hid hb
  have HV := Lib.hid hV
  have HG := Lib.hid hg
  have HJ := Lib.hid hg2
  have HR := Lib.hid (hr.go hb)
  have HS := Lib.hid (hs.go hb)
  rw [← hC, ← hD]
  obtain ⟨E, hE⟩ : ∃ E, E = decide (SameHb h r) := ⟨_, rfl⟩
  rw [← hE]
  have HDE := Lib.hid hE
  clear hg hg2 hb hC hD hV hr hs hE
  go_enter Try.func13, Try.ntmps13
  go_wp2
  rw [← HV.out]
  go_loopw [5] (fun i wr => ∃ k : Nat, k ≤ 4 ∧ i = .int .i64 k ∧ Hid (∀ i, i < k → h.fd i = r.fd i ∧ h.up i = r.up i ∧ h.life i = r.life i) ∧ Hid (BoxH wr W.heap.size x h) ∧ Hid (BoxH wr (W.heap.size + 1) y r) ∧ Hid (HubR wr x h) ∧ Hid (HubR wr y r) ∧ Hid (Below W.heap.size W wr)) (fun i _ => 4 - (intOf i).toNat)
  case atStart => exact ⟨0, Nat.zero_le _, rfl, Lib.hid (fun i hi => absurd hi (by omega)), HG, HJ, HR, HS, HB⟩
  case round =>
    clear HG HJ HR HS HB HV
    obtain ⟨k, hk, rfl, HK, HG, HJ, HR, HS, HB⟩ := hrel
    by_cases hlt : k < 4
    · have hki : (k : Int) < 4 := by omega
      have hk0 : (0 : Int) ≤ (k : Int) := Int.natCast_nonneg _
      have CS := Lib.hid (fun w (hb : Below wr.heap.size wr w) => refSame8_any (x k).1 (y k).1 (h.fd k).buf (r.fd k).buf (x k).2 (y k).2 (h.fd k).skip (h.fd k).bad (r.fd k).skip (r.fd k).bad w ((HR.out k hlt).2.2.go hb) ((HS.out k hlt).2.2.go hb))
      have KEEP := Lib.hid (fun w' (hb : Below wr.heap.size wr w') => (show Below wr.heap.size wr w' ∧ w'.cell? ⟨W.heap.size, 4 + k * 3, none⟩ = some (slH x h k) ∧ w'.cell? ⟨W.heap.size, 4 + k * 3 + 1, none⟩ = some (.int .i64 (h.fd k).skip) ∧ w'.cell? ⟨W.heap.size, 4 + k * 3 + 2, none⟩ = some (.int .i64 (h.fd k).bad) ∧ w'.cell? ⟨W.heap.size + 1, 4 + k * 3, none⟩ = some (slH y r k) ∧ w'.cell? ⟨W.heap.size + 1, 4 + k * 3 + 1, none⟩ = some (.int .i64 (r.fd k).skip) ∧ w'.cell? ⟨W.heap.size + 1, 4 + k * 3 + 2, none⟩ = some (.int .i64 (r.fd k).bad) from
        ⟨hb, (HG.out.old hb (Nat.le_refl _)).cell (hubC_buf x h hlt), (HG.out.old hb (Nat.le_refl _)).cell (hubC_skip x h hlt), (HG.out.old hb (Nat.le_refl _)).cell (hubC_bad x h hlt), (HJ.out.old hb (Nat.le_refl _)).cell (hubC_buf y r hlt), (HJ.out.old hb (Nat.le_refl _)).cell (hubC_skip y r hlt), (HJ.out.old hb (Nat.le_refl _)).cell (hubC_bad y r hlt)⟩))
      unfold slH at KEEP
      have BB0 := Lib.hid ((Below.refl wr.heap.size wr).drew)
      have HOK := Lib.hid (show (h.fd k = r.fd k) ↔ decide ((h.fd k).buf = (r.fd k).buf ∧ (h.fd k).skip = (r.fd k).skip ∧ (h.fd k).bad = (r.fd k).bad) = true from by
        rw [decide_eq_true_eq]
        exact ⟨fun e => by rw [e]; exact ⟨rfl, rfl, rfl⟩, fun e => Fd.ext' e.1 e.2.1 e.2.2⟩)
      have HNO := Lib.hid (show SameHb h r → h.fd k = r.fd k ∧ h.up k = r.up k ∧ h.life k = r.life k from fun e => e.1 k hlt)
      generalize decide ((h.fd k).buf = (r.fd k).buf ∧ (h.fd k).skip = (r.fd k).skip ∧ (h.fd k).bad = (r.fd k).bad) = p at *
      generalize (h.fd k).buf.length = n1 at *
      generalize (r.fd k).buf.length = n2 at *
      generalize (h.fd k).skip = s1 at *
      generalize (r.fd k).skip = s2 at *
      generalize (h.fd k).bad = b1 at *
      generalize (r.fd k).bad = b2 at *
      go_wp2_with fail
      go_region_held3 (fun w' => Below wr.heap.size wr w' ∧ w'.cell? ⟨W.heap.size, 4 + k * 3, none⟩ = some (.slice (x k).1 n1 (x k).2) ∧ w'.cell? ⟨W.heap.size, 4 + k * 3 + 1, none⟩ = some (.int .i64 s1) ∧ w'.cell? ⟨W.heap.size, 4 + k * 3 + 2, none⟩ = some (.int .i64 b1) ∧ w'.cell? ⟨W.heap.size + 1, 4 + k * 3, none⟩ = some (.slice (y k).1 n2 (y k).2) ∧ w'.cell? ⟨W.heap.size + 1, 4 + k * 3 + 1, none⟩ = some (.int .i64 s2) ∧ w'.cell? ⟨W.heap.size + 1, 4 + k * 3 + 2, none⟩ = some (.int .i64 b2))
        (first | with_reducible exact KEEP.out _ BB0.out | with_reducible exact KEEP.out _ BB1.out)
        (first
        | (go_at_call 27; (with_reducible refine (CS.out _ BB0.out).mono ?_); rintro e wz ⟨rfl, hb⟩; have BB1 := Lib.hid (belG BB0.out hb BB0.out.size); clear hb))
      have HGz := Lib.hid (HG.out.old BB1.out (Nat.le_refl _))
      have HJz := Lib.hid (HJ.out.old BB1.out (Nat.le_refl _))
      have HRz := Lib.hid (HR.out.go BB1.out)
      have HSz := Lib.hid (HS.out.go BB1.out)
      have HBz := Lib.hid (belG HB.out BB1.out HB.out.size)
      have y0 := HGz.out.cell (hubC_up x h hlt)
      have y1 := HJz.out.cell (hubC_up y r hlt)
      have y2 := HGz.out.cell (hubC_life x h hlt)
      have y3 := HJz.out.cell (hubC_life y r hlt)
      have HKS := Lib.hid (fun (a1 : h.fd k = r.fd k) (a2 : h.up k = r.up k) (a3 : h.life k = r.life k) => show ∀ i, i < k + 1 → h.fd i = r.fd i ∧ h.up i = r.up i ∧ h.life i = r.life i from fun i hi => by
        by_cases e : i = k
        · subst e; exact ⟨a1, a2, a3⟩
        · exact HK.out i (by omega))
      generalize h.up k = u1 at *
      generalize r.up k = u2 at *
      generalize h.life k = l1 at *
      generalize r.life k = l2 at *
      clear BB0 BB1 KEEP CS HG HJ HR HS HB HK
      have hkq : 4 + k * 3 = 4 + k * 3 := rfl
      clear hkq
      cases p with
      | false =>
        obtain rfl : E = false := HDE.out.trans (decide_eq_false (fun e => Bool.noConfusion (HOK.out.1 (HNO.out e).1)))
        clear HOK HNO HKS y0 y1 y2 y3
        go_wp2_with fail
        go_quiet (fail)
        go_wp2
        go_ret
        exact ⟨rfl, below_drewN HBz.out _⟩
      | true =>
        have hfd := HOK.out.2 rfl
        by_cases hu : u1 = u2
        · subst hu
          by_cases hl : l1 = l2
          · subst hl
            have HKK := Lib.hid (HKS.out hfd rfl rfl)
            clear HOK HNO HKS hfd
            cases u1 <;>
            · go_wp2_with fail
              go_quiet (fail)
              go_wp2
              go_roundw
              case rel => exact ⟨k + 1, by omega, by go_num, HKK, Lib.hid (HGz.out.old (below_drewN (Below.refl _ _) _) (Nat.le_refl _)), Lib.hid (HJz.out.old (below_drewN (Below.refl _ _) _) (Nat.le_refl _)), Lib.hid (HRz.out.go (below_drewN (Below.refl _ _) _)), Lib.hid (HSz.out.go (below_drewN (Below.refl _ _) _)), Lib.hid (below_drewN HBz.out _)⟩
              case measure => simp [intOf]; omega
          · obtain rfl : E = false := HDE.out.trans (decide_eq_false (fun e => hl (HNO.out e).2.2))
            clear HOK HNO HKS hfd
            cases u1 <;>
            · go_wp2_with fail
              go_quiet (fail)
              go_wp2
              go_ret
              exact ⟨rfl, below_drewN HBz.out _⟩
        · obtain rfl : E = false := HDE.out.trans (decide_eq_false (fun e => hu (HNO.out e).2.1))
          clear HOK HNO HKS hfd
          cases u1 <;> cases u2
          · exact absurd rfl hu
          · clear hu
            go_wp2_with fail
            go_quiet (fail)
            go_wp2
            go_ret
            exact ⟨rfl, below_drewN HBz.out _⟩
          · clear hu
            go_wp2_with fail
            go_quiet (fail)
            go_wp2
            go_ret
            exact ⟨rfl, below_drewN HBz.out _⟩
          · exact absurd rfl hu
    · have hki : ¬ (k : Int) < 4 := by omega
      have hk4 : k = 4 := by omega
      subst hk4
      have x0 := HG.out.cell (hubC_next x h)
      have x1 := HJ.out.cell (hubC_next y r)
      have HD := Lib.hid (show SameHb h r ↔ h.next = r.next from ⟨fun h1 => h1.2, fun h1 => ⟨HK.out, h1⟩⟩)
      generalize h.next = n1 at *
      generalize r.next = n2 at *
      by_cases he : n1 = n2
      · obtain rfl : E = true := HDE.out.trans (decide_eq_true (HD.out.2 he))
        subst he
        clear HD
        go_wp2
        go_ret
        exact ⟨by first | rfl | (simp; done), by first | exact HB.out | exact below_drewN HB.out _⟩
      · obtain rfl : E = false := HDE.out.trans (decide_eq_false (fun h2 => he (HD.out.1 h2)))
        clear HD
        go_wp2
        go_ret
        exact ⟨by first | rfl | (simp [he]; done), by first | exact HB.out | exact below_drewN HB.out _⟩
end Go.Proofs.Ytplekllhnpljiaa
