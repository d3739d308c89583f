/- mac.Derive: what is told of a label and parts. -/
import Derived.Test.YtgabcbifefokkaaDoorMacC
import Derived.Test.YtgabcbifefokkaaDoorMat
import Derived.Lib.AppendStr
namespace Go.Proofs.YtgabcbifefokkaaDoor
open Go.RowKit

def piece (p : List UInt8) : List UInt8 := UInt8.ofNat (p.length / 256) :: UInt8.ofNat p.length :: p
def toldN (s : List UInt8) (ps : List (List UInt8)) (j : Nat) : List UInt8 := (UInt8.ofNat s.length :: s) ++ (ps.take j).flatMap piece
def toldF (s : List UInt8) (ps : List (List UInt8)) : List UInt8 := toldN s ps ps.length
theorem told_zero (s : List UInt8) (ps : List (List UInt8)) : toldN s ps 0 = [UInt8.ofNat s.length] ++ s := by simp [toldN]
theorem told_succ (s : List UInt8) (ps : List (List UInt8)) (j : Nat) (h : j < ps.length) : toldN s ps (j + 1) = (toldN s ps j ++ [UInt8.ofNat ((ps.getD j []).length / 256), UInt8.ofNat (ps.getD j []).length]) ++ ps.getD j [] := by
  have e : ps.getD j [] = ps[j] := by rw [List.getD_eq_getElem?_getD, List.getElem?_eq_getElem h]; rfl
  unfold toldN
  rw [e, List.take_succ_eq_append_getElem h, List.flatMap_append]
  simp [piece]
theorem told_length (s : List UInt8) (ps : List (List UInt8)) (j : Nat) (h : j ≤ ps.length) : (toldN s ps j).length = 1 + s.length + 2 * j + tot ps j := by
  induction j with
  | zero => rw [told_zero]; simp [tot]; omega
  | succ j ih =>
    rw [told_succ s ps j (by omega), tot_succ ps j (by omega)]
    have e : ps.getD j [] = ps[j]'(by omega) := by rw [List.getD_eq_getElem?_getD, List.getElem?_eq_getElem (by omega)]; rfl
    rw [List.length_append, List.length_append, ih (by omega), e]
    simp only [List.length_cons, List.length_nil]
    omega
theorem strCells_cs (s : ByteArray) : Lib.strCells s = cs s.data.toList := rfl
theorem str_len (s : ByteArray) : s.data.toList.length = s.size := Array.length_toList
/-- appending a string's bytes -/
theorem wpList_appStr {ops : Array Oper} {rest : List Oper} {o : Oper} {a : Act} {Q : Exit → Act → World → Prop} (hgd : o.guard = none) (w : World) (sl x : Operand)
    (ho : o.op = .call { callee := .builtin .append, args := #[sl, x], argTypes := #[22, 9] })
    (base : Nat) (v : Value) (l : List UInt8) (hs : a.eval sl = v) (h : Ow w base v l) (s : ByteArray) (hx : a.eval x = .string s) (hlen : l.length + s.size ≤ 100000000) (hbase : base ≤ w.heap.size)
    (hK : ∀ v' w', Ow w' base v' (l ++ s.data.toList) → w.grownBy w' v.ownBlock → wpList Tryd.prog ops Q rest (a.put o.dst v') w') : wpList Tryd.prog ops Q (o :: rest) a w := by
  obtain ⟨i0, hi, hz0, hz1, hz2⟩ := info_parts info5
  refine Lib.wpList_append_own_string w hgd sl x 22 9 ho base 5 i0 Tryd.underlying22 Tryd.underlying9 hi hz0 hz1 hz2 v l.length (cs l) hs h s hx (by unfold maxLen; omega) (by omega) hbase ?_
  intro v' w' h1 h2 _
  refine hK v' w' ?_ h2
  unfold Ow
  rw [List.length_append, cs_append, str_len]
  exact h1
theorem Ow.made1i (w : World) {base : Nat} (hb : base ≤ w.heap.size) (n : Int) (x : UInt8) (h : n = (x.toNat : Int)) : Ow (w.alloc (.cells #[.int .u8 n] 5)) base (.slice (some ⟨w.heap.size, 0, none⟩) 1 1) [x] := by
  subst h
  exact Ow.made1 w hb x
theorem news2i (w : World) (a b : Int) (x y : UInt8) (ha : a = (x.toNat : Int)) (hb : b = (y.toNat : Int)) : ∀ j u, (cs [x, y])[j]? = some u → (w.alloc (.cells #[.int .u8 a, .int .u8 b] 5)).cell? ((⟨w.heap.size, 0, none⟩ : Addr).add j) = some u := by
  subst ha hb
  exact news2 w x y

set_option maxRecDepth 100000 in
theorem derive_bad (A P : Option Addr) (n c m d : Nat) (s : ByteArray) (w : World) (hn : m ≤ 9223372036854775807) (hs : s.size ≤ 9223372036854775807) (h : 255 < s.size ∨ 16 < m) :
    Calls Tryd.prog 20 #[.slice A n c, .string s, .slice P m d] w fun e w' => e = .returned (.tuple #[.slice none 0 0, .int .i64 1]) ∧ w = w' := by
  by_cases h1 : 255 < s.size
  · have h1i : (255 : Int) < (s.size : Int) := by omega
    go_enter Tryd.func20, Tryd.ntmps20
    go_wp2
    go_ret2
    exact ⟨rfl, rfl⟩
  · have h1i : ¬ (255 : Int) < (s.size : Int) := by omega
    have h2i : (16 : Int) < (m : Int) := by omega
    go_enter Tryd.func20, Tryd.ntmps20
    go_wp2
    go_ret2
    exact ⟨rfl, rfl⟩
end Go.Proofs.YtgabcbifefokkaaDoor
