
/- mac.Tag, mac.Kcv. -/
import Derived.Test.YtplekllhnpljiaaJ21
import Derived.Test.YtplekllhnpljiaaJ02
import Derived.Lib.AppendStr
import Derived.Test.YtplekllhnpljiaaJ14
import Derived.Test.YtplekllhnpljiaaJ11
namespace Go.Proofs.Ytplekllhnpljiaa
open Go.RowKit

set_option maxRecDepth 100000 in
theorem made8 : madeCells #[Value.int .u8 0] 8 = (cs (List.replicate 8 0)).toArray := madeB 8
/-- a check value -/
def kcvF (k : List UInt8) : List UInt8 := (tagF k (List.replicate 8 0)).take 3
set_option maxRecDepth 100000 in
theorem kcvF_length (k : List UInt8) : (kcvF k).length = 3 := by unfold kcvF; rw [List.length_take, tagF_length]; rfl
set_option maxRecDepth 100000 in
theorem rd3 {w : World} {B : Nat} {A : Option Addr} {l : List UInt8} (h : Rd w B A l) (hl : 3 ≤ l.length) : Rd w B A (l.take 3) := by
  intro h0
  obtain ⟨b, o, e, hb, hc⟩ := h (by omega)
  refine ⟨b, o, e, hb, fun j hj => ?_⟩
  rw [hc j (by rw [List.length_take] at hj; omega), List.getElem_take]

end Go.Proofs.Ytplekllhnpljiaa
/- mac.Derive: what is told of a label and parts. -/

namespace Go.Proofs.Ytplekllhnpljiaa
open Go.RowKit

def piece (p : List UInt8) : List UInt8 := UInt8.ofNat (p.length / 256) :: UInt8.ofNat p.length :: p
def toldN (s : List UInt8) (ps : List (List UInt8)) (j : Nat) : List UInt8 := (UInt8.ofNat s.length :: s) ++ (ps.take j).flatMap piece
def toldF (s : List UInt8) (ps : List (List UInt8)) : List UInt8 := toldN s ps ps.length
set_option maxRecDepth 100000 in
theorem told_zero (s : List UInt8) (ps : List (List UInt8)) : toldN s ps 0 = [UInt8.ofNat s.length] ++ s := by simp [toldN]
set_option maxRecDepth 100000 in
theorem told_succ (s : List UInt8) (ps : List (List UInt8)) (j : Nat) (h : j < ps.length) : toldN s ps (j + 1) = (toldN s ps j ++ [UInt8.ofNat ((ps.getD j []).length / 256), UInt8.ofNat (ps.getD j []).length]) ++ ps.getD j [] := by
  have e : ps.getD j [] = ps[j] := by rw [List.getD_eq_getElem?_getD, List.getElem?_eq_getElem h]; rfl
  unfold toldN
  rw [e, List.take_succ_eq_append_getElem h, List.flatMap_append]
  simp [piece]
set_option maxRecDepth 100000 in
theorem told_length (s : List UInt8) (ps : List (List UInt8)) (j : Nat) (h : j ≤ ps.length) : (toldN s ps j).length = 1 + s.length + 2 * j + tot ps j := by
  induction j with
  | zero => rw [told_zero]; simp [tot]; omega
  | succ j ih =>
    rw [told_succ s ps j (by omega), tot_succ ps j (by omega)]
    have e : ps.getD j [] = ps[j]'(by omega) := by rw [List.getD_eq_getElem?_getD, List.getElem?_eq_getElem (by omega)]; rfl
    rw [List.length_append, List.length_append, ih (by omega), e]
    simp only [List.length_cons, List.length_nil]
    omega
set_option maxRecDepth 100000 in
theorem strCells_cs (s : ByteArray) : Lib.strCells s = cs s.data.toList := rfl
set_option maxRecDepth 100000 in
theorem str_len (s : ByteArray) : s.data.toList.length = s.size := Array.length_toList
set_option maxRecDepth 100000 in
/-- appending a string's bytes -/
theorem wpList_appStr {ops : Array Oper} {rest : List Oper} {o : Oper} {a : Act} {Q : Exit → Act → World → Prop} (hgd : o.guard = none) (w : World) (sl x : Operand)
    (ho : o.op = .call { callee := .builtin .append, args := #[sl, x], argTypes := #[23, 9] })
    (base : Nat) (v : Value) (l : List UInt8) (hs : a.eval sl = v) (h : Ow w base v l) (s : ByteArray) (hx : a.eval x = .string s) (hlen : l.length + s.size ≤ 100000000) (hbase : base ≤ w.heap.size)
    (hK : ∀ v' w', Ow w' base v' (l ++ s.data.toList) → w.grownBy w' v.ownBlock → wpList Try.prog ops Q rest (a.put o.dst v') w') : wpList Try.prog ops Q (o :: rest) a w := by
  obtain ⟨i0, hi, hz0, hz1, hz2⟩ := info_parts info5
  refine Lib.wpList_append_own_string w hgd sl x 23 9 ho base 5 i0 Try.underlying23 Try.underlying9 hi hz0 hz1 hz2 v l.length (cs l) hs h s hx (by unfold maxLen; omega) (by omega) hbase ?_
  intro v' w' h1 h2 _
  refine hK v' w' ?_ h2
  unfold Ow
  rw [List.length_append, cs_append, str_len]
  exact h1
set_option maxRecDepth 100000 in
theorem Ow.made1i (w : World) {base : Nat} (hb : base ≤ w.heap.size) (n : Int) (x : UInt8) (h : n = (x.toNat : Int)) : Ow (w.alloc (.cells #[.int .u8 n] 5)) base (.slice (some ⟨w.heap.size, 0, none⟩) 1 1) [x] := by
  subst h
  exact Ow.made1 w hb x
set_option maxRecDepth 100000 in
theorem news2i (w : World) (a b : Int) (x y : UInt8) (ha : a = (x.toNat : Int)) (hb : b = (y.toNat : Int)) : ∀ j u, (cs [x, y])[j]? = some u → (w.alloc (.cells #[.int .u8 a, .int .u8 b] 5)).cell? ((⟨w.heap.size, 0, none⟩ : Addr).add j) = some u := by
  subst ha hb
  exact news2 w x y

end Go.Proofs.Ytplekllhnpljiaa
/- The document's Long, at any bound; Rows. -/

namespace Go.Proofs.Ytplekllhnpljiaa
open Go.RowKit

/-- what Long tells at M -/
def LongAt (M : Nat) (ls : List (List UInt8)) (e : Ending) : Prop := ∃ r : Int, e = .returned (.int .i64 r) ∧ (r ≤ M → ls.length + tot ls ls.length ≤ M)
end Go.Proofs.Ytplekllhnpljiaa
/- Rows, bytes and boxes beside each other: what a store into a box, and a growth, leave. -/

namespace Go.Proofs.Ytplekllhnpljiaa
open Go.RowKit

set_option maxRecDepth 100000 in
theorem ownsRow_ne {w : World} {b : Nat} {e t : TypeId} {s n g : Nat} {v : Value} {xs : List Value} {cur : Array Value} {fr : Nat × Nat} (h : w.ownsRow b e s v n xs) (hg : w.heap[g]? = some (.cells cur t fr)) (ht : e ≠ t) : v.ownBlock ≠ some g := by
  rcases h.2 with ⟨rfl, _⟩ | ⟨g2, cap, cur2, rfl, _, hg2, _⟩
  · simp [Value.ownBlock]
  · simp only [Value.ownBlock]
    intro e2
    cases Option.some.inj e2
    rw [hg] at hg2
    cases hg2
    exact ht rfl
set_option maxRecDepth 100000 in
/-- a box, where bytes or rows of the call's own grow -/
theorem Ow.box {w w' : World} {base g : Nat} {v : Value} {l : List UInt8} {cur : Array Value} {t : TypeId} {fr : Nat × Nat} (h : Ow w base v l) (hg : w.heap[g]? = some (.cells cur t fr)) (ht : 5 ≠ t) (hgr : w.grownBy w' v.ownBlock) : w'.heap[g]? = some (.cells cur t fr) :=
  (hgr.block g (Array.getElem?_eq_some_iff.1 hg).1 (fun e => ownsRow_ne h hg ht e.symm)).trans hg
set_option maxRecDepth 100000 in
theorem OwR.box {w w' : World} {base g : Nat} {v : Value} {us : List Value} {cur : Array Value} {t : TypeId} {fr : Nat × Nat} (h : OwR w base v us) (hg : w.heap[g]? = some (.cells cur t fr)) (ht : 23 ≠ t) (hgr : w.grownBy w' v.ownBlock) : w'.heap[g]? = some (.cells cur t fr) :=
  (hgr.block g (Array.getElem?_eq_some_iff.1 hg).1 (fun e => ownsRow_ne h.owns hg ht e.symm)).trans hg
set_option maxRecDepth 100000 in
/-- bytes and rows of the call's own, where one block of another kind changes -/
theorem Ow.keep3 {w w' : World} {base g : Nat} {v : Value} {l : List UInt8} {cur : Array Value} {t : TypeId} {fr : Nat × Nat} (h : Ow w base v l) (hg : w.heap[g]? = some (.cells cur t fr)) (ht : 5 ≠ t) (hk : ∀ k, k ≠ g → w'.heap[k]? = w.heap[k]?) : Ow w' base v l := by
  have hne := ownsRow_ne h hg ht
  refine ⟨h.1, ?_⟩
  rcases h.2 with h0 | ⟨g', cap, cur, rfl, h1, hg', h2⟩
  · exact .inl h0
  · exact .inr ⟨g', cap, cur, rfl, h1, (hk g' (fun e => hne (by simp [Value.ownBlock, e]))).trans hg', h2⟩
set_option maxRecDepth 100000 in
theorem OwR.keep3 {w w' : World} {base g : Nat} {v : Value} {us : List Value} {cur : Array Value} {t : TypeId} {fr : Nat × Nat} (h : OwR w base v us) (hg : w.heap[g]? = some (.cells cur t fr)) (ht : 23 ≠ t) (hk : ∀ k, k ≠ g → w'.heap[k]? = w.heap[k]?) : OwR w' base v us := by
  have hne := ownsRow_ne h.owns hg ht
  rcases h with h0 | ⟨g', cap, cur, rfl, h1, hg', h2⟩
  · exact .inl h0
  · exact .inr ⟨g', cap, cur, rfl, h1, (hk g' (fun e => hne (by simp [Value.ownBlock, e]))).trans hg', h2⟩
set_option maxRecDepth 100000 in
/-- the cells of rows, none of them empty, where an empty feed's box changes -/
theorem RC.keepZ {w w' : World} {g : Nat} {A : Option Addr} {us : List Value} {l : List (List UInt8)} {t : TypeId} {fr : Nat × Nat} (h : RC w w.heap.size A us) (hs : SEs w us l) (hp : ∀ r ∈ l, 1 ≤ r.length) (hg : w.heap[g]? = some (.cells #[.slice none 0 0, .int .i64 0, .int .i64 0] t fr)) (hk : ∀ k, k ≠ g → w'.heap[k]? = w.heap[k]?) (hz : w.heap.size ≤ w'.heap.size) : RC w' w'.heap.size A us := by
  intro h0
  obtain ⟨b, o, e, h1, h2⟩ := h h0
  have hl : 0 < l.length := by rw [← hs.1]; exact h0
  obtain ⟨A1, c1, e1, -, -, -⟩ := hs.2 0 h0 hl
  have hr := hp _ (List.getElem_mem hl)
  have h3 := h2 0 us[0] (List.getElem?_eq_getElem h0)
  have hne : b ≠ g := by
    rintro rfl
    rw [cell_of_row _ _ _ _ _ _ hg, e1] at h3
    have hlt := (Array.getElem?_eq_some_iff.1 h3).1
    simp at hlt
    rcases Nat.lt_or_ge o 1 with ho | ho
    · obtain rfl : o = 0 := by omega
      simp at h3
      omega
    · rcases Nat.lt_or_ge o 2 with ho2 | ho2
      · obtain rfl : o = 1 := by omega
        simp at h3
      · obtain rfl : o = 2 := by omega
        simp at h3
  exact ⟨b, o, e, by omega, fun j u hu => by rw [World.cell?_of_block (w := w) (a := ⟨b, o + j, none⟩) (hk b hne)]; exact h2 j u hu⟩
/-- a feed's box, whose bytes lie apart from the block g -/
def BoxFdA (w : World) (x g : Nat) (f : Fd) : Prop := ∃ A c, w.heap[x]? = some (.cells #[.slice A f.buf.length c, .int .i64 f.skip, .int .i64 f.bad] 25 (0, 0)) ∧ f.buf.length ≤ c ∧ c ≤ 9223372036854775807 ∧ Rd w w.heap.size A f.buf ∧ AwV g (.slice A f.buf.length c)
set_option maxRecDepth 100000 in
theorem wp_appRs {o : Oper} {a : Act} {K : Act → World → Prop} {Q : Exit → Act → World → Prop} (w : World) (s x : Operand)
    (ho : o.op = .call { callee := .builtin .append, args := #[s, x], argTypes := #[42, 42] })
    (base : Nat) (v : Value) (us news : List Value) (hs : a.eval s = v) (h : OwR w base v us) (A : Option Addr) (m c : Nat) (hx : a.eval x = .slice A m c) (hm : m = news.length)
    (hA : 0 < news.length → ∃ ad, A = some ad ∧ ∀ j u, news[j]? = some u → w.cell? (ad.add j) = some u) (hsl : ∀ u ∈ news, ∃ A n c, u = .slice A n c) (hlen : us.length + news.length ≤ 1000000) (hbase : base ≤ w.heap.size)
    (hK : ∀ v' w', OwR w' base v' (us ++ news) → Below base w w' → K (a.put o.dst v') w') : o.wp Try.prog a w K Q := by
  subst hm
  obtain ⟨v', w', hr, h2, h3⟩ := run_appRs o.type w base v us news h A c hA hsl hlen hbase
  unfold Oper.wp execOp
  simp only [ho, resolve, invoke, builtin, Sem.run_bind, Sem.run_pure, Result.andThen_ok, List.map_toArray, List.map_cons, List.map_nil, hs, hx, hr]
  exact hK v' w' h2 (OwR.below h (Below.refl base w) h3 hbase)
/-- what Push answers, apart from the block g -/
def AnsPushA (g : Nat) (W' : World) (e : Ending) (f : Fd) (rs : List (List UInt8)) : Prop := ∃ A1 c1 A2 c2 us, e = .returned (.tuple #[.agg #[.slice A1 f.buf.length c1, .int .i64 f.skip, .int .i64 f.bad], .slice A2 rs.length c2]) ∧ f.buf.length ≤ c1 ∧ c1 ≤ 9223372036854775807 ∧ Rd W' W'.heap.size A1 f.buf ∧ SEs W' us rs ∧ RC W' W'.heap.size A2 us ∧ AwV g (.slice A1 f.buf.length c1) ∧ ∀ u ∈ us, AwV g u
set_option maxRecDepth 100000 in
theorem AnsPushD.apart {N g : Nat} {a b : Value} {W' : World} {e : Ending} {f : Fd} {rs : List (List UInt8)} (h : AnsPushD N a b W' e f rs) (hg : g < N) (ha : AwV g a) (hb : AwV g b) : AnsPushA g W' e f rs := by
  obtain ⟨A1, c1, A2, c2, us, h1, h2, h3, h4, h5, h6, h7, h8, h9⟩ := h
  exact ⟨A1, c1, A2, c2, us, h1, h2, h3, h4, h7, h8, (h9.1 g hg ha hb).1, (h9.1 g hg ha hb).2⟩
set_option maxRecDepth 100000 in
/-- bytes of the call's own that aren't none: in one block -/
theorem Ow.made0L (w : World) {base : Nat} (hb : base ≤ w.heap.size) : Ow (w.alloc (.cells #[] 5)) base (.slice (some ⟨w.heap.size, 0, none⟩) 0 0) [] := Ow.made0 w hb
set_option maxRecDepth 100000 in
theorem Ow.ge {w : World} {base g n c : Nat} {l : List UInt8} (h : Ow w base (.slice (some ⟨g, 0, none⟩) n c) l) : base ≤ g ∧ g < w.heap.size ∧ n = l.length ∧ n ≤ c ∧ c ≤ 9223372036854775807 ∧ Rd w w.heap.size (some ⟨g, 0, none⟩) l := by
  obtain ⟨A, c', e, h1, h2, h3⟩ := h.form
  cases e
  obtain ⟨_, hh⟩ := h
  rcases hh with ⟨e, _⟩ | ⟨g', cap', cur, e, hbg, hg, -⟩
  · cases e
  cases e
  exact ⟨hbg, (Array.getElem?_eq_some_iff.1 hg).1, rfl, h1, h2, h3⟩
end Go.Proofs.Ytplekllhnpljiaa
