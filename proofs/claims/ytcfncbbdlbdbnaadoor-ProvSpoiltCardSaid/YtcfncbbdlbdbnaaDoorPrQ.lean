
/- Spoilt tags: a copy of a tag, and a byte more, while a provider's block may be made at any time. -/
import Derived.Test.YtcfncbbdlbdbnaaDoorPrP
namespace Go.Proofs.YtcfncbbdlbdbnaaDoor
open Go.RowKit

/-- a provider's block of zeros -/
abbrev zcells : Obj := .cells #[.bool false, .slice none 0 0, .bool false] 24
/-- a copy of a row of bytes: append to an empty row of the call's own -/
theorem wp_copyB {o : Oper} {a : Act} {K : Act → World → Prop} {Q : Exit → Act → World → Prop} (w : World) (s x : Operand) (ge base : Nat) (G : Option Addr) (m d : Nat) (us : List UInt8)
    (ho : o.op = .call { callee := .builtin .append, args := #[s, x], argTypes := #[25, 25] })
    (h1 : a.eval s = .slice (some ⟨ge, 0, none⟩) 0 0) (h2 : a.eval x = .slice G m d) (h3 : w.heap[ge]? = some (.cells #[] 5 (0, 0))) (hge : base ≤ ge) (hm : m = us.length) (hm100 : m ≤ 100000) (hr : Rd w w.heap.size G us)
    (hbase : base ≤ w.heap.size) (hK : ∀ (A' : Option Addr) (c' : Nat) (w' : World), Ow w' base (.slice A' m c') us → Below base w w' → (∀ (k : Nat) (c : Array Value) (t : TypeId), c ≠ #[] → w.heap[k]? = some (.cells c t (0, 0)) → w'.heap[k]? = some (.cells c t (0, 0))) → K (a.put o.dst (.slice A' m c')) w') : o.wp Tryd.prog a w K Q := by
  subst hm
  have hown : Ow w base (.slice (some ⟨ge, 0, none⟩) 0 0) [] := ⟨rfl, .inr ⟨ge, 0, #[], rfl, hge, h3, Nat.le_refl _, by simp [maxLen], rfl, rfl⟩⟩
  refine wp_appS w s x ho base _ [] us h1 hown G us.length d w.heap.size h2 rfl hr (by simp only [List.length_nil]; omega) hbase fun v' w' h4 h5 => ?_
  rw [List.nil_append] at h4
  obtain ⟨A', c', rfl, _, _, _⟩ := h4.form
  refine hK A' c' w' h4 (Ow.below hown (Below.refl base w) h5 hbase) fun k c t hc hk => ?_
  have hne : k ≠ ge := by
    rintro rfl
    rw [h3] at hk
    injection hk with hk
    injection hk with hk _
    exact hc hk.symm
  have hlt : k < w.heap.size := (Array.getElem?_eq_some_iff.1 hk).1
  rw [← hk]
  exact h5.block k hlt (fun e => hne (by simpa [Value.ownBlock] using e))
/-- a byte more, behind a row of bytes of the call's own -/
theorem wp_moreB {o : Oper} {a : Act} {K : Act → World → Prop} {Q : Exit → Act → World → Prop} (w : World) (s x : Operand) (gy base : Nat) (A : Option Addr) (m n c : Nat) (us : List UInt8) (y : UInt8)
    (ho : o.op = .call { callee := .builtin .append, args := #[s, x], argTypes := #[25, 25] })
    (h1 : a.eval s = .slice A m c) (h2 : a.eval x = .slice (some ⟨gy, 0, none⟩) 1 1) (hown : Ow w base (.slice A m c) us) (hm : m = us.length) (h0 : 0 < m) (hm100 : m ≤ 100000) (hn : n = m + 1) (h3 : w.heap[gy]? = some (.cells #[.int .u8 (y.toNat : Int)] 5 (0, 0)))
    (hbase : base ≤ w.heap.size) (hK : ∀ (A' : Option Addr) (c' : Nat) (w' : World), n ≤ c' → c' ≤ 9223372036854775807 → Rd w' w'.heap.size A' (us ++ [y]) → Below base w w' → (∀ (k : Nat), w.heap[k]? = some zcells → w'.heap[k]? = some zcells) → K (a.put o.dst (.slice A' n c')) w') : o.wp Tryd.prog a w K Q := by
  subst hm hn
  have hy : Rd w w.heap.size (some ⟨gy, 0, none⟩) [y] := Rd.block (l := [y]) h3
  refine wp_appS w s x ho base _ us [y] h1 hown (some ⟨gy, 0, none⟩) 1 1 w.heap.size h2 rfl hy (by simp only [List.length_cons, List.length_nil]; omega) hbase fun v' w' h4 h5 => ?_
  obtain ⟨A', c', hv', h6, h7, h8⟩ := h4.form
  rw [List.length_append] at hv' h6
  subst hv'
  refine hK A' c' w' h6 h7 h8 (Ow.below hown (Below.refl base w) h5 hbase) fun k hk => ?_
  have hlt : k < w.heap.size := (Array.getElem?_eq_some_iff.1 hk).1
  rw [← hk]
  refine h5.block k hlt fun e => ?_
  rcases hown.2 with ⟨e1, _⟩ | ⟨g', cap', cur, e1, hb, hg, hn, hcap, hsz, htake⟩
  · injection e1 with e1 _ _
    rw [e1] at e
    simp [Value.ownBlock] at e
  · injection e1 with e1 _ _
    rw [e1] at e
    have e2 : k = g' := by simpa [Value.ownBlock] using e
    rw [← e2, hk] at hg
    injection hg with hg
    injection hg with hg _
    rw [← hg] at htake
    cases us with
    | nil => simp at h0
    | cons u us =>
      have h9 := congrArg (fun l => l[0]?) htake
      simp [cs] at h9
theorem Below.set3' {B : Nat} {a w : World} (h : Below B a w) {g : Nat} (hg : B ≤ g) (x y z : Value) : Below B a (((w.setCell ⟨g, 0, none⟩ x).setCell ⟨g, 1, none⟩ y).setCell ⟨g, 2, none⟩ z) := Go.Proofs.YtcfncbbdlbdbnaaDoor.Below.set3 h hg x y z
theorem Obj.old {w : World} {k : Nat} {x : Obj} (h : w.heap[k]? = some x) (o : Obj) : (w.alloc o).heap[k]? = some x := by
  have hlt := (Array.getElem?_eq_some_iff.1 h).1
  rw [← h]
  exact heap_alloc_old w o hlt
theorem Obj.new2 (w : World) (x y : Obj) : ((w.alloc x).alloc y).heap[w.heap.size + 1]? = some y := by
  have h := heap_alloc_new (w.alloc x) y
  rw [World.size_alloc] at h
  exact h
end Go.Proofs.YtcfncbbdlbdbnaaDoor
