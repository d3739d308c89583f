
/- Rows of bytes, where they lie: a slice value and what it reads. -/
import Derived.Test.YtegekmgelnkdbaaStrC
namespace Go.Proofs.Ytegekmgelnkdbaa
open Go.RowKit

/-- where a row lies: its address, and the slice's capacity -/
abbrev Wkb := Option Addr × Nat
def KeyB (w : World) (x : Wkb) (l : List UInt8) : Prop := l.length ≤ x.2 ∧ x.2 ≤ 9223372036854775807 ∧ Rd w w.heap.size x.1 l
set_option maxRecDepth 100000 in
theorem KeyB.go {w w' : World} {x : Wkb} {l : List UInt8} (k : KeyB w x l) (hb : Below w.heap.size w w') : KeyB w' x l := ⟨k.1, k.2.1, k.2.2.go hb⟩
set_option maxRecDepth 100000 in
theorem keyB0 (w : World) : KeyB w (none, 0) [] := ⟨Nat.le_refl _, (by decide : 0 ≤ 9223372036854775807), Rd.nil⟩
set_option maxRecDepth 100000 in
theorem KeyB.setRow {w : World} {g : Nat} {T : TypeId} {C C' : Array Value} {x : Wkb} {l : List UInt8} (k : KeyB w x l) (hg : Bx w g T C) (hn : No8 C) : KeyB (w.setRow g C') x l := ⟨k.1, k.2.1, k.2.2.setRowX hg hn⟩
set_option maxRecDepth 100000 in
theorem KeyB.putX {w : World} {g : Nat} {T : TypeId} {C : Array Value} {x : Wkb} {l : List UInt8} (k : KeyB w x l) (hg : Bx w g T C) (hn : No8 C) (o : Nat) (D : List Value) : KeyB (w.setCells g o D) x l := ⟨k.1, k.2.1, k.2.2.putX hg hn D⟩
set_option maxRecDepth 100000 in
theorem KeyB.put1 {w : World} {g : Nat} {T : TypeId} {C : Array Value} {x : Wkb} {l : List UInt8} (k : KeyB w x l) (hg : Bx w g T C) (hn : No8 C) (o : Nat) (v : Value) : KeyB (w.setCell ⟨g, o, none⟩ v) x l := k.putX hg hn o [v]
set_option maxRecDepth 100000 in
theorem KeyB.take {w : World} {x : Wkb} {l : List UInt8} (h : KeyB w x l) (q : Nat) : KeyB w x (l.take q) := by
  have h1 := h.1
  refine ⟨by rw [List.length_take]; omega, h.2.1, fun h0 => ?_⟩
  rw [List.length_take] at h0
  obtain ⟨b, o, e, hb, hc⟩ := h.2.2 (by omega)
  refine ⟨b, o, e, hb, fun j hj => ?_⟩
  rw [List.length_take] at hj
  rw [hc j (by omega)]
  simp only [List.getElem_take]
set_option maxRecDepth 100000 in
theorem KeyB.drop {w : World} {ab ao c : Nat} {l : List UInt8} (h : KeyB w (some ⟨ab, ao, none⟩, c) l) (i : Nat) (h1 : i ≤ l.length) : KeyB w (some ⟨ab, ao + i, none⟩, c - i) (l.drop i) := by
  have hlen : (l.drop i).length = l.length - i := List.length_drop
  have k1 : l.length ≤ c := h.1
  have k2 : c ≤ 9223372036854775807 := h.2.1
  refine ⟨by rw [hlen]; show _ ≤ c - i; omega, by show c - i ≤ _; omega, fun h0 => ?_⟩
  rw [hlen] at h0
  obtain ⟨b', o', e, hb, hc⟩ := h.2.2 (by omega)
  simp only [Option.some.injEq, Addr.mk.injEq] at e
  obtain ⟨rfl, rfl, -⟩ := e
  refine ⟨ab, ao + i, rfl, hb, fun q hq => ?_⟩
  rw [hlen] at hq
  rw [Nat.add_assoc, hc (i + q) (by omega)]
  simp only [List.getElem_drop]
set_option maxRecDepth 100000 in
/-- a slice of the call's own -/
theorem Ow.keyB {w : World} {B : Nat} {v : Value} {l : List UInt8} (h : Ow w B v l) : ∃ y : Wkb, v = .slice y.1 l.length y.2 ∧ KeyB w y l := by
  obtain ⟨A, c, h1, h2, h3, h4⟩ := h.form
  exact ⟨(A, c), h1, h2, h3, h4⟩
set_option maxRecDepth 100000 in
theorem Ow.baseB {w : World} {B B' : Nat} {v : Value} {l : List UInt8} (h : Ow w B v l) (hB : B' ≤ B) : Ow w B' v l := by
  refine ⟨h.1, ?_⟩
  rcases h.2 with h0 | ⟨g, cap, cur, e, hbg, hr⟩
  · exact .inl h0
  · exact .inr ⟨g, cap, cur, e, Nat.le_trans hB hbg, hr⟩
set_option maxRecDepth 100000 in
theorem Ow.goB {w w' : World} {B : Nat} {v : Value} {l : List UInt8} (h : Ow w B v l) (hb : Below w.heap.size w w') : Ow w' B v l := by
  refine ⟨h.1, ?_⟩
  rcases h.2 with h0 | ⟨g, cap, cur, e, hbg, hg, hr⟩
  · exact .inl h0
  · exact .inr ⟨g, cap, cur, e, hbg, oldG hg hb (Nat.le_refl _), hr⟩
/-- a call's answer: a slice of the call's own, and a number -/
def AnsOwB (B : Nat) (W' : World) (e : Ending) (l : List UInt8) (n : Int) : Prop := ∃ v, e = .returned (.tuple #[v, .int .i64 n]) ∧ Ow W' B v l
end Go.Proofs.Ytegekmgelnkdbaa
