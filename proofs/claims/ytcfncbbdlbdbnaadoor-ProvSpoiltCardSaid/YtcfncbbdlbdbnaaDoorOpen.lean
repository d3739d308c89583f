
/- What the laws' frames share: eight words, and a digest under way, that came in by value. -/
import Derived.Test.YtcfncbbdlbdbnaaDoorFrameK
import Derived.Test.YtcfncbbdlbdbnaaDoorPut
namespace Go.Proofs.YtcfncbbdlbdbnaaDoor
open Go.ChangeShapes Go.WideShapes Go.ChangeAt Go.RowKit

theorem u16_bd {a : Int} (h : (Lit.int .u16 a).wf = true) : 0 ≤ a ∧ a ≤ 65535 := by
  simpa [Lit.wf, IntKind.min, IntKind.max, IntKind.signed, IntKind.bits] using h
theorem u32_bd {a : Int} (h : (Lit.int .u32 a).wf = true) : 0 ≤ a ∧ a ≤ 4294967295 := by
  simpa [Lit.wf, IntKind.min, IntKind.max, IntKind.signed, IntKind.bits] using h
theorem word_in {a : Int} (h : (Lit.int .u32 a).wf = true) : ∃ x : UInt32, (Value.int .u32 a) = wv x := by
  have hb := u32_bd h
  refine ⟨UInt32.ofNat a.toNat, ?_⟩
  unfold wv
  congr 1
  rw [UInt32.toNat_ofNat']
  omega
theorem okWide_array {P : Program} {w : World} {r : Reach} {base : Nat} {t e : TypeId} {n : Nat} {v : Value} (ht : P.underlying t = some (.array n e)) (h : Value.okWide P w r base t v) : ∃ cs, v = .agg cs ∧ cs.size = P.cellsOf t := by
  simp only [Value.okWide, ht] at h
  obtain ⟨cs, h1, h2, _⟩ := h
  exact ⟨cs, h1, h2⟩
theorem st_cells {H : Type} {enc : TypeId × Value → H} {W : World} {base fuel : Nat} {spare : Nat → Bool} {held : Bool} {l : List Value} {y : DataW H × List MemPlace}
    (hf : DataW.trod enc Tryd.prog W base spare held fuel 76 l = some y) : ∃ s : St, l = s.cells.toList := by
  obtain ⟨xs, m, rfl, rfl, hlen, hn, hel⟩ := DataW.trod_array Tryd.underlying76 hf
  have hc : Tryd.prog.cellsOf 76 = 8 := by kernel_rfl
  have hc1 : Tryd.prog.cellsOf 75 = 1 := by kernel_rfl
  rw [hc] at hlen
  have word : ∀ i (hi : i < 8), ∃ x : UInt32, l[i]'(by omega) = wv x := by
    intro i hi
    have h := hel i hi
    rw [hc1, Nat.mul_one] at h
    have e : (l.drop i).take 1 = [l[i]'(by omega)] := by
      rw [List.drop_eq_getElem_cons (by omega)]
      rfl
    rw [e, List.getElem?_eq_getElem (by omega)] at h
    obtain ⟨k, e1, _, hw⟩ := DataW.trod_int Tryd.underlying75 h
    simp only [List.cons.injEq, and_true] at e1
    rw [e1]
    exact word_in hw
  match l, hlen, word with
  | [v0, v1, v2, v3, v4, v5, v6, v7], _, word =>
    obtain ⟨a, ha⟩ := word 0 (by omega)
    obtain ⟨b, hb⟩ := word 1 (by omega)
    obtain ⟨c, hc⟩ := word 2 (by omega)
    obtain ⟨d, hd⟩ := word 3 (by omega)
    obtain ⟨e, he⟩ := word 4 (by omega)
    obtain ⟨f, hf5⟩ := word 5 (by omega)
    obtain ⟨g, hg⟩ := word 6 (by omega)
    obtain ⟨h, hh⟩ := word 7 (by omega)
    refine ⟨⟨a, b, c, d, e, f, g, h⟩, ?_⟩
    simp only [List.getElem_cons_zero, List.getElem_cons_succ] at ha hb hc hd he hf5 hg hh
    subst ha hb hc hd he hf5 hg hh
    rfl
theorem open_st {H : Type} {enc : TypeId × Value → H} {W : World} {b0 base : Nat} {spare : Nat → Bool} {held : Bool} {v : Value} {d : DataW H} {p : List MemPlace}
    (hv : Value.okWide Tryd.prog W .any b0 76 v) (h : DataW.Trod enc Tryd.prog W base spare held 76 v d p) : ∃ s : St, v = s.v := by
  obtain ⟨cs, rfl, _⟩ := okWide_array Tryd.underlying76 hv
  obtain ⟨fuel, hf⟩ := h
  obtain ⟨s, hs⟩ := st_cells hf
  refine ⟨s, ?_⟩
  have hs : cs.toList = s.cells.toList := hs
  exact congrArg Value.agg (Array.toList_inj.1 hs)
end Go.Proofs.YtcfncbbdlbdbnaaDoor
