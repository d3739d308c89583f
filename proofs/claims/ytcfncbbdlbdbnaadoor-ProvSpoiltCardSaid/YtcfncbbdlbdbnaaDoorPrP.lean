
/- Spoilt tags: pieces. -/
import Derived.Test.YtcfncbbdlbdbnaaDoorPrS
import Derived.Test.YtcfncbbdlbdbnaaDoorPrL
import Derived.Test.YtcfncbbdlbdbnaaDoorPrO
import Derived.Test.YtcfncbbdlbdbnaaDoorPrW
namespace Go.Proofs.YtcfncbbdlbdbnaaDoor
open Go.RowKit

theorem Ow.setP {w : World} {base g n cap : Nat} {l : List UInt8} (h : Ow w base (.slice (some ⟨g, 0, none⟩) n cap) l) (i : Nat) (z : UInt8) :
    Ow (w.setCell ⟨g, i, none⟩ (.int .u8 (z.toNat : Int))) base (.slice (some ⟨g, 0, none⟩) n cap) (l.set i z) := by
  refine ⟨by simp [cs], ?_⟩
  rcases h.2 with ⟨e, _⟩ | ⟨g', cap', cur, e, hb, hg, hn, hcap, hsz, htake⟩
  · cases e
  · cases e
    refine .inr ⟨g, cap, cur.setIfInBounds i (.int .u8 (z.toNat : Int)), by rw [List.length_set], hb, ?_, by rw [List.length_set]; exact hn, hcap, by rw [Array.size_setIfInBounds]; exact hsz, ?_⟩
    · exact heap_setCell_same w g i _ _ _ hg
    · rw [List.length_set, Array.toList_setIfInBounds, List.take_set, htake]
      simp [cs, List.map_set]
theorem sp_set (l : List UInt8) (i : Nat) (hi : i < l.length) (x : UInt8) (hx : ¬ x = 0) : ¬ l.set i (l[i] ^^^ x) = l := by
  intro h
  have h2 : (l.set i (l[i] ^^^ x))[i]'(by rw [List.length_set]; exact hi) = l[i] := by congr 1
  rw [List.getElem_set_self] at h2
  have h3 := congrArg (fun y => l[i] ^^^ y) h2
  simp only [← UInt8.xor_assoc, UInt8.xor_self, UInt8.zero_xor] at h3
  exact hx h3
theorem sp_take (l : List UInt8) (i : Nat) (hi : i < l.length) : ¬ l.take i = l := fun h => by
  have := congrArg List.length h
  rw [List.length_take] at this
  omega
theorem sp_more (l : List UInt8) (x : UInt8) : ¬ l ++ [x] = l := fun h => by
  have := congrArg List.length h
  simp at this
theorem sp_rd_take {w : World} {B : Nat} {A : Option Addr} {l : List UInt8} (h : Rd w B A l) (n : Nat) (hn : n ≤ l.length) : Rd w B A (l.take n) := by
  intro h0
  rw [List.length_take] at h0
  obtain ⟨b, o, e, hb, hc⟩ := h (by omega)
  refine ⟨b, o, e, hb, fun j hj => ?_⟩
  rw [hc j (by rw [List.length_take] at hj; omega), List.getElem_take]
theorem sp_frozen {w : World} {base g n cap : Nat} {l : List UInt8} (h : Ow w base (.slice (some ⟨g, 0, none⟩) n cap) l) (i : Nat) : w.frozen? ⟨g, i, none⟩ = false := by
  rcases h.2 with ⟨e, _⟩ | ⟨g', cap', cur, e, hb, hg, _⟩
  · cases e
  · cases e
    exact frozen_of_row w g i _ _ hg
/-- a tag that is not the pair's: no, and nothing else -/
theorem spoilt_any (i f : Bool) (A : Option Addr) (l : List Pr) (c : Nat) (K B T : Option Addr) (k b t : List UInt8) (n kn bn tn kc bc tc : Nat) (w : World) (hn : n = l.length) (hkn : kn = k.length) (hbn : bn = b.length) (htn : tn = t.length) (h1000 : l.length ≤ 1000) (hkl : k.length ≤ 100000) (hbl : b.length ≤ 90000) (htl : t.length ≤ 100000) (hkc : k.length ≤ kc) (hkm : kc ≤ 9223372036854775807) (hbc : b.length ≤ bc) (hbm : bc ≤ 9223372036854775807)
    (hne : ¬ t = cutF k b) (hT : Tab w w.heap.size A l) (hk : Rd w w.heap.size K k) (hb : Rd w w.heap.size B b) (ht : Rd w w.heap.size T t) (hK : Ks w) :
    Calls Tryd.prog 13 #[.agg #[.bool i, .slice A n c, .bool f], .slice K kn kc, .slice B bn bc, .slice T tn tc] w fun e w' => e = .returned (.tuple #[.agg #[.bool i, .slice A n c, .bool f], .bool false]) ∧ Below w.heap.size w w' := by
  subst hn hkn hbn htn
  have h3 := pcheck_any i f A l c K B T k b t kc bc tc w h1000 hkl hbl htl hkc hkm hbc hbm hT hk hb ht hK
  rw [decide_eq_false hne, show (f || (false && !decide ((k, b) ∈ l))) = f by simp, show (false && (decide ((k, b) ∈ l) || !i)) = false by simp] at h3
  exact h3
end Go.Proofs.YtcfncbbdlbdbnaaDoor
