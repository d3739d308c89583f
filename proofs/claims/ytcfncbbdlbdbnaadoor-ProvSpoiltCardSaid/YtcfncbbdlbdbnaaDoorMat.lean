
/- A slice of slices of bytes that came in, read as a list of lists; yettref01.Long. -/
import Derived.Test.YtcfncbbdlbdbnaaDoorFrame
import Derived.Deep.Matrix
namespace Go.Proofs.YtcfncbbdlbdbnaaDoor
open Go.ChangeShapes Go.WideShapes Go.ChangeAt Go.RowKit

/-- the slice at the address A reads as the rows ls, below block B -/
def Mat (w : World) (B : Nat) (A : Option Addr) (ls : List (List UInt8)) : Prop :=
  0 < ls.length → ∃ b o, A = some ⟨b, o, none⟩ ∧ b < B ∧ ∀ j (h : j < ls.length), ∃ A' c', w.cell? ⟨b, o + j, none⟩ = some (.slice A' ls[j].length c') ∧ ls[j].length ≤ c' ∧ c' ≤ 9223372036854775807 ∧ Rd w B A' ls[j]
theorem Mat.below {w w' : World} {B B' : Nat} {A : Option Addr} {ls : List (List UInt8)} (h : Mat w B A ls) (hb : Below B' w w') (hB : B ≤ B') : Mat w' B A ls := by
  intro h0
  obtain ⟨b, o, e, h1, h2⟩ := h h0
  refine ⟨b, o, e, h1, fun j hj => ?_⟩
  obtain ⟨A', c', f1, f2, f3, f4⟩ := h2 j hj
  exact ⟨A', c', (hb.cell (p := ⟨b, o + j, none⟩) (by show b < B'; omega)).trans f1, f2, f3, f4.below hb hB⟩
theorem Mat.more {w : World} {B B' : Nat} {A : Option Addr} {ls : List (List UInt8)} (h : Mat w B A ls) (hB : B ≤ B') : Mat w B' A ls := by
  intro h0
  obtain ⟨b, o, e, h1, h2⟩ := h h0
  refine ⟨b, o, e, by omega, fun j hj => ?_⟩
  obtain ⟨A', c', f1, f2, f3, f4⟩ := h2 j hj
  exact ⟨A', c', f1, f2, f3, f4.more hB⟩

theorem mat_in {H : Type} {enc : TypeId × Value → H} {W : World} {base fuel : Nat} {held : Bool} {a : Option Addr} {n c : Nat} {y : DataW H × List MemPlace}
    (hf : DataW.trod enc Tryd.prog W base (fun _ => true) held fuel 40 [.slice a n c] = some y) : ∃ ls : List (List UInt8), n = ls.length ∧ ls.length ≤ c ∧ c ≤ 9223372036854775807 ∧ Mat W W.heap.size a ls := by
  rcases Go.Deep.open_int_rows Tryd.underlying40 Tryd.underlying25 Tryd.underlying5 (by kernel_rfl) (by kernel_rfl) hf with ⟨hcs, _⟩ | ⟨x, len, cap, A, L, C, Z, hcs, hb, hl, hm, _, hrow⟩
  · simp at hcs
    obtain ⟨rfl, rfl, rfl⟩ := hcs
    exact ⟨[], rfl, by simp, by omega, fun h => absurd h (by simp)⟩
  · simp at hcs
    obtain ⟨rfl, rfl, rfl⟩ := hcs
    refine ⟨(List.range n).map fun r => ((Z r).take (L r)).map fun z => UInt8.ofNat z.toNat, by simp, by simpa using hl, by simpa [maxLen] using hm, fun h0 => ?_⟩
    have h0' : 0 < n := by simpa using h0
    obtain ⟨b, o, spot⟩ := x
    have hc0 := (hrow 0 (by omega)).1
    have hspot : spot = none := by simpa [Addr.add] using World.cell?_spot hc0
    subst hspot
    refine ⟨b, o, rfl, World.block_lt_of_cell? W ⟨b, o, none⟩ (by simpa [Addr.add] using hc0), fun j hj => ?_⟩
    have hj' : j < n := by simpa using hj
    obtain ⟨hc, hLC, hCm, hZ, hwz, _, hcells⟩ := hrow j (by omega)
    rw [Addr.add_lit] at hc
    have hlen : ((List.range n).map fun r => ((Z r).take (L r)).map fun z => UInt8.ofNat z.toNat)[j] = ((Z j).take (L j)).map fun z => UInt8.ofNat z.toNat := by simp
    rw [hlen]
    have hl2 : (((Z j).take (L j)).map fun z => UInt8.ofNat z.toNat).length = L j := by simp; omega
    refine ⟨A j, C j, by rw [hl2]; exact hc, by rw [hl2]; exact hLC, by simpa [maxLen] using hCm, fun hr0 => ?_⟩
    rw [hl2] at hr0
    cases hA : A j with
    | none => 
      have := (hrow j (by omega)).2.2.2.2.2.1 hA
      omega
    | some a' =>
      obtain ⟨_, hcell⟩ := hcells a' hA
      obtain ⟨b', o', spot'⟩ := a'
      have hd0 := hcell 0 (by omega)
      have hspot : spot' = none := by simpa [Addr.add] using World.cell?_spot hd0
      subst hspot
      refine ⟨b', o', rfl, World.block_lt_of_cell? W ⟨b', o', none⟩ (by simpa [Addr.add] using hd0), fun i hi => ?_⟩
      have hi' : i < L j := by rw [← hl2]; exact hi
      have hd := hcell i (by omega)
      rw [Addr.add_lit] at hd
      rw [hd]
      have hzi : i < (Z j).length := by omega
      have hw := u8_bd (hwz (Z j)[i] (List.getElem_mem hzi))
      have e : (Z j).getD i 0 = (Z j)[i] := by simp [List.getD, hzi]
      rw [e]
      simp only [List.getElem_map, List.getElem_take, UInt8.toNat_ofNat']
      congr 2
      omega

def tot (ls : List (List UInt8)) (k : Nat) : Nat := ((ls.take k).map List.length).sum
theorem tot_succ (ls : List (List UInt8)) (k : Nat) (h : k < ls.length) : tot ls (k + 1) = tot ls k + ls[k].length := by
  unfold tot
  rw [List.take_succ_eq_append_getElem h, List.map_append, List.sum_append]
  simp only [List.map_cons, List.map_nil, List.sum_cons, List.sum_nil, Nat.add_zero]
theorem tot_flat (ls : List (List UInt8)) (k : Nat) : ((ls.take k).flatten).length = tot ls k := by
  unfold tot
  rw [List.length_flatten]
theorem tot_mono (ls : List (List UInt8)) (k : Nat) (h : k ≤ ls.length) : tot ls k ≤ tot ls ls.length := by
  have h2 := List.take_append_drop k ls
  have : tot ls ls.length = tot ls k + ((ls.drop k).map List.length).sum := by
    unfold tot
    rw [List.take_of_length_le (Nat.le_refl _)]
    conv => lhs; rw [← h2]
    rw [List.map_append, List.sum_append]
  omega
/-- what Long tells at 1000 -/
def LongIs (ls : List (List UInt8)) (e : Ending) : Prop := ∃ r : Int, e = .returned (.int .i64 r) ∧ (r ≤ 1000 → ls.length + tot ls ls.length ≤ 1000)
theorem LongIs.big {ls : List (List UInt8)} : LongIs ls (.returned (.int .i64 1001)) := ⟨1001, rfl, fun h => by omega⟩

end Go.Proofs.YtcfncbbdlbdbnaaDoor
