
/- The document's answer: which fields there are. -/
import Derived.Test.YtecdmdgpmbgaaaaDoorFldB
namespace Go.Proofs.YtecdmdgpmbgaaaaDoor
open Go.RowKit

theorem bel5 {B : Nat} {w X w1 : World} (h : Below B w X) (hb : Below X.heap.size X w1) (hB : B ≤ X.heap.size) : Below B w w1 := h.trans (hb.mono hB)
theorem old5 {w w' : World} {B g : Nat} {x : Obj} (h : w.heap[g]? = some x) (hb : Below B w w') (hB : w.heap.size ≤ B) : w'.heap[g]? = some x := (hb.block g (Nat.lt_of_lt_of_le (Array.getElem?_eq_some_iff.1 h).1 hB)).trans h
/-- numbers in memory -/
def Ri5 (w : World) (b o : Nat) (l : List Int) : Prop := ∀ j (h : j < l.length), w.cell? ⟨b, o + j, none⟩ = some (.int .i64 l[j])
theorem mem_take_succ (l : List Int) (x : Int) (k : Nat) (h : k < l.length) : x ∈ l.take (k + 1) ↔ x ∈ l.take k ∨ x = l[k] := by
  rw [List.take_succ_eq_append_getElem h, List.mem_append, List.mem_singleton]

theorem refIn_any (b o c m : Nat) (l : List Int) (x : Int) (w : World) (hm : m = l.length) (hc : m ≤ c) (hm2 : m ≤ 1000) (hr : Ri5 w b o l) :
    Calls Tryd.prog 21 #[.slice (some ⟨b, o, none⟩) m c, .int .i64 x] w fun e w' => e = .returned (.bool (decide (x ∈ l))) ∧ w = w' := by
  have HR := Lib.hid hr
  have HM := Lib.hid hm
  clear hr hm
  go_enter Tryd.func21, Tryd.ntmps21
  go_wp2
  go_loop [5] (fun i => ∃ k : Nat, k ≤ m ∧ i = .int .i64 k ∧ Hid (¬ x ∈ l.take k)) (fun i => m - (intOf i).toNat)
  case atStart => exact ⟨0, Nat.zero_le _, rfl, Lib.hid (by simp)⟩
  case round =>
    obtain ⟨k, hk, rfl, hall⟩ := hrel
    by_cases hlt : k < m
    · have hkl : k < l.length := by have := HM.out; omega
      have hcell := HR.out k hkl
      have hs := mem_take_succ l x k hkl
      obtain ⟨z, hz⟩ : ∃ z, z = l[k] := ⟨_, rfl⟩
      rw [← hz] at hcell hs
      have HS := Lib.hid hs
      have HZ := Lib.hid hz
      have hki : (k : Int) < (m : Int) := by omega
      clear hs hz
      by_cases h : z = x
      · have HE := Lib.hid (show x ∈ l by rw [← h, HZ.out]; exact List.getElem_mem hkl)
        have hzx : (z == x) = true := by simpa using h
        go_wp2
        go_ret
        exact ⟨by rw [decide_eq_true HE.out]; rfl, rfl⟩
      · have HE := Lib.hid (show ¬ x ∈ l.take (k + 1) by rw [HS.out]; rintro (h1 | h1); exact hall.out h1; exact h h1.symm)
        have hzx : (z == x) = false := by simpa using h
        clear h
        go_wp2
        go_round
        case rel => exact ⟨k + 1, by omega, by go_num, HE⟩
        case measure => simp [intOf]; omega
    · have HE := Lib.hid (show ¬ x ∈ l by have := hall.out; rwa [List.take_of_length_le (by have := HM.out; omega)] at this)
      have hki : ¬ (k : Int) < (m : Int) := by omega
      go_wp2
      go_ret
      exact ⟨by rw [decide_eq_false HE.out]; rfl, rfl⟩

end Go.Proofs.YtecdmdgpmbgaaaaDoor
