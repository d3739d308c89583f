
/- bytes.Equal; a pair's method is; alike. -/
import Derived.Test.YtcfncbbdlbdbnaaDoorPrA
import Derived.Test.YtcfncbbdlbdbnaaDoorDoc
import Derived.Test.YtcfncbbdlbdbnaaDoorBlock
namespace Go.Proofs.YtcfncbbdlbdbnaaDoor
open Go.RowKit

theorem str_beq (p q : List UInt8) : ((⟨p.toArray⟩ : ByteArray).toList == (⟨q.toArray⟩ : ByteArray).toList) = decide (p = q) := by
  rw [Bool.eq_iff_iff]
  simp

set_option maxRecDepth 100000 in
set_option maxHeartbeats 1000000 in
theorem bytesEqual_any (A B : Option Addr) (p q : List UInt8) (ca cb BA BB : Nat) (w : World) (ha : Rd w BA A p) (hb : Rd w BB B q) :
    Calls Tryd.prog 36 #[.slice A p.length ca, .slice B q.length cb] w fun e w' => e = .returned (.bool (decide (p = q))) ∧ w = w' := by
  have s1 : (convert 25 9 (.slice A p.length ca)).run Tryd.prog w = .ok (.string ⟨p.toArray⟩) w := run_str (P := Tryd.prog) ha ca _ _ _ Tryd.underlying25 Tryd.underlying5 Tryd.underlying9
  have s2 : (convert 25 9 (.slice B q.length cb)).run Tryd.prog w = .ok (.string ⟨q.toArray⟩) w := run_str (P := Tryd.prog) hb cb _ _ _ Tryd.underlying25 Tryd.underlying5 Tryd.underlying9
  have hs := str_beq p q
  generalize decide (p = q) = R at *
  generalize (⟨p.toArray⟩ : ByteArray) = S1 at *
  generalize (⟨q.toArray⟩ : ByteArray) = S2 at *
  clear ha hb
  go_enter Tryd.func36, Tryd.ntmps36
  go_wp2
  go_ret
  exact ⟨rfl, rfl⟩

set_option maxRecDepth 100000 in
set_option maxHeartbeats 1000000 in
theorem is_any (K B K' B' : Option Addr) (k b k' b' : List UInt8) (kc bc kc' bc' : Nat) (w : World) (h1 : Rd w w.heap.size K k) (h2 : Rd w w.heap.size B b) (h3 : Rd w w.heap.size K' k') (h4 : Rd w w.heap.size B' b') :
    Calls Tryd.prog 28 #[.agg #[.slice K k.length kc, .slice B b.length bc], .agg #[.slice K' k'.length kc', .slice B' b'.length bc']] w fun e w' => e = .returned (.bool (decide ((k, b) = (k', b')))) ∧ Below w.heap.size w w' := by
  have C1 := Lib.hid (fun W (h : Below w.heap.size w W) => bytesEqual_any K K' k k' kc kc' _ _ W (h1.below h (Nat.le_refl _)) (h3.below h (Nat.le_refl _)))
  have C2 := Lib.hid (fun W (h : Below w.heap.size w W) => bytesEqual_any B B' b b' bc bc' _ _ W (h2.below h (Nat.le_refl _)) (h4.below h (Nat.le_refl _)))
  have HB := Lib.hid (((Below.refl w.heap.size w).alloc (Nat.le_refl _) (.cells #[.slice K k.length kc, .slice B b.length bc] 63)).alloc (by simp) (.cells #[.slice K' k'.length kc', .slice B' b'.length bc'] 59))
  generalize k.length = n1 at *
  generalize b.length = n2 at *
  generalize k'.length = n3 at *
  generalize b'.length = n4 at *
  by_cases hk : k = k'
  · have HR := Lib.hid (show decide ((k, b) = (k', b')) = decide (b = b') by simp [hk])
    rw [HR.out]
    rw [decide_eq_true hk] at C1
    generalize decide (b = b') = R at *
    clear h1 h2 h3 h4 hk HR
    go_enter Tryd.func28, Tryd.ntmps28
    go_wp2_with fail
    refine (C1.out _ HB.out).mono ?_
    rintro e w1 ⟨rfl, rfl⟩
    go_wp2_with fail
    refine (C2.out _ HB.out).mono ?_
    rintro e w1 ⟨rfl, rfl⟩
    go_wp2_with fail
    go_ret
    exact ⟨rfl, HB.out⟩
  · have HR := Lib.hid (show decide ((k, b) = (k', b')) = false by simp [hk])
    rw [HR.out]
    rw [decide_eq_false hk] at C1
    clear h1 h2 h3 h4 hk HR C2
    go_enter Tryd.func28, Tryd.ntmps28
    go_wp2_with fail
    refine (C1.out _ HB.out).mono ?_
    rintro e w1 ⟨rfl, rfl⟩
    go_wp2_with fail
    go_ret
    exact ⟨rfl, HB.out⟩

theorem is_ent (v v' : Value) (p p' : Pr) (B : Nat) (w : World) (hB : B ≤ w.heap.size) (h1 : Ent w B v p) (h2 : Ent w B v' p') :
    Calls Tryd.prog 28 #[v, v'] w fun e w' => e = .returned (.bool (decide (p = p'))) ∧ Below w.heap.size w w' := by
  obtain ⟨A1, c1, A2, c2, rfl, _, _, _, _, r1, r2⟩ := h1
  obtain ⟨A3, c3, A4, c4, rfl, _, _, _, _, r3, r4⟩ := h2
  exact is_any A1 A2 A3 A4 p.1 p.2 p'.1 p'.2 c1 c2 c3 c4 w (r1.more hB) (r2.more hB) (r3.more hB) (r4.more hB)

set_option maxRecDepth 100000 in
set_option maxHeartbeats 1000000 in
theorem alike_ent (v v' : Value) (p p' : Pr) (B : Nat) (w : World) (hB : B ≤ w.heap.size) (h1 : Ent w B v p) (h2 : Ent w B v' p') :
    Calls Tryd.prog 31 #[v, v'] w fun e w' => e = .returned (.bool (decide (p = p'))) ∧ Below w.heap.size w w' := by
  have C := Lib.hid (fun W (h : Below w.heap.size w W) => is_ent v v' p p' B W (Nat.le_trans hB h.size) (h1.below h hB) (h2.below h hB))
  obtain ⟨A1, c1, A2, c2, rfl, _, _, _, _, r1, r2⟩ := h1
  obtain ⟨A3, c3, A4, c4, rfl, _, _, _, _, r3, r4⟩ := h2
  generalize decide (p = p') = R at *
  generalize p.1.length = n1 at *
  generalize p.2.length = n2 at *
  generalize p'.1.length = n3 at *
  generalize p'.2.length = n4 at *
  have HB := Lib.hid (((Below.refl w.heap.size w).alloc (Nat.le_refl _) (.cells #[.slice A1 n1 c1, .slice A2 n2 c2] 59)).alloc (by simp) (.cells #[.slice A3 n3 c3, .slice A4 n4 c4] 59))
  clear r1 r2 r3 r4 hB
  go_enter Tryd.func31, Tryd.ntmps31
  go_wp2_with fail
  refine (C.out _ HB.out).mono ?_
  rintro e w1 ⟨rfl, hb⟩
  have HB1 := Lib.hid (bel_call HB.out hb HB.out.size)
  clear hb
  go_wp2_with fail
  go_ret
  exact ⟨rfl, HB1.out⟩
end Go.Proofs.YtcfncbbdlbdbnaaDoor
