
/- ProvOrder's walk. -/
import Derived.Test.YtcfncbbdlbdbnaaDoorPrS
import Derived.Test.YtcfncbbdlbdbnaaDoorPrW
namespace Go.Proofs.YtcfncbbdlbdbnaaDoor
open Go.RowKit

def two (x y : Pr) : List Pr := if y = x then [x] else [x, y]
theorem tab_two (a1 a2 b1 b2 : List UInt8) : tabF [(a1, a2)] b1 b2 = two (a1, a2) (b1, b2) := by
  unfold tabF two
  simp only [List.mem_cons, List.not_mem_nil, or_false]
  split <;> rfl
theorem tab_one (a1 a2 : List UInt8) : tabF [] a1 a2 = [(a1, a2)] := by unfold tabF; rw [if_neg (by simp)]; rfl
theorem two_mem (x y z : Pr) : z ∈ two x y ↔ z = x ∨ z = y := by
  unfold two
  split
  · rename_i h; subst h; simp
  · simp
theorem two_had (a1 a2 b1 b2 k c : List UInt8) : decide ((k, c) ∈ two (a1, a2) (b1, b2)) = (decide (a1 = k) && decide (a2 = c) || decide (b1 = k) && decide (b2 = c)) := by
  rw [Bool.eq_iff_iff]
  simp only [two_mem, Prod.mk.injEq, decide_eq_true_eq, Bool.or_eq_true, Bool.and_eq_true]
  constructor
  · rintro (⟨h1, h2⟩ | ⟨h1, h2⟩)
    · exact .inl ⟨h1.symm, h2.symm⟩
    · exact .inr ⟨h1.symm, h2.symm⟩
  · rintro (⟨h1, h2⟩ | ⟨h1, h2⟩)
    · exact .inl ⟨h1.symm, h2.symm⟩
    · exact .inr ⟨h1.symm, h2.symm⟩
theorem two_len (x y : Pr) : (two x y).length = (two y x).length := by
  unfold two
  by_cases h : y = x
  · subst h; rfl
  · rw [if_neg h, if_neg (fun e => h e.symm)]; rfl
theorem two_le (x y : Pr) : (two x y).length ≤ 2 := by
  unfold two
  split <;> simp
theorem arr2_cells {w : World} {g : Nat} {x y : Value} {t : TypeId} {fr : Nat × Nat} (h : w.heap[g]? = some (.cells #[x, y] t fr)) : w.cell? ⟨g, 0, none⟩ = some x ∧ w.cell? ⟨g, 1, none⟩ = some y :=
  have hcl : ∀ j v, (#[x, y] : Array Value)[j]? = some v → w.cell? ⟨g, j, none⟩ = some v := fun _j _v h' => (cell_of_row _ _ _ _ _ _ h).trans h'
  ⟨hcl 0 _ rfl, hcl 1 _ rfl⟩

set_option maxRecDepth 100000 in
set_option maxHeartbeats 8000000 in
theorem provOrder_walk (A1 : Option Addr) (a1 : List UInt8) (ac1 : Nat) (A2 : Option Addr) (a2 : List UInt8) (ac2 : Nat) (B1 : Option Addr) (b1 : List UInt8) (bc1 : Nat) (B2 : Option Addr) (b2 : List UInt8) (bc2 : Nat) (K : Option Addr) (k : List UInt8) (kc : Nat) (C : Option Addr) (c : List UInt8) (cc : Nat) (W : World) (h1 : a1.length ≤ ac1) (m1 : ac1 ≤ 9223372036854775807) (r1 : Rd W W.heap.size A1 a1) (h2 : a2.length ≤ ac2) (m2 : ac2 ≤ 9223372036854775807) (r2 : Rd W W.heap.size A2 a2) (h3 : b1.length ≤ bc1) (m3 : bc1 ≤ 9223372036854775807) (r3 : Rd W W.heap.size B1 b1) (h4 : b2.length ≤ bc2) (m4 : bc2 ≤ 9223372036854775807) (r4 : Rd W W.heap.size B2 b2) (h5 : k.length ≤ kc) (m5 : kc ≤ 9223372036854775807) (r5 : Rd W W.heap.size K k) (h6 : c.length ≤ cc) (m6 : cc ≤ 9223372036854775807) (r6 : Rd W W.heap.size C c) (hK : Ks W) :
    Calls Tryd.prog 8 #[.agg #[.slice A1 a1.length ac1, .slice A2 a2.length ac2, .slice B1 b1.length bc1, .slice B2 b2.length bc2, .slice K k.length kc, .slice C c.length cc]] W fun e W' => e = .returned (.bool true) ∧ Below W.heap.size W W' := by
  have hf3 := fold3
  have hf2 := fold2
  have R1 := Lib.hid (fun w (h : Below W.heap.size W w) => (r1.below h (Nat.le_refl _)).more h.size)
  have R2 := Lib.hid (fun w (h : Below W.heap.size W w) => (r2.below h (Nat.le_refl _)).more h.size)
  have R3 := Lib.hid (fun w (h : Below W.heap.size W w) => (r3.below h (Nat.le_refl _)).more h.size)
  have R4 := Lib.hid (fun w (h : Below W.heap.size W w) => (r4.below h (Nat.le_refl _)).more h.size)
  have R5 := Lib.hid (fun w (h : Below W.heap.size W w) => (r5.below h (Nat.le_refl _)).more h.size)
  have R6 := Lib.hid (fun w (h : Below W.heap.size W w) => (r6.below h (Nat.le_refl _)).more h.size)
  have KB := Lib.hid (fun w (h : Below W.heap.size W w) => Ks.call hK h)
  obtain ⟨n1, en1⟩ : ∃ n, n = a1.length := ⟨_, rfl⟩
  obtain ⟨n2, en2⟩ : ∃ n, n = a2.length := ⟨_, rfl⟩
  obtain ⟨n3, en3⟩ : ∃ n, n = b1.length := ⟨_, rfl⟩
  obtain ⟨n4, en4⟩ : ∃ n, n = b2.length := ⟨_, rfl⟩
  obtain ⟨n5, en5⟩ : ∃ n, n = k.length := ⟨_, rfl⟩
  obtain ⟨n6, en6⟩ : ∃ n, n = c.length := ⟨_, rfl⟩
  have E1 := Lib.hid en1
  have H1 := Lib.hid h1
  have M1 := Lib.hid m1
  have q1 : n1 ≤ 9223372036854775807 := by omega
  have E2 := Lib.hid en2
  have H2 := Lib.hid h2
  have M2 := Lib.hid m2
  have q2 : n2 ≤ 9223372036854775807 := by omega
  have E3 := Lib.hid en3
  have H3 := Lib.hid h3
  have M3 := Lib.hid m3
  have q3 : n3 ≤ 9223372036854775807 := by omega
  have E4 := Lib.hid en4
  have H4 := Lib.hid h4
  have M4 := Lib.hid m4
  have q4 : n4 ≤ 9223372036854775807 := by omega
  have E5 := Lib.hid en5
  have H5 := Lib.hid h5
  have M5 := Lib.hid m5
  have q5 : n5 ≤ 9223372036854775807 := by omega
  have E6 := Lib.hid en6
  have H6 := Lib.hid h6
  have M6 := Lib.hid m6
  have q6 : n6 ≤ 9223372036854775807 := by omega
  rw [← en1, ← en2, ← en3, ← en4, ← en5, ← en6]
  clear h1 m1 r1 en1 h2 m2 r2 en2 h3 m3 r3 en3 h4 m4 r4 en4 h5 m5 r5 en5 h6 m6 r6 en6 hK
  obtain ⟨-, q2, q3, -, q5⟩ := alloc3 W (.cells #[.slice A1 n1 ac1, .slice A2 n2 ac2, .slice B1 n3 bc1, .slice B2 n4 bc2, .slice K n5 kc, .slice C n6 cc] 56) (.cells #[.slice A1 n1 ac1, .slice A2 n2 ac2] 54) (.cells #[.slice B1 n3 bc1, .slice B2 n4 bc2] 54)
  have Q2 := Lib.hid q2
  have Q3 := Lib.hid q3
  have Q5 := Lib.hid q5
  clear q2 q3 q5
  by_cases l1 : 60 < n1
  · have i1 : (60 : Int) < (n1 : Int) := by omega
    go_enter Tryd.func8, Tryd.ntmps8
    go_wp2_with fail
    refine (shown4_any _ (KB.out _ Q5.out)).mono ?_
    rintro e w1 ⟨rfl, hb1⟩
    have BW := Lib.hid (bel_call Q5.out hb1 Q5.out.size)
    have GA := Lib.hid (old_below Q2.out hb1 (Nat.le_refl _))
    have GB := Lib.hid (old_below Q3.out hb1 (Nat.le_refl _))
    obtain ⟨x0, x1⟩ := arr2_cells GA.out
    obtain ⟨y0, y1⟩ := arr2_cells GB.out
    clear hb1 Q2 Q3 Q5
    go_wp2
    go_ret
    exact ⟨rfl, BW.out⟩
  have i1 : ¬ (60 : Int) < (n1 : Int) := by omega
  by_cases l2 : 60 < n2
  · have i2 : (60 : Int) < (n2 : Int) := by omega
    go_enter Tryd.func8, Tryd.ntmps8
    go_wp2_with fail
    refine (shown4_any _ (KB.out _ Q5.out)).mono ?_
    rintro e w1 ⟨rfl, hb1⟩
    have BW := Lib.hid (bel_call Q5.out hb1 Q5.out.size)
    have GA := Lib.hid (old_below Q2.out hb1 (Nat.le_refl _))
    have GB := Lib.hid (old_below Q3.out hb1 (Nat.le_refl _))
    obtain ⟨x0, x1⟩ := arr2_cells GA.out
    obtain ⟨y0, y1⟩ := arr2_cells GB.out
    clear hb1 Q2 Q3 Q5
    go_wp2
    go_ret
    exact ⟨rfl, BW.out⟩
  have i2 : ¬ (60 : Int) < (n2 : Int) := by omega
  by_cases l3 : 60 < n3
  · have i3 : (60 : Int) < (n3 : Int) := by omega
    go_enter Tryd.func8, Tryd.ntmps8
    go_wp2_with fail
    refine (shown4_any _ (KB.out _ Q5.out)).mono ?_
    rintro e w1 ⟨rfl, hb1⟩
    have BW := Lib.hid (bel_call Q5.out hb1 Q5.out.size)
    have GA := Lib.hid (old_below Q2.out hb1 (Nat.le_refl _))
    have GB := Lib.hid (old_below Q3.out hb1 (Nat.le_refl _))
    obtain ⟨x0, x1⟩ := arr2_cells GA.out
    obtain ⟨y0, y1⟩ := arr2_cells GB.out
    clear hb1 Q2 Q3 Q5
    go_wp2
    go_ret
    exact ⟨rfl, BW.out⟩
  have i3 : ¬ (60 : Int) < (n3 : Int) := by omega
  by_cases l4 : 60 < n4
  · have i4 : (60 : Int) < (n4 : Int) := by omega
    go_enter Tryd.func8, Tryd.ntmps8
    go_wp2_with fail
    refine (shown4_any _ (KB.out _ Q5.out)).mono ?_
    rintro e w1 ⟨rfl, hb1⟩
    have BW := Lib.hid (bel_call Q5.out hb1 Q5.out.size)
    have GA := Lib.hid (old_below Q2.out hb1 (Nat.le_refl _))
    have GB := Lib.hid (old_below Q3.out hb1 (Nat.le_refl _))
    obtain ⟨x0, x1⟩ := arr2_cells GA.out
    obtain ⟨y0, y1⟩ := arr2_cells GB.out
    clear hb1 Q2 Q3 Q5
    go_wp2
    go_ret
    exact ⟨rfl, BW.out⟩
  have i4 : ¬ (60 : Int) < (n4 : Int) := by omega
  by_cases l5 : 60 < n5
  · have i5 : (60 : Int) < (n5 : Int) := by omega
    go_enter Tryd.func8, Tryd.ntmps8
    go_wp2_with fail
    refine (shown4_any _ (KB.out _ Q5.out)).mono ?_
    rintro e w1 ⟨rfl, hb1⟩
    have BW := Lib.hid (bel_call Q5.out hb1 Q5.out.size)
    have GA := Lib.hid (old_below Q2.out hb1 (Nat.le_refl _))
    have GB := Lib.hid (old_below Q3.out hb1 (Nat.le_refl _))
    obtain ⟨x0, x1⟩ := arr2_cells GA.out
    obtain ⟨y0, y1⟩ := arr2_cells GB.out
    clear hb1 Q2 Q3 Q5
    go_wp2
    go_ret
    exact ⟨rfl, BW.out⟩
  have i5 : ¬ (60 : Int) < (n5 : Int) := by omega
  by_cases l6 : 60 < n6
  · have i6 : (60 : Int) < (n6 : Int) := by omega
    go_enter Tryd.func8, Tryd.ntmps8
    go_wp2_with fail
    refine (shown4_any _ (KB.out _ Q5.out)).mono ?_
    rintro e w1 ⟨rfl, hb1⟩
    have BW := Lib.hid (bel_call Q5.out hb1 Q5.out.size)
    have GA := Lib.hid (old_below Q2.out hb1 (Nat.le_refl _))
    have GB := Lib.hid (old_below Q3.out hb1 (Nat.le_refl _))
    obtain ⟨x0, x1⟩ := arr2_cells GA.out
    obtain ⟨y0, y1⟩ := arr2_cells GB.out
    clear hb1 Q2 Q3 Q5
    go_wp2
    go_ret
    exact ⟨rfl, BW.out⟩
  have i6 : ¬ (60 : Int) < (n6 : Int) := by omega
  go_enter Tryd.func8, Tryd.ntmps8
  go_wp2_with fail
  refine (shown4_any _ (KB.out _ Q5.out)).mono ?_
  rintro e w1 ⟨rfl, hb1⟩
  have BW := Lib.hid (bel_call Q5.out hb1 Q5.out.size)
  have GA := Lib.hid (old_below Q2.out hb1 (Nat.le_refl _))
  have GB := Lib.hid (old_below Q3.out hb1 (Nat.le_refl _))
  obtain ⟨x0, x1⟩ := arr2_cells GA.out
  obtain ⟨y0, y1⟩ := arr2_cells GB.out
  clear hb1 Q2 Q3 Q5
  have s1 : a1.length ≤ 60 := by have := E1.out; omega
  have s2 : a2.length ≤ 60 := by have := E2.out; omega
  have s3 : b1.length ≤ 60 := by have := E3.out; omega
  have s4 : b2.length ≤ 60 := by have := E4.out; omega
  have CTa := Lib.hid (fun w (h : Below W.heap.size W w) => show Calls Tryd.prog 11 #[.agg #[.bool true, .slice none 0 0, .bool false], .slice A1 n1 ac1, .slice A2 n2 ac2] w fun e w' => AnsPT w' e true [(a1, a2)] false (cutF a1 a2) ∧ Below w.heap.size w w' from by
    rw [E1.out, E2.out]
    have h3 := ptag_any true false none [] 0 A1 A2 a1 a2 ac1 ac2 w (by simp) (by omega) (by simp) (by omega) (by omega) H1.out M1.out H2.out M2.out Tab.nil (R1.out w h) (R2.out w h) (KB.out w h)
    rw [tab_one] at h3
    exact h3)
  have CTb := Lib.hid (fun w (h : Below W.heap.size W w) => show Calls Tryd.prog 11 #[.agg #[.bool true, .slice none 0 0, .bool false], .slice B1 n3 bc1, .slice B2 n4 bc2] w fun e w' => AnsPT w' e true [(b1, b2)] false (cutF b1 b2) ∧ Below w.heap.size w w' from by
    rw [E3.out, E4.out]
    have h3 := ptag_any true false none [] 0 B1 B2 b1 b2 bc1 bc2 w (by simp) (by omega) (by simp) (by omega) (by omega) H3.out M3.out H4.out M4.out Tab.nil (R3.out w h) (R4.out w h) (KB.out w h)
    rw [tab_one] at h3
    exact h3)
  have CTab := Lib.hid (fun A c w (hc : 1 ≤ c) (hm : c ≤ 9223372036854775807) (h0 : Tab w w.heap.size A [(a1, a2)]) (h : Below W.heap.size W w) => show Calls Tryd.prog 11 #[.agg #[.bool true, .slice A 1 c, .bool false], .slice B1 n3 bc1, .slice B2 n4 bc2] w fun e w' => AnsPT w' e true (two (a1, a2) (b1, b2)) false (cutF b1 b2) ∧ Below w.heap.size w w' from by
    rw [E3.out, E4.out]
    have h3 := ptag_any true false A [(a1, a2)] c B1 B2 b1 b2 bc1 bc2 w hc hm (by simp) (by omega) (by omega) H3.out M3.out H4.out M4.out h0 (R3.out w h) (R4.out w h) (KB.out w h)
    rw [tab_two] at h3
    exact h3)
  have CTba := Lib.hid (fun A c w (hc : 1 ≤ c) (hm : c ≤ 9223372036854775807) (h0 : Tab w w.heap.size A [(b1, b2)]) (h : Below W.heap.size W w) => show Calls Tryd.prog 11 #[.agg #[.bool true, .slice A 1 c, .bool false], .slice A1 n1 ac1, .slice A2 n2 ac2] w fun e w' => AnsPT w' e true (two (b1, b2) (a1, a2)) false (cutF a1 a2) ∧ Below w.heap.size w w' from by
    rw [E1.out, E2.out]
    have h3 := ptag_any true false A [(b1, b2)] c A1 A2 a1 a2 ac1 ac2 w hc hm (by simp) (by omega) (by omega) H1.out M1.out H2.out M2.out h0 (R1.out w h) (R2.out w h) (KB.out w h)
    rw [tab_two] at h3
    exact h3)
  obtain ⟨N, hN⟩ : ∃ n, n = (two (a1, a2) (b1, b2)).length := ⟨_, rfl⟩
  have HN := Lib.hid hN
  have HN2 := Lib.hid (hN.trans (two_len (a1, a2) (b1, b2)))
  obtain ⟨o1, ho1⟩ : ∃ x, x = decide (a1 = k) := ⟨_, rfl⟩
  obtain ⟨o2, ho2⟩ : ∃ x, x = decide (a2 = c) := ⟨_, rfl⟩
  obtain ⟨p1, hp1⟩ : ∃ x, x = decide (b1 = k) := ⟨_, rfl⟩
  obtain ⟨p2, hp2⟩ : ∃ x, x = decide (b2 = c) := ⟨_, rfl⟩
  obtain ⟨h, hh⟩ : ∃ x, x = (o1 && o2 || p1 && p2) := ⟨_, rfl⟩
  have hz1 : decide ((k, c) ∈ two (a1, a2) (b1, b2)) = h := by
    rw [hh, ho1, ho2, hp1, hp2, two_had]
  have hz2 : decide ((k, c) ∈ two (b1, b2) (a1, a2)) = h := by
    rw [hh, ho1, ho2, hp1, hp2, two_had, Bool.or_comm]
  have CHp := Lib.hid (fun A c' w (h0 : Tab w w.heap.size A (two (a1, a2) (b1, b2))) (h' : Below W.heap.size W w) => show Calls Tryd.prog 17 #[.agg #[.bool true, .slice A N c', .bool false], .slice K n5 kc, .slice C n6 cc] w fun e w' => e = .returned (.bool h) ∧ Below w.heap.size w w' from by
    rw [E5.out, E6.out, HN.out, ← hz1]
    exact had_any true false A _ c' K C k c kc cc w (by have := two_le (a1, a2) (b1, b2); omega) H5.out M5.out H6.out M6.out h0 (R5.out w h') (R6.out w h'))
  have CHq := Lib.hid (fun A c' w (h0 : Tab w w.heap.size A (two (b1, b2) (a1, a2))) (h' : Below W.heap.size W w) => show Calls Tryd.prog 17 #[.agg #[.bool true, .slice A N c', .bool false], .slice K n5 kc, .slice C n6 cc] w fun e w' => e = .returned (.bool h) ∧ Below w.heap.size w w' from by
    rw [E5.out, E6.out, HN2.out, ← hz2]
    exact had_any true false A _ c' K C k c kc cc w (by have := two_le (b1, b2) (a1, a2); omega) H5.out M5.out H6.out M6.out h0 (R5.out w h') (R6.out w h'))
  have CSa1 := Lib.hid (fun w (h' : Below W.heap.size W w) => show Calls Tryd.prog 16 #[.slice A1 n1 ac1, .slice K n5 kc] w fun e w' => e = .returned (.bool o1) ∧ w = w' from by
    rw [E1.out, E5.out, ho1]
    exact same_any A1 K a1 k ac1 kc _ _ w (R1.out w h') (R5.out w h'))
  have CSa2 := Lib.hid (fun w (h' : Below W.heap.size W w) => show Calls Tryd.prog 16 #[.slice A2 n2 ac2, .slice C n6 cc] w fun e w' => e = .returned (.bool o2) ∧ w = w' from by
    rw [E2.out, E6.out, ho2]
    exact same_any A2 C a2 c ac2 cc _ _ w (R2.out w h') (R6.out w h'))
  have CSb1 := Lib.hid (fun w (h' : Below W.heap.size W w) => show Calls Tryd.prog 16 #[.slice B1 n3 bc1, .slice K n5 kc] w fun e w' => e = .returned (.bool p1) ∧ w = w' from by
    rw [E3.out, E5.out, hp1]
    exact same_any B1 K b1 k bc1 kc _ _ w (R3.out w h') (R5.out w h'))
  have CSb2 := Lib.hid (fun w (h' : Below W.heap.size W w) => show Calls Tryd.prog 16 #[.slice B2 n4 bc2, .slice C n6 cc] w fun e w' => e = .returned (.bool p2) ∧ w = w' from by
    rw [E4.out, E6.out, hp2]
    exact same_any B2 C b2 c bc2 cc _ _ w (R4.out w h') (R6.out w h'))
  have S2 := Lib.hid (fun U A1 A2 c1 c2 w (hu : (U : List UInt8).length = 16) (h1 : Rd w w.heap.size A1 U) (h2 : Rd w w.heap.size A2 U) => show Calls Tryd.prog 16 #[.slice A1 16 c1, .slice A2 16 c2] w fun e w' => e = .returned (.bool true) ∧ w = w' from by
    have h := same_any A1 A2 U U c1 c2 _ _ w h1 h2
    rw [decide_eq_true rfl, hu] at h
    exact h)
  have HUa := Lib.hid (cutF_length a1 a2)
  have HUb := Lib.hid (cutF_length b1 b2)
  have HH := Lib.hid hh
  clear hz1 hz2 hh ho1 ho2 hp1 hp2 hN s1 s2 s3 s4
  have HLA := Lib.hid (show [(a1, a2)].length = 1 from rfl)
  have HLB := Lib.hid (show [(b1, b2)].length = 1 from rfl)
  generalize two (a1, a2) (b1, b2) = LP at *
  generalize two (b1, b2) (a1, a2) = LQ at *
  generalize cutF a1 a2 = UA at *
  generalize cutF b1 b2 = UB at *
  generalize [(a1, a2)] = LA at *
  generalize [(b1, b2)] = LB at *
  clear H1 H2 H3 H4 H5 H6 M1 M2 M3 M4 M5 M6 E1 E2 E3 E4 E5 E6 R1 R2 R3 R4 R5 R6
  go_wp2_with fail
  clear x0 x1 y0 y1
  obtain ⟨V0, hV0⟩ : ∃ x, x = w1 := ⟨_, rfl⟩
  obtain ⟨ga, hga⟩ : ∃ x, x = W.heap.size + 1 := ⟨_, rfl⟩
  obtain ⟨gb, hgb⟩ : ∃ x, x = W.heap.size + 1 + 1 := ⟨_, rfl⟩
  rw [← hgb, ← hga, ← hV0]
  rw [← hV0] at GA GB BW
  rw [← hga] at GA
  rw [← hgb] at GB
  clear hV0 hga hgb
  have F0 := Lib.hid (fun w (h : Below V0.heap.size V0 w) => bel_call BW.out h BW.out.size)
  have BB0 := Lib.hid ((Below.refl V0.heap.size V0).drew)
  have BA := Lib.hid (((Below.refl V0.heap.size V0).alloc (Nat.le_refl _) (.cells #[.bool false, .slice none 0 0, .bool false] 24)).drew)
  have KEEP := Lib.hid (show ∀ w', Below V0.heap.size V0 w' → (Below V0.heap.size V0 w' ∧ w'.cell? ⟨ga, 0, none⟩ = some (.slice A1 n1 ac1) ∧ w'.cell? ⟨ga, 1, none⟩ = some (.slice A2 n2 ac2)) from fun w' h => by
    obtain ⟨a0, a1'⟩ := arr2_cells (old_below GA.out h (Nat.le_refl _))
    exact ⟨h, a0, a1'⟩)
  go_cut [8, 9] (fun v u wx => ∃ g A c T tc, v = .pointer (some ⟨g, 0, none⟩) ∧ u = .slice T 16 tc ∧ wx.heap[g]? = some (.cells (pcs true A 1 c false) 24 (0, 0)) ∧ V0.heap.size ≤ g ∧ 1 ≤ c ∧ c ≤ 9223372036854775807 ∧ Tab wx wx.heap.size A LA ∧ Rd wx wx.heap.size T UA ∧ Below V0.heap.size V0 wx)
  case first =>
    go_region_held3 (fun w' => Below V0.heap.size V0 w' ∧ w'.cell? ⟨ga, 0, none⟩ = some (.slice A1 n1 ac1) ∧ w'.cell? ⟨ga, 1, none⟩ = some (.slice A2 n2 ac2))
      (first | with_reducible exact KEEP.out _ BB0.out | with_reducible exact KEEP.out _ BA.out | with_reducible exact KEEP.out _ BB1.out | with_reducible exact KEEP.out _ (BB1.out.alloc hs1 _) | with_reducible exact KEEP.out _ BB2.out | with_reducible exact KEEP.out _ (BB2.out.alloc hs2 _) | exact KEEP.out _ (Below.set3 BB2.out (Nat.le_refl _) _ _ _) | exact KEEP.out _ (Below.set3 BB2.out hs1 _ _ _))
      (first
      | (go_at_call 20; (with_reducible refine (new4_any true _).mono ?_); rintro e ww1 ⟨rfl, hb⟩; have BB1 := Lib.hid (by first | with_reducible exact bel_call BB0.out hb BB0.out.size | with_reducible exact bel_call BA.out hb BA.out.size); have hs1 : V0.heap.size ≤ ww1.heap.size := BB1.out.size; (first | (have hz := old_below (g := V0.heap.size) (by exact heap_alloc_new V0 (.cells #[.bool false, .slice none 0 0, .bool false] 24)) hb (Nat.le_refl _); have ZZ1 := Lib.hid hz; clear hz) | skip); clear hb)
      | (go_at_call 11; (with_reducible refine (CTa.out _ ?_).mono ?_); (first | with_reducible exact F0.out _ BB1.out | with_reducible exact F0.out _ (BB1.out.alloc hs1 (.cells #[.bool false, .slice none 0 0, .bool false] 24))); rintro e ww2 ⟨⟨nn, AA, c2, TT, tc, rfl, hnn, h11, h12, h13, h14, h15, h16⟩, hb⟩; have BB2 := Lib.hid (by first | with_reducible exact bel_call BB1.out hb BB1.out.size | with_reducible exact bel_call (BB1.out.alloc hs1 (.cells #[.bool false, .slice none 0 0, .bool false] 24)) hb (BB1.out.alloc hs1 (.cells #[.bool false, .slice none 0 0, .bool false] 24)).size); have hs2 : V0.heap.size ≤ ww2.heap.size := BB2.out.size; (first | (have hz := old_below ZZ1.out hb (Nat.le_refl _); have ZZ2 := Lib.hid hz; obtain ⟨z0, z1, z2⟩ := cells3 hz; obtain ⟨y0, y1, y2⟩ := frozen3 hz; clear hz) | (have hz := old_below (g := ww1.heap.size) (by exact heap_alloc_new ww1 (.cells #[.bool false, .slice none 0 0, .bool false] 24)) hb (Nat.le_refl _); have ZZ2 := Lib.hid hz; obtain ⟨z0, z1, z2⟩ := cells3 hz; obtain ⟨y0, y1, y2⟩ := frozen3 hz; clear hz) | skip); have h9 : 1 = nn := (hnn.trans HLA.out).symm; clear hnn; subst h9; have HT := Lib.hid h15; have HX := Lib.hid h16; clear h15 h16; clear hb))
    all_goals
      go_wp2_with fail
      go_meet
      case rel => first
        | (refine ⟨ww2.heap.size, AA, c2, TT, tc, by with_reducible rfl, by with_reducible rfl, heap_alloc_new ww2 _, hs2, h11, h12, HT.out.al _, HX.out.al _, BB2.out.alloc hs2 _⟩)
        | (refine ⟨V0.heap.size, AA, c2, TT, tc, by with_reducible rfl, by with_reducible rfl, set3_same (.bool true) (.slice AA 1 c2) (.bool false) ZZ2.out, (Nat.le_refl _), h11, h12, HT.out.put ZZ2.out (.bool true) (.slice AA 1 c2) (.bool false), HX.out.put ZZ2.out (.bool true) (.slice AA 1 c2) (.bool false), Below.set3 BB2.out (Nat.le_refl _) (.bool true) (.slice AA 1 c2) (.bool false)⟩)
        | (refine ⟨ww1.heap.size, AA, c2, TT, tc, by with_reducible rfl, by with_reducible rfl, set3_same (.bool true) (.slice AA 1 c2) (.bool false) ZZ2.out, hs1, h11, h12, HT.out.put ZZ2.out (.bool true) (.slice AA 1 c2) (.bool false), HX.out.put ZZ2.out (.bool true) (.slice AA 1 c2) (.bool false), Below.set3 BB2.out hs1 (.bool true) (.slice AA 1 c2) (.bool false)⟩)
  case rest =>
  obtain ⟨g1, A1x, c1x, T1, tc1, rfl, rfl, hg, hgl, hc1, hm1, hT, hX, hB⟩ := hcut
  obtain ⟨V1, hV1⟩ : ∃ x, x = wc := ⟨_, rfl⟩
  rw [← hV1] at hg hT hX hB
  rw [← hV1]
  have GL1 := Lib.hid hgl
  have GW1 := Lib.hid (Nat.le_trans BW.out.size hgl)
  have na1 : ga ≠ g1 := by have := (Array.getElem?_eq_some_iff.1 GA.out).1; omega
  have nb1 : gb ≠ g1 := by have := (Array.getElem?_eq_some_iff.1 GB.out).1; omega
  have nGA := Lib.hid (old_below GA.out hB (Nat.le_refl _))
  have nGB := Lib.hid (old_below GB.out hB (Nat.le_refl _))
  have nBW := Lib.hid (bel_call BW.out hB BW.out.size)
  clear GA GB BW
  have GA := nGA
  have GB := nGB
  have BW := nBW
  clear nGA nGB nBW
  have G1 := Lib.hid hg
  have HT1 := Lib.hid hT
  have HX1 := Lib.hid hX
  clear hg hgl hT hX hB hV1 BB0 BA KEEP F0
  obtain ⟨x0, x1, x2⟩ := cells3 G1.out
  obtain ⟨y0, y1⟩ := arr2_cells GB.out
  go_wp2_with fail
  clear x0 x1 x2 y0 y1
  with_reducible refine (CTab.out _ _ _ hc1 hm1 HT1.out BW.out).mono ?_
  rintro e w2 ⟨⟨nn, A2x, c2x, T2, tc2, rfl, hnn, h11, h12, h13, h14, h15, h16⟩, hb⟩
  have h9 : N = nn := HN.out.trans hnn.symm
  clear hnn
  subst h9
  clear HT1
  have nGA := Lib.hid (old_below GA.out hb (Nat.le_refl _))
  have nGB := Lib.hid (old_below GB.out hb (Nat.le_refl _))
  have nG1 := Lib.hid (old_below G1.out hb (Nat.le_refl _))
  have nHX1 := Lib.hid ((HX1.out.below hb (Nat.le_refl _)).more hb.size)
  have nBW := Lib.hid (bel_call BW.out hb BW.out.size)
  clear GA GB G1 HX1 BW
  have GA := nGA
  have GB := nGB
  have G1 := nG1
  have HX1 := nHX1
  have BW := nBW
  clear nGA nGB nG1 nHX1 nBW
  have HQ := G1
  clear G1
  have HT2 := Lib.hid h15
  have HX2 := Lib.hid h16
  obtain ⟨x0, x1, x2⟩ := cells3 HQ.out
  obtain ⟨y0, y1, y2⟩ := frozen3 HQ.out
  clear hb h15 h16
  have nG1 := Lib.hid (set3_same (.bool true) (.slice A2x N c2x) (.bool false) HQ.out)
  have nGA := Lib.hid ((set3_other (.bool true) (.slice A2x N c2x) (.bool false) (na1)).trans GA.out)
  have nGB := Lib.hid ((set3_other (.bool true) (.slice A2x N c2x) (.bool false) (nb1)).trans GB.out)
  have nHX1 := Lib.hid (HX1.out.put HQ.out (.bool true) (.slice A2x N c2x) (.bool false))
  have nHX2 := Lib.hid (HX2.out.put HQ.out (.bool true) (.slice A2x N c2x) (.bool false))
  have nHT2 := Lib.hid (HT2.out.put HQ.out (.bool true) (.slice A2x N c2x) (.bool false))
  have nBW := Lib.hid (Below.set3 BW.out GW1.out (.bool true) (.slice A2x N c2x) (.bool false))
  clear GA GB HX1 HX2 HT2 BW
  have GA := nGA
  have GB := nGB
  have HX1 := nHX1
  have HX2 := nHX2
  have HT2 := nHT2
  have BW := nBW
  clear nGA nGB nHX1 nHX2 nHT2 nBW
  have G1 := nG1
  clear nG1 HQ
  have hV : ∃ V, V = set3 w2 g1 (.bool true) (.slice A2x N c2x) (.bool false) := ⟨_, rfl⟩
  obtain ⟨V2, hV⟩ := hV
  rw [← hV] at GA GB HX1 HX2 HT2 BW G1
  have HV := Lib.hid hV
  clear hV
  go_wp2_with fail
  change Code.wp _ _ _ _ (set3 w2 g1 (.bool true) (.slice A2x N c2x) (.bool false))
  rw [← HV.out]
  clear HV x0 x1 x2 y0 y1 y2
  have F0 := Lib.hid (fun w (h : Below V2.heap.size V2 w) => bel_call BW.out h BW.out.size)
  have BB0 := Lib.hid ((Below.refl V2.heap.size V2).drew)
  have BA := Lib.hid (((Below.refl V2.heap.size V2).alloc (Nat.le_refl _) (.cells #[.bool false, .slice none 0 0, .bool false] 24)).drew)
  have KEEP := Lib.hid (show ∀ w', Below V2.heap.size V2 w' → (Below V2.heap.size V2 w' ∧ w'.cell? ⟨gb, 0, none⟩ = some (.slice B1 n3 bc1) ∧ w'.cell? ⟨gb, 1, none⟩ = some (.slice B2 n4 bc2)) from fun w' h => by
    obtain ⟨a0, a1'⟩ := arr2_cells (old_below GB.out h (Nat.le_refl _))
    exact ⟨h, a0, a1'⟩)
  go_cut [11, 12] (fun v u wx => ∃ g A c T tc, v = .pointer (some ⟨g, 0, none⟩) ∧ u = .slice T 16 tc ∧ wx.heap[g]? = some (.cells (pcs true A 1 c false) 24 (0, 0)) ∧ V2.heap.size ≤ g ∧ 1 ≤ c ∧ c ≤ 9223372036854775807 ∧ Tab wx wx.heap.size A LB ∧ Rd wx wx.heap.size T UB ∧ Below V2.heap.size V2 wx)
  case first =>
    go_region_held3 (fun w' => Below V2.heap.size V2 w' ∧ w'.cell? ⟨gb, 0, none⟩ = some (.slice B1 n3 bc1) ∧ w'.cell? ⟨gb, 1, none⟩ = some (.slice B2 n4 bc2))
      (first | with_reducible exact KEEP.out _ BB0.out | with_reducible exact KEEP.out _ BA.out | with_reducible exact KEEP.out _ BB1.out | with_reducible exact KEEP.out _ (BB1.out.alloc hs1 _) | with_reducible exact KEEP.out _ BB2.out | with_reducible exact KEEP.out _ (BB2.out.alloc hs2 _) | exact KEEP.out _ (Below.set3 BB2.out (Nat.le_refl _) _ _ _) | exact KEEP.out _ (Below.set3 BB2.out hs1 _ _ _))
      (first
      | (go_at_call 20; (with_reducible refine (new4_any true _).mono ?_); rintro e ww1 ⟨rfl, hb⟩; have BB1 := Lib.hid (by first | with_reducible exact bel_call BB0.out hb BB0.out.size | with_reducible exact bel_call BA.out hb BA.out.size); have hs1 : V2.heap.size ≤ ww1.heap.size := BB1.out.size; (first | (have hz := old_below (g := V2.heap.size) (by exact heap_alloc_new V2 (.cells #[.bool false, .slice none 0 0, .bool false] 24)) hb (Nat.le_refl _); have ZZ1 := Lib.hid hz; clear hz) | skip); clear hb)
      | (go_at_call 11; (with_reducible refine (CTb.out _ ?_).mono ?_); (first | with_reducible exact F0.out _ BB1.out | with_reducible exact F0.out _ (BB1.out.alloc hs1 (.cells #[.bool false, .slice none 0 0, .bool false] 24))); rintro e ww2 ⟨⟨nn, AA, c2, TT, tc, rfl, hnn, h11, h12, h13, h14, h15, h16⟩, hb⟩; have BB2 := Lib.hid (by first | with_reducible exact bel_call BB1.out hb BB1.out.size | with_reducible exact bel_call (BB1.out.alloc hs1 (.cells #[.bool false, .slice none 0 0, .bool false] 24)) hb (BB1.out.alloc hs1 (.cells #[.bool false, .slice none 0 0, .bool false] 24)).size); have hs2 : V2.heap.size ≤ ww2.heap.size := BB2.out.size; (first | (have hz := old_below ZZ1.out hb (Nat.le_refl _); have ZZ2 := Lib.hid hz; obtain ⟨z0, z1, z2⟩ := cells3 hz; obtain ⟨y0, y1, y2⟩ := frozen3 hz; clear hz) | (have hz := old_below (g := ww1.heap.size) (by exact heap_alloc_new ww1 (.cells #[.bool false, .slice none 0 0, .bool false] 24)) hb (Nat.le_refl _); have ZZ2 := Lib.hid hz; obtain ⟨z0, z1, z2⟩ := cells3 hz; obtain ⟨y0, y1, y2⟩ := frozen3 hz; clear hz) | skip); have h9 : 1 = nn := (hnn.trans HLB.out).symm; clear hnn; subst h9; have HT := Lib.hid h15; have HX := Lib.hid h16; clear h15 h16; clear hb))
    all_goals
      go_wp2_with fail
      go_meet
      case rel => first
        | (refine ⟨ww2.heap.size, AA, c2, TT, tc, by with_reducible rfl, by with_reducible rfl, heap_alloc_new ww2 _, hs2, h11, h12, HT.out.al _, HX.out.al _, BB2.out.alloc hs2 _⟩)
        | (refine ⟨V2.heap.size, AA, c2, TT, tc, by with_reducible rfl, by with_reducible rfl, set3_same (.bool true) (.slice AA 1 c2) (.bool false) ZZ2.out, (Nat.le_refl _), h11, h12, HT.out.put ZZ2.out (.bool true) (.slice AA 1 c2) (.bool false), HX.out.put ZZ2.out (.bool true) (.slice AA 1 c2) (.bool false), Below.set3 BB2.out (Nat.le_refl _) (.bool true) (.slice AA 1 c2) (.bool false)⟩)
        | (refine ⟨ww1.heap.size, AA, c2, TT, tc, by with_reducible rfl, by with_reducible rfl, set3_same (.bool true) (.slice AA 1 c2) (.bool false) ZZ2.out, hs1, h11, h12, HT.out.put ZZ2.out (.bool true) (.slice AA 1 c2) (.bool false), HX.out.put ZZ2.out (.bool true) (.slice AA 1 c2) (.bool false), Below.set3 BB2.out hs1 (.bool true) (.slice AA 1 c2) (.bool false)⟩)
  case rest =>
  obtain ⟨g3, A3x, c3x, T3, tc3, rfl, rfl, hg, hgl, hc3, hm3, hT, hX, hB⟩ := hcut
  obtain ⟨V3, hV3⟩ : ∃ x, x = wc := ⟨_, rfl⟩
  rw [← hV3] at hg hT hX hB
  rw [← hV3]
  have GL3 := Lib.hid hgl
  have GW3 := Lib.hid (Nat.le_trans BW.out.size hgl)
  have na3 : ga ≠ g3 := by have := (Array.getElem?_eq_some_iff.1 GA.out).1; omega
  have nb3 : gb ≠ g3 := by have := (Array.getElem?_eq_some_iff.1 GB.out).1; omega
  have n1_3 : g1 ≠ g3 := by have := (Array.getElem?_eq_some_iff.1 G1.out).1; omega
  have nGA := Lib.hid (old_below GA.out hB (Nat.le_refl _))
  have nGB := Lib.hid (old_below GB.out hB (Nat.le_refl _))
  have nG1 := Lib.hid (old_below G1.out hB (Nat.le_refl _))
  have nHX1 := Lib.hid ((HX1.out.below hB (Nat.le_refl _)).more hB.size)
  have nHX2 := Lib.hid ((HX2.out.below hB (Nat.le_refl _)).more hB.size)
  have nHT2 := Lib.hid ((HT2.out.below hB (Nat.le_refl _)).more hB.size)
  have nBW := Lib.hid (bel_call BW.out hB BW.out.size)
  clear GA GB G1 HX1 HX2 HT2 BW
  have GA := nGA
  have GB := nGB
  have G1 := nG1
  have HX1 := nHX1
  have HX2 := nHX2
  have HT2 := nHT2
  have BW := nBW
  clear nGA nGB nG1 nHX1 nHX2 nHT2 nBW
  have G3 := Lib.hid hg
  have HT3 := Lib.hid hT
  have HX3 := Lib.hid hX
  clear hg hgl hT hX hB hV3 BB0 BA KEEP F0
  obtain ⟨x0, x1, x2⟩ := cells3 G3.out
  obtain ⟨y0, y1⟩ := arr2_cells GA.out
  go_wp2_with fail
  clear x0 x1 x2 y0 y1
  with_reducible refine (CTba.out _ _ _ hc3 hm3 HT3.out BW.out).mono ?_
  rintro e w4 ⟨⟨nn, A4x, c4x, T4, tc4, rfl, hnn, h11, h12, h13, h14, h15, h16⟩, hb⟩
  have h9 : N = nn := HN2.out.trans hnn.symm
  clear hnn
  subst h9
  clear HT3
  have nGA := Lib.hid (old_below GA.out hb (Nat.le_refl _))
  have nGB := Lib.hid (old_below GB.out hb (Nat.le_refl _))
  have nG1 := Lib.hid (old_below G1.out hb (Nat.le_refl _))
  have nG3 := Lib.hid (old_below G3.out hb (Nat.le_refl _))
  have nHX1 := Lib.hid ((HX1.out.below hb (Nat.le_refl _)).more hb.size)
  have nHX2 := Lib.hid ((HX2.out.below hb (Nat.le_refl _)).more hb.size)
  have nHX3 := Lib.hid ((HX3.out.below hb (Nat.le_refl _)).more hb.size)
  have nHT2 := Lib.hid ((HT2.out.below hb (Nat.le_refl _)).more hb.size)
  have nBW := Lib.hid (bel_call BW.out hb BW.out.size)
  clear GA GB G1 G3 HX1 HX2 HX3 HT2 BW
  have GA := nGA
  have GB := nGB
  have G1 := nG1
  have G3 := nG3
  have HX1 := nHX1
  have HX2 := nHX2
  have HX3 := nHX3
  have HT2 := nHT2
  have BW := nBW
  clear nGA nGB nG1 nG3 nHX1 nHX2 nHX3 nHT2 nBW
  have HQ := G3
  clear G3
  have HT4 := Lib.hid h15
  have HX4 := Lib.hid h16
  obtain ⟨x0, x1, x2⟩ := cells3 HQ.out
  obtain ⟨y0, y1, y2⟩ := frozen3 HQ.out
  clear hb h15 h16
  have nG3 := Lib.hid (set3_same (.bool true) (.slice A4x N c4x) (.bool false) HQ.out)
  have nGA := Lib.hid ((set3_other (.bool true) (.slice A4x N c4x) (.bool false) (na3)).trans GA.out)
  have nGB := Lib.hid ((set3_other (.bool true) (.slice A4x N c4x) (.bool false) (nb3)).trans GB.out)
  have nG1 := Lib.hid ((set3_other (.bool true) (.slice A4x N c4x) (.bool false) (n1_3)).trans G1.out)
  have nHX1 := Lib.hid (HX1.out.put HQ.out (.bool true) (.slice A4x N c4x) (.bool false))
  have nHX2 := Lib.hid (HX2.out.put HQ.out (.bool true) (.slice A4x N c4x) (.bool false))
  have nHX3 := Lib.hid (HX3.out.put HQ.out (.bool true) (.slice A4x N c4x) (.bool false))
  have nHX4 := Lib.hid (HX4.out.put HQ.out (.bool true) (.slice A4x N c4x) (.bool false))
  have nHT2 := Lib.hid (HT2.out.put HQ.out (.bool true) (.slice A4x N c4x) (.bool false))
  have nHT4 := Lib.hid (HT4.out.put HQ.out (.bool true) (.slice A4x N c4x) (.bool false))
  have nBW := Lib.hid (Below.set3 BW.out GW3.out (.bool true) (.slice A4x N c4x) (.bool false))
  clear GA GB G1 HX1 HX2 HX3 HX4 HT2 HT4 BW
  have GA := nGA
  have GB := nGB
  have G1 := nG1
  have HX1 := nHX1
  have HX2 := nHX2
  have HX3 := nHX3
  have HX4 := nHX4
  have HT2 := nHT2
  have HT4 := nHT4
  have BW := nBW
  clear nGA nGB nG1 nHX1 nHX2 nHX3 nHX4 nHT2 nHT4 nBW
  have G3 := nG3
  clear nG3 HQ
  have hV : ∃ V, V = set3 w4 g3 (.bool true) (.slice A4x N c4x) (.bool false) := ⟨_, rfl⟩
  obtain ⟨V4, hV⟩ := hV
  rw [← hV] at GA GB G1 HX1 HX2 HX3 HX4 HT2 HT4 BW G3
  have HV := Lib.hid hV
  clear hV
  obtain ⟨u0, u1, u2⟩ := cells3 G1.out
  rw [HV.out] at u0 u1 u2
  unfold set3 at u0 u1 u2
  go_wp2_with fail
  change Calls _ _ _ (set3 w4 g3 (.bool true) (.slice A4x N c4x) (.bool false)) _
  rw [← HV.out]
  clear HV x0 x1 x2 y0 y1 y2 u0 u1 u2
  with_reducible refine (CHp.out _ _ _ HT2.out BW.out).mono ?_
  rintro e w5 ⟨rfl, hb⟩
  have nGA := Lib.hid (old_below GA.out hb (Nat.le_refl _))
  have nGB := Lib.hid (old_below GB.out hb (Nat.le_refl _))
  have nG1 := Lib.hid (old_below G1.out hb (Nat.le_refl _))
  have nG3 := Lib.hid (old_below G3.out hb (Nat.le_refl _))
  have nHX1 := Lib.hid ((HX1.out.below hb (Nat.le_refl _)).more hb.size)
  have nHX2 := Lib.hid ((HX2.out.below hb (Nat.le_refl _)).more hb.size)
  have nHX3 := Lib.hid ((HX3.out.below hb (Nat.le_refl _)).more hb.size)
  have nHX4 := Lib.hid ((HX4.out.below hb (Nat.le_refl _)).more hb.size)
  have nHT2 := Lib.hid ((HT2.out.below hb (Nat.le_refl _)).more hb.size)
  have nHT4 := Lib.hid ((HT4.out.below hb (Nat.le_refl _)).more hb.size)
  have nBW := Lib.hid (bel_call BW.out hb BW.out.size)
  clear GA GB G1 G3 HX1 HX2 HX3 HX4 HT2 HT4 BW
  have GA := nGA
  have GB := nGB
  have G1 := nG1
  have G3 := nG3
  have HX1 := nHX1
  have HX2 := nHX2
  have HX3 := nHX3
  have HX4 := nHX4
  have HT2 := nHT2
  have HT4 := nHT4
  have BW := nBW
  clear nGA nGB nG1 nG3 nHX1 nHX2 nHX3 nHX4 nHT2 nHT4 nBW
  clear hb
  obtain ⟨x0, x1, x2⟩ := cells3 G1.out
  obtain ⟨y0, y1⟩ := arr2_cells GA.out
  obtain ⟨z0, z1⟩ := arr2_cells GB.out
  obtain ⟨u0, u1, u2⟩ := cells3 G3.out
  cases o1
  · cases p1
    · obtain rfl : h = false := by rw [HH.out]; simp
      clear HH
      go_wp2_with fail
      with_reducible refine (CSa1.out _ BW.out).mono ?_
      rintro e ww ⟨rfl, rfl⟩
      go_wp2_with fail
      with_reducible refine (CSb1.out _ BW.out).mono ?_
      rintro e ww ⟨rfl, rfl⟩
      go_wp2_with fail
      with_reducible refine (S2.out UA _ _ _ _ _ HUa.out HX1.out HX4.out).mono ?_
      rintro e ww ⟨rfl, rfl⟩
      go_wp2_with fail
      with_reducible refine (S2.out UB _ _ _ _ _ HUb.out HX2.out HX3.out).mono ?_
      rintro e ww ⟨rfl, rfl⟩
      go_wp2_with fail
      with_reducible refine (CHq.out _ _ _ HT4.out BW.out).mono ?_
      rintro e w6 ⟨rfl, hb⟩
      have c8 := cells3 (old_below G1.out hb (Nat.le_refl _))
      have c9 := cells3 (old_below G3.out hb (Nat.le_refl _))
      have HBE := Lib.hid (bel_call BW.out hb BW.out.size)
      clear hb x0 x1 x2 y0 y1 z0 z1 u0 u1 u2
      obtain ⟨x0, x1, x2⟩ := c8
      obtain ⟨u0, u1, u2⟩ := c9
      go_wp2_with fail
      go_ret
      exact ⟨rfl, HBE.out⟩
    · cases p2
      · obtain rfl : h = false := by rw [HH.out]; simp
        clear HH
        go_wp2_with fail
        with_reducible refine (CSa1.out _ BW.out).mono ?_
        rintro e ww ⟨rfl, rfl⟩
        go_wp2_with fail
        with_reducible refine (CSb1.out _ BW.out).mono ?_
        rintro e ww ⟨rfl, rfl⟩
        go_wp2_with fail
        with_reducible refine (CSb2.out _ BW.out).mono ?_
        rintro e ww ⟨rfl, rfl⟩
        go_wp2_with fail
        with_reducible refine (S2.out UA _ _ _ _ _ HUa.out HX1.out HX4.out).mono ?_
        rintro e ww ⟨rfl, rfl⟩
        go_wp2_with fail
        with_reducible refine (S2.out UB _ _ _ _ _ HUb.out HX2.out HX3.out).mono ?_
        rintro e ww ⟨rfl, rfl⟩
        go_wp2_with fail
        with_reducible refine (CHq.out _ _ _ HT4.out BW.out).mono ?_
        rintro e w6 ⟨rfl, hb⟩
        have c8 := cells3 (old_below G1.out hb (Nat.le_refl _))
        have c9 := cells3 (old_below G3.out hb (Nat.le_refl _))
        have HBE := Lib.hid (bel_call BW.out hb BW.out.size)
        clear hb x0 x1 x2 y0 y1 z0 z1 u0 u1 u2
        obtain ⟨x0, x1, x2⟩ := c8
        obtain ⟨u0, u1, u2⟩ := c9
        go_wp2_with fail
        go_ret
        exact ⟨rfl, HBE.out⟩
      · obtain rfl : h = true := by rw [HH.out]; simp
        clear HH
        go_wp2_with fail
        with_reducible refine (CSa1.out _ BW.out).mono ?_
        rintro e ww ⟨rfl, rfl⟩
        go_wp2_with fail
        with_reducible refine (CSb1.out _ BW.out).mono ?_
        rintro e ww ⟨rfl, rfl⟩
        go_wp2_with fail
        with_reducible refine (CSb2.out _ BW.out).mono ?_
        rintro e ww ⟨rfl, rfl⟩
        go_wp2_with fail
        with_reducible refine (S2.out UA _ _ _ _ _ HUa.out HX1.out HX4.out).mono ?_
        rintro e ww ⟨rfl, rfl⟩
        go_wp2_with fail
        with_reducible refine (S2.out UB _ _ _ _ _ HUb.out HX2.out HX3.out).mono ?_
        rintro e ww ⟨rfl, rfl⟩
        go_wp2_with fail
        with_reducible refine (CHq.out _ _ _ HT4.out BW.out).mono ?_
        rintro e w6 ⟨rfl, hb⟩
        have c8 := cells3 (old_below G1.out hb (Nat.le_refl _))
        have c9 := cells3 (old_below G3.out hb (Nat.le_refl _))
        have HBE := Lib.hid (bel_call BW.out hb BW.out.size)
        clear hb x0 x1 x2 y0 y1 z0 z1 u0 u1 u2
        obtain ⟨x0, x1, x2⟩ := c8
        obtain ⟨u0, u1, u2⟩ := c9
        go_wp2_with fail
        go_ret
        exact ⟨rfl, HBE.out⟩
  · cases o2
    · cases p1
      · obtain rfl : h = false := by rw [HH.out]; simp
        clear HH
        go_wp2_with fail
        with_reducible refine (CSa1.out _ BW.out).mono ?_
        rintro e ww ⟨rfl, rfl⟩
        go_wp2_with fail
        with_reducible refine (CSa2.out _ BW.out).mono ?_
        rintro e ww ⟨rfl, rfl⟩
        go_wp2_with fail
        with_reducible refine (CSb1.out _ BW.out).mono ?_
        rintro e ww ⟨rfl, rfl⟩
        go_wp2_with fail
        with_reducible refine (S2.out UA _ _ _ _ _ HUa.out HX1.out HX4.out).mono ?_
        rintro e ww ⟨rfl, rfl⟩
        go_wp2_with fail
        with_reducible refine (S2.out UB _ _ _ _ _ HUb.out HX2.out HX3.out).mono ?_
        rintro e ww ⟨rfl, rfl⟩
        go_wp2_with fail
        with_reducible refine (CHq.out _ _ _ HT4.out BW.out).mono ?_
        rintro e w6 ⟨rfl, hb⟩
        have c8 := cells3 (old_below G1.out hb (Nat.le_refl _))
        have c9 := cells3 (old_below G3.out hb (Nat.le_refl _))
        have HBE := Lib.hid (bel_call BW.out hb BW.out.size)
        clear hb x0 x1 x2 y0 y1 z0 z1 u0 u1 u2
        obtain ⟨x0, x1, x2⟩ := c8
        obtain ⟨u0, u1, u2⟩ := c9
        go_wp2_with fail
        go_ret
        exact ⟨rfl, HBE.out⟩
      · cases p2
        · obtain rfl : h = false := by rw [HH.out]; simp
          clear HH
          go_wp2_with fail
          with_reducible refine (CSa1.out _ BW.out).mono ?_
          rintro e ww ⟨rfl, rfl⟩
          go_wp2_with fail
          with_reducible refine (CSa2.out _ BW.out).mono ?_
          rintro e ww ⟨rfl, rfl⟩
          go_wp2_with fail
          with_reducible refine (CSb1.out _ BW.out).mono ?_
          rintro e ww ⟨rfl, rfl⟩
          go_wp2_with fail
          with_reducible refine (CSb2.out _ BW.out).mono ?_
          rintro e ww ⟨rfl, rfl⟩
          go_wp2_with fail
          with_reducible refine (S2.out UA _ _ _ _ _ HUa.out HX1.out HX4.out).mono ?_
          rintro e ww ⟨rfl, rfl⟩
          go_wp2_with fail
          with_reducible refine (S2.out UB _ _ _ _ _ HUb.out HX2.out HX3.out).mono ?_
          rintro e ww ⟨rfl, rfl⟩
          go_wp2_with fail
          with_reducible refine (CHq.out _ _ _ HT4.out BW.out).mono ?_
          rintro e w6 ⟨rfl, hb⟩
          have c8 := cells3 (old_below G1.out hb (Nat.le_refl _))
          have c9 := cells3 (old_below G3.out hb (Nat.le_refl _))
          have HBE := Lib.hid (bel_call BW.out hb BW.out.size)
          clear hb x0 x1 x2 y0 y1 z0 z1 u0 u1 u2
          obtain ⟨x0, x1, x2⟩ := c8
          obtain ⟨u0, u1, u2⟩ := c9
          go_wp2_with fail
          go_ret
          exact ⟨rfl, HBE.out⟩
        · obtain rfl : h = true := by rw [HH.out]; simp
          clear HH
          go_wp2_with fail
          with_reducible refine (CSa1.out _ BW.out).mono ?_
          rintro e ww ⟨rfl, rfl⟩
          go_wp2_with fail
          with_reducible refine (CSa2.out _ BW.out).mono ?_
          rintro e ww ⟨rfl, rfl⟩
          go_wp2_with fail
          with_reducible refine (CSb1.out _ BW.out).mono ?_
          rintro e ww ⟨rfl, rfl⟩
          go_wp2_with fail
          with_reducible refine (CSb2.out _ BW.out).mono ?_
          rintro e ww ⟨rfl, rfl⟩
          go_wp2_with fail
          with_reducible refine (S2.out UA _ _ _ _ _ HUa.out HX1.out HX4.out).mono ?_
          rintro e ww ⟨rfl, rfl⟩
          go_wp2_with fail
          with_reducible refine (S2.out UB _ _ _ _ _ HUb.out HX2.out HX3.out).mono ?_
          rintro e ww ⟨rfl, rfl⟩
          go_wp2_with fail
          with_reducible refine (CHq.out _ _ _ HT4.out BW.out).mono ?_
          rintro e w6 ⟨rfl, hb⟩
          have c8 := cells3 (old_below G1.out hb (Nat.le_refl _))
          have c9 := cells3 (old_below G3.out hb (Nat.le_refl _))
          have HBE := Lib.hid (bel_call BW.out hb BW.out.size)
          clear hb x0 x1 x2 y0 y1 z0 z1 u0 u1 u2
          obtain ⟨x0, x1, x2⟩ := c8
          obtain ⟨u0, u1, u2⟩ := c9
          go_wp2_with fail
          go_ret
          exact ⟨rfl, HBE.out⟩
    · cases p1
      · obtain rfl : h = true := by rw [HH.out]; simp
        clear HH
        go_wp2_with fail
        with_reducible refine (CSa1.out _ BW.out).mono ?_
        rintro e ww ⟨rfl, rfl⟩
        go_wp2_with fail
        with_reducible refine (CSa2.out _ BW.out).mono ?_
        rintro e ww ⟨rfl, rfl⟩
        go_wp2_with fail
        with_reducible refine (CSb1.out _ BW.out).mono ?_
        rintro e ww ⟨rfl, rfl⟩
        go_wp2_with fail
        with_reducible refine (S2.out UA _ _ _ _ _ HUa.out HX1.out HX4.out).mono ?_
        rintro e ww ⟨rfl, rfl⟩
        go_wp2_with fail
        with_reducible refine (S2.out UB _ _ _ _ _ HUb.out HX2.out HX3.out).mono ?_
        rintro e ww ⟨rfl, rfl⟩
        go_wp2_with fail
        with_reducible refine (CHq.out _ _ _ HT4.out BW.out).mono ?_
        rintro e w6 ⟨rfl, hb⟩
        have c8 := cells3 (old_below G1.out hb (Nat.le_refl _))
        have c9 := cells3 (old_below G3.out hb (Nat.le_refl _))
        have HBE := Lib.hid (bel_call BW.out hb BW.out.size)
        clear hb x0 x1 x2 y0 y1 z0 z1 u0 u1 u2
        obtain ⟨x0, x1, x2⟩ := c8
        obtain ⟨u0, u1, u2⟩ := c9
        go_wp2_with fail
        go_ret
        exact ⟨rfl, HBE.out⟩
      · cases p2
        · obtain rfl : h = true := by rw [HH.out]; simp
          clear HH
          go_wp2_with fail
          with_reducible refine (CSa1.out _ BW.out).mono ?_
          rintro e ww ⟨rfl, rfl⟩
          go_wp2_with fail
          with_reducible refine (CSa2.out _ BW.out).mono ?_
          rintro e ww ⟨rfl, rfl⟩
          go_wp2_with fail
          with_reducible refine (CSb1.out _ BW.out).mono ?_
          rintro e ww ⟨rfl, rfl⟩
          go_wp2_with fail
          with_reducible refine (CSb2.out _ BW.out).mono ?_
          rintro e ww ⟨rfl, rfl⟩
          go_wp2_with fail
          with_reducible refine (S2.out UA _ _ _ _ _ HUa.out HX1.out HX4.out).mono ?_
          rintro e ww ⟨rfl, rfl⟩
          go_wp2_with fail
          with_reducible refine (S2.out UB _ _ _ _ _ HUb.out HX2.out HX3.out).mono ?_
          rintro e ww ⟨rfl, rfl⟩
          go_wp2_with fail
          with_reducible refine (CHq.out _ _ _ HT4.out BW.out).mono ?_
          rintro e w6 ⟨rfl, hb⟩
          have c8 := cells3 (old_below G1.out hb (Nat.le_refl _))
          have c9 := cells3 (old_below G3.out hb (Nat.le_refl _))
          have HBE := Lib.hid (bel_call BW.out hb BW.out.size)
          clear hb x0 x1 x2 y0 y1 z0 z1 u0 u1 u2
          obtain ⟨x0, x1, x2⟩ := c8
          obtain ⟨u0, u1, u2⟩ := c9
          go_wp2_with fail
          go_ret
          exact ⟨rfl, HBE.out⟩
        · obtain rfl : h = true := by rw [HH.out]; simp
          clear HH
          go_wp2_with fail
          with_reducible refine (CSa1.out _ BW.out).mono ?_
          rintro e ww ⟨rfl, rfl⟩
          go_wp2_with fail
          with_reducible refine (CSa2.out _ BW.out).mono ?_
          rintro e ww ⟨rfl, rfl⟩
          go_wp2_with fail
          with_reducible refine (CSb1.out _ BW.out).mono ?_
          rintro e ww ⟨rfl, rfl⟩
          go_wp2_with fail
          with_reducible refine (CSb2.out _ BW.out).mono ?_
          rintro e ww ⟨rfl, rfl⟩
          go_wp2_with fail
          with_reducible refine (S2.out UA _ _ _ _ _ HUa.out HX1.out HX4.out).mono ?_
          rintro e ww ⟨rfl, rfl⟩
          go_wp2_with fail
          with_reducible refine (S2.out UB _ _ _ _ _ HUb.out HX2.out HX3.out).mono ?_
          rintro e ww ⟨rfl, rfl⟩
          go_wp2_with fail
          with_reducible refine (CHq.out _ _ _ HT4.out BW.out).mono ?_
          rintro e w6 ⟨rfl, hb⟩
          have c8 := cells3 (old_below G1.out hb (Nat.le_refl _))
          have c9 := cells3 (old_below G3.out hb (Nat.le_refl _))
          have HBE := Lib.hid (bel_call BW.out hb BW.out.size)
          clear hb x0 x1 x2 y0 y1 z0 z1 u0 u1 u2
          obtain ⟨x0, x1, x2⟩ := c8
          obtain ⟨u0, u1, u2⟩ := c9
          go_wp2_with fail
          go_ret
          exact ⟨rfl, HBE.out⟩
end Go.Proofs.YtcfncbbdlbdbnaaDoor
