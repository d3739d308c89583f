/- ShaParts' walk -/
import Derived.Test.YtggbcjfcnphenaaDoorShown2
import Derived.Test.YtggbcjfcnphenaaDoorSame
import Derived.Test.YtggbcjfcnphenaaDoorRefPut
namespace Go.Proofs.YtggbcjfcnphenaaDoor
open Go.RowKit

theorem range8 {W : World} {g : Nat} {s : St} {t : TypeId} {fr : Nat × Nat} (hg : W.heap[g]? = some (.cells s.cells t fr)) : W.rangeAt g 0 s.cells.toList := fun j v hv => by
  obtain ⟨e0, e1, e2, e3, e4, e5, e6, e7⟩ := cells8 hg
  rw [Nat.zero_add]
  match j, hv with
  | 0, h => cases h; exact e0
  | 1, h => cases h; exact e1
  | 2, h => cases h; exact e2
  | 3, h => cases h; exact e3
  | 4, h => cases h; exact e4
  | 5, h => cases h; exact e5
  | 6, h => cases h; exact e6
  | 7, h => cases h; exact e7
  | j + 8, h => cases h
theorem load8g {ops : Array Oper} {rest : List Oper} {o : Oper} {a : Act} {Q : Exit → Act → World → Prop} (W : World) (x : Operand) (g : Nat) (s : St)
    (hg : W.heap[g]? = some (.cells s.cells 28 (0, 0))) (hw : Region.wanted o (yielded ops a.tmps) = true) (ho : o.op = .load 28 x) (hx : a.eval x = .pointer (some ⟨g, 0, none⟩))
    (h : wpList Tryd.prog ops Q rest (a.put o.dst s.v) W) : wpList Tryd.prog ops Q (o :: rest) a W :=
  BigFrame.wpList_want hw fun _ hK => wp_load_mid 28 x ho g 0 hx s.cells.toList _ (range8 hg) Tryd.underlying28 rfl (by kernel_rfl) (hK _ _ h)

theorem refKey_any (i : Int) (w : World) :
    Calls Tryd.prog 20 #[.int .i64 i] w fun e w' => e = .returned (wv (keyF i)) ∧ Below w.heap.size w w' := by
  by_cases h : i < 0
  · rw [keyF_no (.inl h)]
    go_enter Tryd.func20, Tryd.ntmps20
    go_wp2
    go_ret
    exact ⟨rfl, Below.refl _ _⟩
  · by_cases h64 : 64 ≤ i
    · rw [keyF_no (.inr h64)]
      have hd : decide (i < 0) = false := by simpa using h
      go_enter Tryd.func20, Tryd.ntmps20
      go_wp2
      go_ret
      exact ⟨rfl, Below.refl _ _⟩
    · obtain ⟨j, rfl⟩ := Int.eq_ofNat_of_zero_le (show 0 ≤ i by omega)
      have hj : j < 64 := by omega
      rw [keyF_yes hj]
      generalize hx : ksAt j = x at *
      have HX := Lib.hid hx
      have hd : decide ((j : Int) < 0) = false := by simp
      have hd2 : decide (64 ≤ (j : Int)) = false := by simp; omega
      have hji : (j : Int) < 64 := by omega
      clear h h64 hx
      go_enter Tryd.func20, Tryd.ntmps20
      go_wp2_with fail
      refine (keys_any _).mono ?_
      rintro e w1 ⟨rfl, hkr, hb1⟩
      have HB1 := Lib.hid hb1
      have hc := hkr.2 j hj
      rw [HX.out] at hc
      clear hkr hb1
      go_wp2
      go_ret
      exact ⟨rfl, HB1.out⟩

set_option maxRecDepth 100000 in
set_option maxHeartbeats 2000000 in
theorem shaParts_walk (i : Int) (s : St) (A : Option Addr) (l : List UInt8) (c : Nat) (W : World) (_hi : -9223372036854775808 ≤ i ∧ i ≤ 9223372036854775807) (_hc : l.length ≤ c) (hr : Rd W W.heap.size A l) (hk : Ks W) :
    Calls Tryd.prog 4 #[.int .i64 i, s.v, .slice A l.length c] W fun e W' => e = .returned (.bool true) ∧ Below W.heap.size W W' := by
  have CB : ∃ (X : St) (E : Int), (∀ w, Rd w w.heap.size A l → Ks w → Calls Tryd.prog 14 #[s.v, .slice A l.length c] w fun e w' => e = .returned (.tuple #[X.v, .int .i64 E]) ∧ Below w.heap.size w w') ∧ (∀ w, Rd w w.heap.size A l → Calls Tryd.prog 15 #[s.v, .slice A l.length c] w fun e w' => e = .returned (.tuple #[X.v, .int .i64 E]) ∧ Below w.heap.size w w') := by
    by_cases h64 : l.length = 64
    · exact ⟨compress s l, 0, fun w h1 h2 => by rw [h64]; exact block_any s A l c w h64 h1 h2, fun w h1 => by rw [h64]; exact refBlock_any s A l c w h64 h1⟩
    · exact ⟨s, 1, fun w _ _ => block_no s A l.length c w h64, fun w _ => refBlock_no s A l.length c w h64⟩
  obtain ⟨X, E, c1, c2⟩ := CB
  have C1 := Lib.hid c1
  have C2 := Lib.hid c2
  obtain ⟨n, hn⟩ : ∃ n, n = l.length := ⟨_, rfl⟩
  rw [← hn] at C1 C2 _hc ⊢
  have q1 := heap_alloc_new W (.cells s.cells 28)
  have q4 : Below W.heap.size W (W.alloc (.cells s.cells 28)) := (Below.refl _ _).alloc (Nat.le_refl _) _
  have q3 : (W.alloc (.cells s.cells 28)).heap.size = W.heap.size + 1 := World.size_alloc _ _
  have HR := Lib.hid hr
  have HK := Lib.hid hk
  have hRB : ∀ w, Below W.heap.size W w → Rd w w.heap.size A l := fun w h => (HR.out.below h (Nat.le_refl _)).more h.size
  have hKB : ∀ w, Below W.heap.size W w → Ks w := fun w h => Ks.call HK.out h
  have RB := Lib.hid hRB
  have KB := Lib.hid hKB
  clear c1 c2 hr hk hn hRB hKB HR HK
  show Calls Tryd.prog 4 #[.int .i64 i, .agg #[wv s.a, wv s.b, wv s.c, wv s.d, wv s.e, wv s.f, wv s.g, wv s.h], .slice A n c] W _
  go_enter Tryd.func4, Tryd.ntmps4
  go_upto_region 1 with (fail)
  change Code.wp _ _ _ _ (W.alloc (.cells s.cells 28))
  generalize W.alloc (.cells s.cells 28) = W0 at *
  have Q1 := Lib.hid q1
  have Q4 := Lib.hid q4
  clear q1 q4
  go_wp2_with fail
  refine (shown_any _ (KB.out _ Q4.out)).mono ?_
  rintro e W1 ⟨rfl, hb1⟩
  have HB1 := Lib.hid (bel_call Q4.out hb1 (by omega))
  have S1 := Lib.hid (old_below (g := W.heap.size) Q1.out hb1 (Nat.le_refl _))
  have z1 : W.heap.size < W1.heap.size := by have := hb1.size; omega
  clear hb1 Q1 Q4 q3
  dsimp only
  by_cases h200 : 200 < n
  · have h200i : (200 : Int) < (n : Int) := by omega
    go_wp2
    go_ret
    exact ⟨rfl, HB1.out⟩
  · have h200i : ¬ (200 : Int) < (n : Int) := by omega
    go_wp2_with (with_reducible refine at_list ?_; refine load8 W1 (.tmp 4) W.heap.size s S1.out rfl rfl rfl ?_)
    refine (C1.out _ (RB.out _ HB1.out) (KB.out _ HB1.out)).mono ?_
    rintro e W2 ⟨rfl, hb2⟩
    have HB2 := Lib.hid (bel_call HB1.out hb2 (by omega))
    have S2 := Lib.hid (old_below (g := W.heap.size) S1.out hb2 (Nat.le_refl _))
    have z2 : W.heap.size < W2.heap.size := by have := hb2.size; omega
    clear hb2 HB1 S1
    dsimp only
    have t2 := heap_alloc_new W2 (.cells X.cells 28)
    have s2 := old_alloc S2.out (.cells X.cells 28)
    have b2 := HB2.out.alloc (Nat.le_of_lt z2) (.cells X.cells 28)
    have z3 : (W2.alloc (.cells X.cells 28)).heap.size = W2.heap.size + 1 := World.size_alloc _ _
    go_wp2_with (with_reducible refine at_list ?_; refine load8 _ (.tmp 4) W.heap.size s (by exact s2) rfl rfl rfl ?_)
    change Calls _ _ _ (W2.alloc (.cells X.cells 28)) _
    generalize W2.alloc (.cells X.cells 28) = V at *
    have T3 := Lib.hid t2
    have S3 := Lib.hid s2
    have HB3 := Lib.hid b2
    clear HB2 S2 t2 s2 b2
    refine (C2.out _ (RB.out _ HB3.out)).mono ?_
    rintro e W4 ⟨rfl, hb4⟩
    have HB4 := Lib.hid (bel_call HB3.out hb4 (by omega))
    have T4 := Lib.hid (old_below (g := W2.heap.size) T3.out hb4 (Nat.le_refl _))
    have z4 : W2.heap.size < W4.heap.size := by have := hb4.size; omega
    clear hb4 HB3 S3 T3
    dsimp only
    obtain ⟨b2, hb2⟩ : ∃ b, b = W2.heap.size := ⟨_, rfl⟩
    rw [← hb2] at T4 z4 z2 ⊢
    clear hb2
    have t5 := heap_alloc_new W4 (.cells X.cells 28)
    have s5 := old_alloc T4.out (.cells X.cells 28)
    have b5 := HB4.out.alloc (show W.heap.size ≤ W4.heap.size by omega) (.cells X.cells 28)
    have zz5 : (W4.alloc (.cells X.cells 28)).heap.size = W4.heap.size + 1 := World.size_alloc _ _
    go_wp2_with fail
    change Calls _ _ _ (W4.alloc (.cells X.cells 28)) _
    generalize W4.alloc (.cells X.cells 28) = V5 at *
    have T5 := Lib.hid t5
    have S5 := Lib.hid s5
    have HB5 := Lib.hid b5
    clear t5 s5 b5
    refine (new_any _).mono ?_
    rintro e W6 ⟨rfl, hb6⟩
    have HB6 := Lib.hid (bel_call HB5.out hb6 (by omega))
    have T6 := Lib.hid (old_below (g := W4.heap.size) T5.out hb6 (Nat.le_refl _))
    have S6 := Lib.hid (old_below (g := b2) S5.out hb6 (Nat.le_refl _))
    have z6 : W4.heap.size < W6.heap.size := by have := hb6.size; omega
    clear hb6 HB5 T5 S5 HB4 T4
    go_wp2_with fail
    refine (refNew_any _).mono ?_
    rintro e W7 ⟨rfl, hb7⟩
    have HB7 := Lib.hid (bel_call HB6.out hb7 (by omega))
    have T7 := Lib.hid (old_below (g := W4.heap.size) T6.out hb7 (Nat.le_refl _))
    have S7 := Lib.hid (old_below (g := b2) S6.out hb7 (Nat.le_refl _))
    have z7 : W4.heap.size < W7.heap.size := by have := hb7.size; omega
    clear hb7 HB6 T6 S6
    go_wp2_with fail
    refine (refSame_any h0 h0 0 0 none none [] [] 0 0 _ Rd.nil Rd.nil).mono ?_
    rintro e W8 ⟨rfl, hb8⟩
    have HB8 := Lib.hid (bel_call HB7.out hb8 (by omega))
    have T8 := Lib.hid (old_below (g := W4.heap.size) T7.out hb8 (Nat.le_refl _))
    have S8 := Lib.hid (old_below (g := b2) S7.out hb8 (Nat.le_refl _))
    have z8 : W4.heap.size < W8.heap.size := by have := hb8.size; omega
    clear hb8 HB7 T7 S7
    rw [show sameH h0 h0 0 0 [] [] = true by unfold sameH; simp]
    go_wp2_with fail
    refine (key_any i _ (KB.out _ HB8.out)).mono ?_
    rintro e W9 ⟨rfl, rfl⟩
    go_wp2_with fail
    refine (refKey_any i _).mono ?_
    rintro e W9 ⟨rfl, hb9⟩
    have HB9 := Lib.hid (bel_call HB8.out hb9 (by omega))
    have T9 := Lib.hid (old_below (g := W4.heap.size) T8.out hb9 (Nat.le_refl _))
    have S9 := Lib.hid (old_below (g := b2) S8.out hb9 (Nat.le_refl _))
    clear hb9 HB8 T8 S8
    have hE := fun V => eql8 X X V
    rw [decide_eq_true rfl] at hE
    have hk1 : (((keyF i).toNat : Int) == ((keyF i).toNat : Int)) = true := by simp
    have he1 : (E == E) = true := by simp
    generalize keyF i = kk at *
    go_wp2_with (with_reducible refine at_list ?_; first | refine load8g W9 (.tmp 8) b2 X S9.out rfl rfl rfl ?_ | refine load8g W9 (.tmp 10) W4.heap.size X T9.out rfl rfl rfl ?_)
    go_ret
    exact ⟨rfl, HB9.out⟩
end Go.Proofs.YtggbcjfcnphenaaDoor
