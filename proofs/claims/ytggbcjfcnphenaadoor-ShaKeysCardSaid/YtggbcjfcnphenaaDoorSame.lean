/- The document's Same: two digests under way. -/
import Derived.Test.YtggbcjfcnphenaaDoorKeys
import Derived.Test.YtggbcjfcnphenaaDoorDoc
import Derived.ChangeKeysEq
import Derived.Laws.StructEq
namespace Go.Proofs.YtggbcjfcnphenaaDoor
open Go.RowKit
theorem part8 (s : St) (i : Nat) (h : i < 8) (W : World) : (part 27 s.cells i).run Tryd.prog W = .ok (wv (s.at i)) W := by
  match i, h with
  | 0, _ => rfl | 1, _ => rfl | 2, _ => rfl | 3, _ => rfl | 4, _ => rfl | 5, _ => rfl | 6, _ => rfl | 7, _ => rfl
  | i + 8, h => exact absurd h (by omega)
theorem eqw (x y : UInt32) : ((x.toNat : Int) == (y.toNat : Int)) = decide (x = y) := by
  rw [Bool.eq_iff_iff]; simp [UInt32.toNat_inj, Int.ofNat_inj]
theorem items8 (s t : St) (W : World) (d : Nat) : ∀ (n i : Nat), i + n = 8 → (Op.eqItems (d + 1) 27 1 s.cells t.cells (List.range' i n)).run Tryd.prog W = .ok ((List.range' i n).all fun j => decide (s.at j = t.at j)) W
  | 0, i, h => by simp [Op.eqItems]
  | n + 1, i, h => by
    have ih := items8 s t W d n (i + 1) (by omega)
    simp only [List.range'_succ, Op.eqItems, Sem.run_bind, Nat.mul_one, part8 s i (by omega), part8 t i (by omega), Result.andThen_ok, run_equalIn_int W d 27 .u32 .u32 _ _ Tryd.underlying27, eqw, List.all_cons]
    cases decide (s.at i = t.at i)
    · simp
    · simpa using ih
theorem st_ext (s t : St) : ((List.range' 0 8).all fun j => decide (s.at j = t.at j)) = decide (s = t) := by
  rw [Bool.eq_iff_iff]
  simp only [List.all_eq_true, List.mem_range'_1, decide_eq_true_eq]
  constructor
  · intro h
    obtain ⟨a, b, c, d, e, f, g, h'⟩ := s
    obtain ⟨a2, b2, c2, d2, x2, f2, g2, y2⟩ := t
    have e0 : a = a2 := h 0 (by omega)
    have e1 : b = b2 := h 1 (by omega)
    have e2 : c = c2 := h 2 (by omega)
    have e3 : d = d2 := h 3 (by omega)
    have e4 : e = x2 := h 4 (by omega)
    have e5 : f = f2 := h 5 (by omega)
    have e6 : g = g2 := h 6 (by omega)
    have e7 : h' = y2 := h 7 (by omega)
    subst e0 e1 e2 e3 e4 e5 e6 e7
    rfl
  · intro h j _; rw [h]
theorem equal8 (s t : St) (W : World) : (Op.equal 28 s.v t.v).run Tryd.prog W = .ok (decide (s = t)) W := by
  obtain ⟨i0, hi0, _⟩ := Option.map_eq_some_iff.1 (show (Tryd.prog.info? 27).map (fun i => i.size) = some 1 by kernel_rfl)
  have h := run_equalIn_array (P := Tryd.prog) W 9999 s.cells t.cells Tryd.underlying28 hi0
  have hs : Tryd.prog.cellsOf 27 = 1 := by kernel_rfl
  rw [hs, List.range_eq_range'] at h
  unfold Op.equal
  show (Op.equalIn (9999 + 1) 28 s.v t.v).run Tryd.prog W = _
  rw [h, items8 s t W 9998 8 0 (by omega), st_ext]
theorem eql8 (s t : St) (W : World) : (binOp .eql 28 s.v t.v).run Tryd.prog W = .ok (.bool (decide (s = t))) W := by
  unfold binOp
  simp only [Sem.run_bind, equal8 s t W, Result.andThen_ok, Sem.run_pure]

def sameH (s t : St) (N M : Int) (l m : List UInt8) : Bool := decide (s = t ∧ N = M ∧ l = m)
set_option maxRecDepth 100000 in
set_option maxHeartbeats 1000000 in
theorem refSame_any (s t : St) (N M : Int) (A B : Option Addr) (l m : List UInt8) (c d : Nat) (w : World) (hl : Rd w w.heap.size A l) (hm : Rd w w.heap.size B m) :
    Calls Tryd.prog 16 #[hv s N (.slice A l.length c), hv t M (.slice B m.length d)] w fun e w' => e = .returned (.bool (sameH s t N M l m)) ∧ Below w.heap.size w w' := by
  have hb2 := fun (o1 o2 : Obj) => (((Below.refl w.heap.size w).alloc (Nat.le_refl _) o1).alloc (le_alloc (Nat.le_refl _) o1) o2)
  by_cases h : s = t
  · subst h
    have he := fun W => eql8 s s W
    rw [decide_eq_true rfl] at he
    by_cases hN : N = M
    · subst hN
      have hq : (N == N) = true := by simp
      have h1 := fun (o1 o2 : Obj) => run_str (P := Tryd.prog) (hl.below (hb2 o1 o2) (Nat.le_refl _)) c _ _ _ Tryd.underlying22 Tryd.underlying5 Tryd.underlying9
      have h2 := fun (o1 o2 : Obj) => run_str (P := Tryd.prog) (hm.below (hb2 o1 o2) (Nat.le_refl _)) d _ _ _ Tryd.underlying22 Tryd.underlying5 Tryd.underlying9
      have E := Lib.hid (show sameH s s N N l m = (l == m) by
        unfold sameH
        rw [Bool.eq_iff_iff]; simp)
      have H1 := h1 (.cells (hcells s N (.slice A l.length c)) 36) (.cells (hcells s N (.slice B m.length d)) 36)
      have H2 := h2 (.cells (hcells s N (.slice A l.length c)) 36) (.cells (hcells s N (.slice B m.length d)) 36)
      have HB := Lib.hid (hb2 (.cells (hcells s N (.slice A l.length c)) 36) (.cells (hcells s N (.slice B m.length d)) 36))
      clear h1 h2 hb2
      go_enter Tryd.func16, Tryd.ntmps16
      go_wp2
      go_ret
      exact ⟨by rw [E.out]; simp, HB.out⟩
    · have E : sameH s s N M l m = false := by unfold sameH; exact decide_eq_false (by simp [hN])
      have hq : (N == M) = false := by simpa using hN
      rw [E]
      have HB := Lib.hid (hb2 (.cells (hcells s N (.slice A l.length c)) 36) (.cells (hcells s M (.slice B m.length d)) 36))
      clear E hb2
      go_enter Tryd.func16, Tryd.ntmps16
      go_wp2
      go_ret
      exact ⟨rfl, HB.out⟩
  · have E : sameH s t N M l m = false := by unfold sameH; exact decide_eq_false (by simp [h])
    have he := fun W => eql8 s t W
    rw [decide_eq_false h] at he
    rw [E]
    have HB := Lib.hid (hb2 (.cells (hcells s N (.slice A l.length c)) 36) (.cells (hcells t M (.slice B m.length d)) 36))
    clear E hb2
    go_enter Tryd.func16, Tryd.ntmps16
    go_wp2
    go_ret
    exact ⟨rfl, HB.out⟩
end Go.Proofs.YtggbcjfcnphenaaDoor
