
/- A region that draws, and loads whole windows. -/
import Derived.Test.YtdnfggjklblpnaaJ06
import Derived.OrdersHeld
import Derived.Deep.RegionHeld3
import Derived.Test.YtdnfggjklblpnaaJ01
import Derived.OpenShut
namespace Go.Proofs.Ytdnfggjklblpnaa
open Go.RowKit

set_option maxRecDepth 100000 in
theorem yields_win {ops : Array Oper} {S : World → Prop} {o : Oper} {a : Act} (hw : Region.wanted o (yielded ops a.tmps) = true) (p : Operand) (ho : o.op = .load 25 p) (g : Nat) (hx : a.eval p = .pointer (some ⟨g, 0, none⟩)) (C : Array Value)
    (hS : ∀ w, S w → (Instr.loadAt 25 (.pointer (some ⟨g, 0, none⟩))).run Try.prog w = .ok (.agg C) w) : YieldsIf Try.prog ops S o (.agg C) a :=
  .inl ⟨hw, fun w hw' => by
    unfold execOp
    simp only [ho, hx, Sem.run_bind, Sem.run_pure, Result.andThen_ok, hS w hw']⟩
end Go.Proofs.Ytdnfggjklblpnaa
/- A window that came in by value, opened. -/

namespace Go.Proofs.Ytdnfggjklblpnaa
open Go.ChangeShapes Go.WideShapes Go.ChangeAt Go.RowKit

set_option maxRecDepth 100000 in
theorem trod_struct2w {P : Program} {H : Type} {enc : TypeId × Value → H} {w : World} {base : Nat} {spare : Nat → Bool} {held : Bool} {t : TypeId} {f0 f1 : Field} {fuel : Nat} {cs : List Value} {x : DataW H × List MemPlace} (ht : P.underlying t = some (.struct #[f0, f1])) (h : DataW.trod enc P w base spare held fuel t cs = some x) :
    ∃ y0 y1 n, DataW.trod enc P w base spare held n f0.type ((cs.drop f0.offset).take (P.cellsOf f0.type)) = some y0 ∧ DataW.trod enc P w base spare held n f1.type ((cs.drop f1.offset).take (P.cellsOf f1.type)) = some y1 := by
  obtain ⟨xs, n, _, rfl, hl, hlen, hf⟩ := DataW.trod_struct ht h
  match xs, hlen with
  | [y0, y1], _ => exact ⟨y0, y1, n, by simpa using hf 0 f0 rfl, by simpa using hf 1 f1 rfl⟩
set_option maxRecDepth 100000 in
theorem u16_bd5 {a : Int} (h : (Lit.int .u16 a).wf = true) : 0 ≤ a ∧ a ≤ 65535 := by
  simpa [Lit.wf, IntKind.min, IntKind.max, IntKind.signed, IntKind.bits] using h
set_option maxRecDepth 100000 in
theorem u64_bd {a : Int} (h : (Lit.int .u64 a).wf = true) : 0 ≤ a ∧ a ≤ 18446744073709551615 := by
  simpa [Lit.wf, IntKind.min, IntKind.max, IntKind.signed, IntKind.bits] using h
set_option maxRecDepth 100000 in
theorem word64_in {H : Type} {enc : TypeId × Value → H} {W : World} {base fuel : Nat} {spare : Nat → Bool} {held : Bool} {a : Value} {y : DataW H × List MemPlace} (hf : DataW.trod enc Try.prog W base spare held fuel 22 [a] = some y) : ∃ u : Nat, a = .int .u64 u ∧ u < 18446744073709551616 := by
  obtain ⟨u, e, -, w⟩ := DataW.trod_int Try.underlying22 hf
  simp only [List.cons.injEq, and_true] at e
  obtain ⟨h1, h2⟩ := u64_bd w
  obtain ⟨k, rfl⟩ := Int.eq_ofNat_of_zero_le h1
  exact ⟨k, e, by omega⟩
def of16 (l : List Nat) : Nat → Nat := fun i => l.getD i 0
set_option maxRecDepth 100000 in
theorem win_cells {H : Type} {enc : TypeId × Value → H} {W : World} {base fuel : Nat} {held : Bool} {v0 v1 v2 v3 v4 v5 v6 v7 v8 v9 v10 v11 v12 v13 v14 v15 v16 : Value} {y : DataW H × List MemPlace}
    (hf : DataW.trod enc Try.prog W base (fun _ => true) held fuel 25 [v0, v1, v2, v3, v4, v5, v6, v7, v8, v9, v10, v11, v12, v13, v14, v15, v16] = some y) :
    ∃ a, #[v0, v1, v2, v3, v4, v5, v6, v7, v8, v9, v10, v11, v12, v13, v14, v15, v16] = winC a ∧ W64 a ∧ B64w a.top := by
  obtain ⟨y0, y1, n, h0, h1⟩ := trod_struct2w Try.underlying25 hf
  have k1 : Try.prog.cellsOf 3 = 1 := by kernel_rfl
  have k2 : Try.prog.cellsOf 22 = 1 := by kernel_rfl
  have k3 : Try.prog.cellsOf 23 = 16 := by kernel_rfl
  have h0' : DataW.trod enc Try.prog W base (fun _ => true) held n 3 [v0] = some y0 := by simpa [k1] using h0
  have h1' : DataW.trod enc Try.prog W base (fun _ => true) held n 23 [v1, v2, v3, v4, v5, v6, v7, v8, v9, v10, v11, v12, v13, v14, v15, v16] = some y1 := by simpa [k3] using h1
  clear h0 h1
  obtain ⟨t, e0, -, w0⟩ := DataW.trod_int Try.underlying3 h0'
  simp only [List.cons.injEq, and_true] at e0
  subst e0
  obtain ⟨xs, m, _, rfl, hl, hlen, hx⟩ := DataW.trod_array Try.underlying23 h1'
  have hx' : ∀ (i : Nat) (v : Value), i < 16 → [v1, v2, v3, v4, v5, v6, v7, v8, v9, v10, v11, v12, v13, v14, v15, v16][i]? = some v → ∃ u : Nat, v = .int .u64 u ∧ u < 18446744073709551616 := fun i v hi hv => by
    have h2 := hx i (by omega)
    rw [k2, Nat.mul_one] at h2
    obtain ⟨hlt, he⟩ := List.getElem?_eq_some_iff.1 hv
    rw [show ([v1, v2, v3, v4, v5, v6, v7, v8, v9, v10, v11, v12, v13, v14, v15, v16].drop i).take 1 = [v] by rw [List.drop_eq_getElem_cons hlt, List.take_succ_cons, List.take_zero, he]] at h2
    rw [List.getElem?_eq_getElem (show i < xs.length by omega)] at h2
    exact word64_in h2
  clear hx hl hlen h1' hf
  obtain ⟨u0, rfl, b0⟩ := hx' 0 v1 (by decide) rfl
  obtain ⟨u1, rfl, b1⟩ := hx' 1 v2 (by decide) rfl
  obtain ⟨u2, rfl, b2⟩ := hx' 2 v3 (by decide) rfl
  obtain ⟨u3, rfl, b3⟩ := hx' 3 v4 (by decide) rfl
  obtain ⟨u4, rfl, b4⟩ := hx' 4 v5 (by decide) rfl
  obtain ⟨u5, rfl, b5⟩ := hx' 5 v6 (by decide) rfl
  obtain ⟨u6, rfl, b6⟩ := hx' 6 v7 (by decide) rfl
  obtain ⟨u7, rfl, b7⟩ := hx' 7 v8 (by decide) rfl
  obtain ⟨u8, rfl, b8⟩ := hx' 8 v9 (by decide) rfl
  obtain ⟨u9, rfl, b9⟩ := hx' 9 v10 (by decide) rfl
  obtain ⟨u10, rfl, b10⟩ := hx' 10 v11 (by decide) rfl
  obtain ⟨u11, rfl, b11⟩ := hx' 11 v12 (by decide) rfl
  obtain ⟨u12, rfl, b12⟩ := hx' 12 v13 (by decide) rfl
  obtain ⟨u13, rfl, b13⟩ := hx' 13 v14 (by decide) rfl
  obtain ⟨u14, rfl, b14⟩ := hx' 14 v15 (by decide) rfl
  obtain ⟨u15, rfl, b15⟩ := hx' 15 v16 (by decide) rfl
  refine ⟨⟨t, of16 [u0, u1, u2, u3, u4, u5, u6, u7, u8, u9, u10, u11, u12, u13, u14, u15]⟩, rfl, fun j hj => ?_, i64_bd w0⟩
  rcases lt16 hj with rfl | rfl | rfl | rfl | rfl | rfl | rfl | rfl | rfl | rfl | rfl | rfl | rfl | rfl | rfl | rfl
  · exact b0
  · exact b1
  · exact b2
  · exact b3
  · exact b4
  · exact b5
  · exact b6
  · exact b7
  · exact b8
  · exact b9
  · exact b10
  · exact b11
  · exact b12
  · exact b13
  · exact b14
  · exact b15
set_option maxRecDepth 100000 in
theorem array17 {α : Type} {cs : Array α} (h : cs.size = 17) : ∃ v0 v1 v2 v3 v4 v5 v6 v7 v8 v9 v10 v11 v12 v13 v14 v15 v16, cs = #[v0, v1, v2, v3, v4, v5, v6, v7, v8, v9, v10, v11, v12, v13, v14, v15, v16] := by
  obtain ⟨l⟩ := cs
  match l, h with
  | [v0, v1, v2, v3, v4, v5, v6, v7, v8, v9, v10, v11, v12, v13, v14, v15, v16], _ => exact ⟨v0, v1, v2, v3, v4, v5, v6, v7, v8, v9, v10, v11, v12, v13, v14, v15, v16, rfl⟩
set_option maxRecDepth 100000 in
theorem win_in {H : Type} {enc : TypeId × Value → H} {W : World} {base : Nat} {held : Bool} {b0 : Nat} {v : Value} {d : DataW H} {p : List MemPlace} (hv : Value.okWide Try.prog W .any b0 25 v) (h : DataW.Trod enc Try.prog W base (fun _ => true) held 25 v d p) :
    ∃ a, v = .agg (winC a) ∧ W64 a ∧ B64w a.top := by
  obtain ⟨cs, rfl, hsz⟩ := okWide_struct Try.underlying25 hv
  obtain ⟨v0, v1, v2, v3, v4, v5, v6, v7, v8, v9, v10, v11, v12, v13, v14, v15, v16, rfl⟩ := array17 (hsz.trans (by kernel_rfl))
  obtain ⟨fuel, hf⟩ := h
  obtain ⟨a, e, h1, h2⟩ := win_cells hf
  exact ⟨a, by rw [e], h1, h2⟩
end Go.Proofs.Ytdnfggjklblpnaa
/- Numbers that are taken one behind the other, plain. -/

namespace Go.Proofs.Ytdnfggjklblpnaa
open Go.RowKit

/-- a window behind the numbers T, of which top is the greatest -/
def OnceI (a : Wn) (T : List Int) (top : Int) : Prop := RightW a ∧ W64 a ∧ a.top = top + 1 ∧ ∀ m, FreshW a m ↔ (0 ≤ m ∧ m ≤ most ∧ m ∉ T ∧ top - 1024 < m)
set_option maxRecDepth 100000 in
theorem once0 : OnceI wn0 [] (-1) := ⟨right0, w640, rfl, fun m => fresh0.trans ⟨fun h => ⟨h.1, h.2, by simp, by omega⟩, fun h => ⟨h.1, h.2.1⟩⟩⟩
set_option maxRecDepth 100000 in
theorem once_step {a : Wn} {T : List Int} {top n : Int} (h : OnceI a T top) (hf : FreshW a n) : OnceI (markW a n) (T ++ [n]) (max top n) := by
  obtain ⟨h1, h2, h3, h4⟩ := h
  refine ⟨mark_right h1 hf, markW_64 _ _, ?_, fun m => (mark_fresh hf m).trans ?_⟩
  · show (if a.top ≤ n then n + 1 else a.top) = _
    rw [h3]
    by_cases hle : top + 1 ≤ n
    · rw [if_pos hle]; omega
    · rw [if_neg hle]; omega
  · rw [h4 m]
    simp only [List.mem_append, List.mem_singleton, not_or]
    constructor
    · rintro ⟨⟨p1, p2, p3, p4⟩, p5, p6⟩
      exact ⟨p1, p2, ⟨p3, p5⟩, by omega⟩
    · rintro ⟨p1, p2, ⟨p3, p5⟩, p4⟩
      exact ⟨⟨p1, p2, p3, by omega⟩, p5, by omega⟩
set_option maxRecDepth 100000 in
theorem once_top {a : Wn} {T : List Int} {top : Int} (h : OnceI a T top) : -1 ≤ top ∧ top ≤ most := by
  have h1 := h.1.1
  have h2 := h.1.2.1
  rw [h.2.2.1] at h1 h2
  unfold most at *
  omega
set_option maxRecDepth 100000 in
/-- is a number among the first k? -/
theorem had_step (T : List Int) (n : Int) {k : Nat} (hk : k < T.length) : (decide (n ∈ T.take k) || (T[k]'hk == n)) = decide (n ∈ T.take (k + 1)) := by
  rw [List.take_succ_eq_append_getElem hk, Bool.eq_iff_iff, Bool.or_eq_true, decide_eq_true_iff, decide_eq_true_iff, List.mem_append, List.mem_singleton, beq_iff_eq]
  exact ⟨fun h => h.imp id Eq.symm, fun h => h.imp id Eq.symm⟩
end Go.Proofs.Ytdnfggjklblpnaa
/- Windows, plain: two numbers in either order. -/

namespace Go.Proofs.Ytdnfggjklblpnaa
open Go.RowKit

set_option maxRecDepth 100000 in
theorem fresh_top {w : Wn} {n : Int} (h : RightW w) (h1 : w.top ≤ n) (h2 : n ≤ most) : FreshW w n := ⟨by have := h.1; omega, h2, by omega, .inl h1⟩
set_option maxRecDepth 100000 in
theorem mark_top {w : Wn} {n : Int} (h : w.top ≤ n) : (markW w n).top = n + 1 := by show topW w n = _; unfold topW; rw [if_pos h]
set_option maxRecDepth 100000 in
theorem mark_top2 {w : Wn} {n : Int} (h : ¬ w.top ≤ n) : (markW w n).top = w.top := by show topW w n = _; unfold topW; rw [if_neg h]
set_option maxRecDepth 100000 in
theorem order_same {w : Wn} {a b : Int} (h : RightW w) (h1 : w.top ≤ a) (h2 : a < b) (h3 : b ≤ a + 1023) : SameW (markW (markW w a) b) (markW (markW w b) a) := by
  have h0 := h.1
  have t1 : (markW w a).top = a + 1 := mark_top h1
  have t2 : (markW w b).top = b + 1 := mark_top (by omega)
  have t3 : (markW (markW w a) b).top = b + 1 := mark_top (by rw [t1]; omega)
  have t4 : (markW (markW w b) a).top = b + 1 := (mark_top2 (by rw [t2]; omega)).trans t2
  have e1 : topW w a = a + 1 := t1
  have e2 : topW w b = b + 1 := t2
  have e3 : topW (markW w a) b = b + 1 := t3
  have e4 : topW (markW w b) a = b + 1 := t4
  refine same_of_has (markW_64 _ _) (markW_64 _ _) (t3.trans t4.symm) (fun p hp => ?_)
  rw [has_mark, has_mark]
  unfold markG
  rw [has_mark, has_mark, e3, e4, t1, t2]
  unfold markG
  rw [e1, e2]
  have m1 := numW_mod w.top hp
  have m2 := numW_bd w.top p
  have m3 := numW_mod (a + 1) hp
  have m4 := numW_bd (a + 1) p
  have m5 := numW_bd (b + 1) p
  have z1 : (p = a.toNat % 1024) ↔ (a % 1024 = (p : Int)) := by omega
  have z2 : (p = b.toNat % 1024) ↔ (b % 1024 = (p : Int)) := by omega
  rw [Bool.eq_iff_iff]
  simp only [Bool.or_eq_true, Bool.and_eq_true, decide_eq_true_eq, z1, z2]
  constructor
  · rintro (⟨⟨k1, k2⟩ | k1, k3⟩ | k1)
    · left
      have e := numW_of (top := a + 1) (n := numW w.top p) (p := p) (by omega) (by omega) m1
      exact ⟨.inl ⟨k1, by omega⟩, by omega⟩
    · exact .inr k1
    · left
      exact ⟨.inr k1, by omega⟩
  · rintro (⟨⟨k1, k2⟩ | k1, k3⟩ | k1)
    · left
      have e := numW_of (top := a + 1) (n := numW w.top p) (p := p) (by omega) (by omega) m1
      exact ⟨.inl ⟨k1, by omega⟩, by omega⟩
    · exact .inr k1
    · left
      have e := numW_of (top := a + 1) (n := a) (p := p) (by omega) (by omega) k1
      exact ⟨.inr k1, by omega⟩
end Go.Proofs.Ytdnfggjklblpnaa
