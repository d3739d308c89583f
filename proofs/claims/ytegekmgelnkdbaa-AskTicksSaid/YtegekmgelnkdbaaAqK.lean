
/- Package ask: what each call answers. -/
import Derived.Test.YtegekmgelnkdbaaAqD
namespace Go.Proofs.Ytegekmgelnkdbaa
open Go.RowKit

/-- what the world holds of the program's own tables (none) -/
structure Tas (w : World) : Prop where
  size : w.heap.size = w.heap.size
set_option maxRecDepth 100000 in
theorem Tas.below {w w' : World} (_ : Tas w) (_ : Below w.heap.size w w') : Tas w' := ⟨rfl⟩
set_option maxRecDepth 100000 in
theorem tas (w : World) : Tas w := ⟨rfl⟩
set_option maxRecDepth 100000 in
theorem aStan_any (n : Int) (W : World) (_hT : Tas W) (_hn : B64a n) : Calls Try.prog 13 #[.int .i64 n] W fun e W' => e = .returned (.int .i64 (stanA n)) ∧ Below W.heap.size W W' := (stanQ_any n W).mono fun _ _ h => ⟨h.1, by rw [← h.2]; exact Below.refl _ _⟩
set_option maxRecDepth 100000 in
theorem aKnown_any (c : Int) (W : World) (_hT : Tas W) (_hc : B64a c) : Calls Try.prog 15 #[.int .i64 c] W fun e W' => e = .returned (.bool (knownA c)) ∧ Below W.heap.size W W' := (knownQ_any c W).mono fun _ _ h => ⟨h.1, by rw [← h.2]; exact Below.refl _ _⟩
set_option maxRecDepth 100000 in
theorem aRight_any (x : Wkb) (a : Aq) (W : World) (_hT : Tas W) (_h64 : Aq64 a) (_hl : a.body.length ≤ 50000) (hk : AqR W x a) : Calls Try.prog 17 #[.agg (askC x a)] W fun e W' => e = .returned (.bool (decide (RightA a))) ∧ Below W.heap.size W W' := askRight_any x a W hk
set_option maxRecDepth 100000 in
theorem aSame_any (x y : Wkb) (a b : Aq) (W : World) (_hT : Tas W) (_h64 : Aq64 a) (_h64b : Aq64 b) (_hl : a.body.length ≤ 50000) (_hlb : b.body.length ≤ 50000) (hx : AqR W x a) (hy : AqR W y b) : Calls Try.prog 18 #[.agg (askC x a), .agg (askC y b)] W fun e W' => e = .returned (.bool (decide (a = b))) ∧ Below W.heap.size W W' := askSame_any x y a b W hx hy
set_option maxRecDepth 100000 in
theorem aMatch_any (x : Wkb) (a : Aq) (c s : Int) (W : World) (_hT : Tas W) (_hR : RightA a) (_hc : B64a c) (_hs : B64a s) (hk : AqR W x a) : Calls Try.prog 19 #[.agg (askC x a), .int .i64 c, .int .i64 s] W fun e W' => e = .returned (.bool (decide (MatchA a c s))) ∧ Below W.heap.size W W' := askMatch_any x a c s W hk
set_option maxRecDepth 100000 in
theorem aBegin_any (c s : Int) (x : Wkb) (b : List UInt8) (W : World) (_hT : Tas W) (_hc : B64a c) (_hs : B64a s) (hl : b.length ≤ 50000) (hk : KeyB W x b) : Calls Try.prog 9 #[.int .i64 c, .int .i64 s, .slice x.1 b.length x.2] W fun e W' => AnsAq W' e (beginA c s b).1 [.int .i64 (beginA c s b).2] ∧ Below W.heap.size W W' := begin_anyQ c s x b W hl hk
set_option maxRecDepth 100000 in
theorem aTick_any (x : Wkb) (a : Aq) (W : World) (_hT : Tas W) (hR : RightA a) (hk : AqR W x a) : Calls Try.prog 21 #[.agg (askC x a)] W fun e W' => AnsAq W' e (tickA a).1 [.bool (tickA a).2.1, .bool (tickA a).2.2] ∧ Below W.heap.size W W' := tick_anyQ x a W hR hk
set_option maxRecDepth 100000 in
theorem B64a.lit {x : Int} (h : decide (-9223372036854775808 ≤ x ∧ x ≤ 9223372036854775807) = true) : B64a x := (of_decide_eq_true h : -9223372036854775808 ≤ x ∧ x ≤ 9223372036854775807)
end Go.Proofs.Ytegekmgelnkdbaa
