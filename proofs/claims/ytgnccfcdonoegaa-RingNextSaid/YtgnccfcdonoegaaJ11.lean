
/- Package ring: what each call answers. The landed code. -/
import Derived.Test.YtgnccfcdonoegaaJ10
namespace Go.Proofs.Ytgnccfcdonoegaa
open Go.RowKit

set_option maxRecDepth 100000 in
theorem rRight_any (x : Wg) (r : Rg) (W : World) (_hf : FewK r) (_hl : Rg64 r) (hr : RingR W x r) : Calls Try.prog 14 #[.agg (ringC x r)] W fun e W' => e = .returned (.bool (decide (RightR r))) ∧ Below W.heap.size W W' :=
  rRightL_any x r W hr
set_option maxRecDepth 100000 in
theorem rSame_any (x y : Wg) (r s : Rg) (W : World) (_hf : FewK r) (_hf2 : FewK s) (_hl : Rg64 r) (_hl2 : Rg64 s) (hr : RingR W x r) (hs : RingR W y s) : Calls Try.prog 15 #[.agg (ringC x r), .agg (ringC y s)] W fun e W' => e = .returned (.bool (decide (r = s))) ∧ Below W.heap.size W W' :=
  rSameL_any x y r s W hr hs
set_option maxRecDepth 100000 in
theorem rNew_any (A : Option Addr) (k : List UInt8) (c : Nat) (W : World) (hk5 : k.length ≤ 50000) (hk : KeyR W (A, c) k) : Calls Try.prog 10 #[.slice A k.length c] W fun e W' => AnsRg W' e (newR k).1 (newR k).2 ∧ Below W.heap.size W W' :=
  rNewL_any A k c W hk5 hk
set_option maxRecDepth 100000 in
theorem rNext_any (x : Wg) (r : Rg) (W : World) (hR : RightR r) (hl : Rg64 r) (hr : RingR W x r) : Calls Try.prog 16 #[.agg (ringC x r)] W fun e W' => e = .returned (.tuple #[.int .i64 (nextR r).1, .int .i64 (nextR r).2]) ∧ Below W.heap.size W W' :=
  rNextL_any x r W hR hl hr
set_option maxRecDepth 100000 in
theorem rOffer_any (x : Wg) (r : Rg) (no : Int) (A : Option Addr) (k : List UInt8) (c : Nat) (W : World) (hR : RightR r) (_hl : Rg64 r) (hr : RingR W x r) (_hn : B64r no) (hk5 : k.length ≤ 50000) (hk : KeyR W (A, c) k) : Calls Try.prog 21 #[.agg (ringC x r), .int .i64 no, .slice A k.length c] W fun e W' => AnsRg W' e (offerR r no k).1 (offerR r no k).2 ∧ Below W.heap.size W W' :=
  rOfferL_any x r no A k c W hR.k hr hk5 hk
set_option maxRecDepth 100000 in
theorem rTurn_any (x : Wg) (r : Rg) (W : World) (hR : RightR r) (_hl : Rg64 r) (hr : RingR W x r) : Calls Try.prog 23 #[.agg (ringC x r)] W fun e W' => AnsRg W' e (turnR r).1 (turnR r).2 ∧ Below W.heap.size W W' :=
  rTurnL_any x r W hR.k hr
set_option maxRecDepth 100000 in
theorem rWithdraw_any (x : Wg) (r : Rg) (W : World) (hR : RightR r) (_hl : Rg64 r) (hr : RingR W x r) : Calls Try.prog 25 #[.agg (ringC x r)] W fun e W' => AnsR1 W' e (withdrawR r) ∧ Below W.heap.size W W' :=
  rWithdrawL_any x r W hR.k hr
set_option maxRecDepth 100000 in
theorem rTick_any (x : Wg) (r : Rg) (W : World) (hR : RightR r) (_hl : Rg64 r) (hr : RingR W x r) : Calls Try.prog 27 #[.agg (ringC x r)] W fun e W' => AnsR1 W' e (tickR r) ∧ Below W.heap.size W W' :=
  rTickL_any x r W hR hr
set_option maxRecDepth 100000 in
theorem rFind_any (x : Wg) (r : Rg) (no : Int) (W : World) (hR : RightR r) (_hl : Rg64 r) (hr : RingR W x r) (_hn : B64r no) : Calls Try.prog 18 #[.agg (ringC x r), .int .i64 no] W fun e W' => AnsFi W' e (findR r no) ∧ Below W.heap.size W W' :=
  rFindL_any x r no W hR hr

/-! ### of 64 bits -/
set_option maxRecDepth 100000 in
theorem b64r0 : B64r 0 := by unfold B64r; decide
set_option maxRecDepth 100000 in
theorem right_64 {r : Rg} (h : RightR r) : Rg64 r := by
  rcases h with rfl | ⟨a1, a2, a3, a4, a5, a6⟩
  · exact ⟨b64r0, b64r0, b64r0, b64r0, b64r0⟩
  · obtain ⟨c1, c2, -⟩ := a1
    refine ⟨by unfold B64r; omega, ?_, ?_, ?_, by unfold B64r; omega⟩
    · rcases a5 with a5 | a5
      · rw [a5.1]; exact b64r0
      · obtain ⟨b1, b2, -⟩ := a5.1; unfold B64r; omega
    · rcases a6 with a6 | a6
      · rw [a6]; exact b64r0
      · obtain ⟨b1, b2, -⟩ := a6.1; unfold B64r; omega
    · rcases a5 with a5 | a5
      · rw [a5.2]; exact b64r0
      · unfold B64r; omega
end Go.Proofs.Ytgnccfcdonoegaa
/- Structs in memory: what lies elsewhere stays. -/

namespace Go.Proofs.Ytgnccfcdonoegaa
open Go.RowKit

/-- an offer that was made: a key of 32 bytes -/
def AnsOf (V W' : World) (t e : Value) (r : Rg) (n : Int) : Prop := e = .int .i64 n ∧ ∃ g y, t = .pointer (some ⟨g, 0, none⟩) ∧ BxR W' g y r ∧ RingR W' y r ∧ Below V.heap.size V W' ∧ V.heap.size ≤ g
def AnsOv (V W' : World) (t e : Value) (r : Rg) (v : Value) : Prop := e = v ∧ ∃ g y, t = .pointer (some ⟨g, 0, none⟩) ∧ BxR W' g y r ∧ RingR W' y r ∧ Below V.heap.size V W' ∧ V.heap.size ≤ g
set_option maxRecDepth 100000 in
theorem key_any (b : UInt8) (W : World) : Calls Try.prog 29 #[.int .u8 (b.toNat : Nat)] W fun e W' => (∃ y : Wk, e = .returned (.slice y.1 32 y.2) ∧ KeyR W' y (keyL b)) ∧ Below W.heap.size W W' :=
  (key11_any b W).mono fun _ _ h => ⟨h.1.key, h.2⟩
set_option maxRecDepth 100000 in
theorem offer_any (x : Wg) (r : Rg) (no : Int) (b : UInt8) (y : Wk) (W : World) (hR : RightR r) (hl : Rg64 r) (hn : B64r no) (hr : RingR W x r) (hk : KeyR W y (keyL b)) : Calls Try.prog 21 #[.agg (ringC x r), .int .i64 no, .slice y.1 32 y.2] W fun e W' => (∃ z, e = .returned (.tuple #[.agg (ringC z (offerR r no (keyL b)).1), .int .i64 (offerR r no (keyL b)).2]) ∧ RingR W' z (offerR r no (keyL b)).1) ∧ Below W.heap.size W W' := by
  have h := rOffer_any x r no y.1 (keyL b) y.2 W hR hl hr hn (by rw [keyL_len]; decide) hk
  rw [keyL_len] at h
  exact h
end Go.Proofs.Ytgnccfcdonoegaa
