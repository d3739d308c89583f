
/- shown: the document's examples -/
import Derived.Test.YtecdmdgpmbgaaaaDoorTakeB
namespace Go.Proofs.YtecdmdgpmbgaaaaDoor
open Go.RowKit

theorem ex_digits (W : World) : Calls Tryd.prog 39 #[.int .i64 42, .int .i64 6] W fun e W' => e = .returned (.tuple #[.string ⟨#[48, 48, 48, 48, 52, 50]⟩, .int .i64 0]) ∧ Below W.heap.size W W' :=
  (digits_any 42 6 W (by omega) (by omega) (by omega)).mono fun e W' h => ⟨h.1.trans (by rfl), h.2⟩
theorem ex_value (W : World) : Calls Tryd.prog 44 #[.string ⟨#[48, 48, 48, 48, 52, 50]⟩] W fun e W' => e = .returned (.tuple #[.int .i64 42, .int .i64 0]) ∧ Below W.heap.size W W' :=
  (value_any ⟨#[48, 48, 48, 48, 52, 50]⟩ W (by decide) (by decide)).mono fun e W' h => ⟨h.1.trans (by rfl), h.2⟩
theorem ex_takeBcd (W : World) (A : Option Addr) (c : Nat) (hc : 3 ≤ c) (hr : Rd W W.heap.size A [1, 35, 69]) : Calls Tryd.prog 43 #[.slice A 3 c, .int .i64 0, .int .i64 5] W fun e W' => e = .returned (.tuple #[.string ⟨#[49, 50, 51, 52, 53]⟩, .int .i64 3, .int .i64 0]) ∧ Below W.heap.size W W' :=
  (takeBcd_any A [1, 35, 69] c 0 5 W (by omega) (by decide) (by decide) hc hr).mono fun e W' h => ⟨h.1.trans (by rfl), h.2⟩
theorem ex_hex (W : World) (A : Option Addr) (c : Nat) (hr : Rd W W.heap.size A [1, 35, 69]) : Calls Tryd.prog 49 #[.slice A 3 c] W fun e W' => e = .returned (.string ⟨#[48, 49, 50, 51, 52, 53]⟩) ∧ Below W.heap.size W W' :=
  (hex_any A [1, 35, 69] c W (by decide) hr).mono fun e W' h => ⟨h.1.trans (by rfl), h.2⟩

theorem ex_same (W : World) (A B : Option Addr) (c d : Nat) (ha : Rd W W.heap.size A [1, 35, 69]) (hb : Rd W W.heap.size B [1, 35, 69]) : Calls Tryd.prog 17 #[.slice A 3 c, .slice B 3 d] W fun e W' => e = .returned (.bool true) ∧ W = W' :=
  (same_any A B [1, 35, 69] [1, 35, 69] c d _ _ W ha hb).mono fun e W' h => ⟨h.1.trans (by rfl), h.2⟩

end Go.Proofs.YtecdmdgpmbgaaaaDoor
