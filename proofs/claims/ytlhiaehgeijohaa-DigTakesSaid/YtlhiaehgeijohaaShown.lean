/- shown: the document's examples -/
import Derived.Test.YtlhiaehgeijohaaTakeB
namespace Go.Proofs.Ytlhiaehgeijohaa
open Go.RowKit

theorem ex_digits (W : World) : Calls Try.prog 12 #[.int .i64 42, .int .i64 6] W fun e W' => e = .returned (.tuple #[.string ⟨#[48, 48, 48, 48, 52, 50]⟩, .int .i64 0]) ∧ Below W.heap.size W W' :=
  (digits_any 42 6 W (by omega) (by omega) (by omega)).mono fun e W' h => ⟨h.1.trans (by rfl), h.2⟩
theorem ex_bcd (W : World) : Calls Try.prog 16 #[.string ⟨#[49, 50, 51, 52, 53]⟩] W fun e W' => Ans W' e [1, 35, 69] 3 (.int .i64 0) ∧ Below W.heap.size W W' :=
  (bcd_any ⟨#[49, 50, 51, 52, 53]⟩ W (by decide)).mono fun e W' h => ⟨by
    have h1 := h.1
    unfold PackR at h1
    rw [if_pos (by rfl)] at h1
    exact Ans.of _ h1 rfl, h.2⟩
theorem ex_big (W : World) : Calls Try.prog 23 #[.int .i64 258, .int .i64 2] W fun e W' => Ans W' e [1, 2] 2 (.int .i64 0) ∧ Below W.heap.size W W' :=
  (big_any 258 2 W (by omega) (by omega) (by omega)).mono fun e W' h => ⟨by
    have h1 := h.1
    unfold BigR at h1
    rw [if_pos (by omega)] at h1
    exact Ans.of _ h1 rfl, h.2⟩
theorem ex_value (W : World) : Calls Try.prog 14 #[.string ⟨#[48, 48, 48, 48, 52, 50]⟩] W fun e W' => e = .returned (.tuple #[.int .i64 42, .int .i64 0]) ∧ Below W.heap.size W W' :=
  (value_any ⟨#[48, 48, 48, 48, 52, 50]⟩ W (by decide) (by decide)).mono fun e W' h => ⟨h.1.trans (by rfl), h.2⟩
theorem ex_takeBcd (W : World) (A : Option Addr) (c : Nat) (hc : 3 ≤ c) (hr : Rd W W.heap.size A [1, 35, 69]) : Calls Try.prog 19 #[.slice A 3 c, .int .i64 0, .int .i64 5] W fun e W' => e = .returned (.tuple #[.string ⟨#[49, 50, 51, 52, 53]⟩, .int .i64 3, .int .i64 0]) ∧ Below W.heap.size W W' :=
  (takeBcd_any A [1, 35, 69] c 0 5 W (by omega) (by decide) (by decide) hc hr).mono fun e W' h => ⟨h.1.trans (by rfl), h.2⟩
theorem ex_takeBig (W : World) (A : Option Addr) (c : Nat) (hc : 2 ≤ c) (hr : Rd W W.heap.size A [1, 2]) : Calls Try.prog 21 #[.slice A 2 c, .int .i64 0, .int .i64 2] W fun e W' => e = .returned (.tuple #[.int .i64 258, .int .i64 2, .int .i64 0]) ∧ W = W' :=
  (takeBig_any A [1, 2] c 0 2 W (by omega) (by omega) (by decide) (by decide) hc hr).mono fun e W' h => ⟨h.1.trans (by rfl), h.2⟩
theorem ex_unhex (W : World) : Calls Try.prog 25 #[.string ⟨#[48, 49, 50, 51, 52, 53]⟩] W fun e W' => Ans W' e [1, 35, 69] 3 (.int .i64 0) ∧ Below W.heap.size W W' :=
  (unhex_any ⟨#[48, 49, 50, 51, 52, 53]⟩ W (by decide) (by decide)).mono fun e W' h => ⟨by
    have h1 := h.1
    unfold PackR at h1
    rw [if_pos (by rfl)] at h1
    exact Ans.of _ h1 rfl, h.2⟩
theorem ex_hex (W : World) (A : Option Addr) (c : Nat) (hr : Rd W W.heap.size A [1, 35, 69]) : Calls Try.prog 27 #[.slice A 3 c] W fun e W' => e = .returned (.string ⟨#[48, 49, 50, 51, 52, 53]⟩) ∧ Below W.heap.size W W' :=
  (hex_any A [1, 35, 69] c W (by decide) hr).mono fun e W' h => ⟨h.1.trans (by rfl), h.2⟩

theorem ex_same (W : World) (A B : Option Addr) (c d : Nat) (ha : Rd W W.heap.size A [1, 35, 69]) (hb : Rd W W.heap.size B [1, 35, 69]) : Calls Try.prog 18 #[.slice A 3 c, .slice B 3 d] W fun e W' => e = .returned (.bool true) ∧ W = W' :=
  (same_any A B [1, 35, 69] [1, 35, 69] c d _ _ W ha hb).mono fun e W' h => ⟨h.1.trans (by rfl), h.2⟩

set_option maxHeartbeats 2000000 in
theorem shown_any (W : World) : Calls Try.prog 11 #[] W fun e W' => e = .returned (.bool true) ∧ Below W.heap.size W W' := by
  go_enter Try.func11, Try.ntmps11
  go_wp2_with fail
  refine (ex_digits _).mono ?_
  rintro e w1 ⟨rfl, hb1⟩
  have HB1 := Lib.hid hb1
  clear hb1
  go_wp2_with fail
  refine (ex_bcd _).mono ?_
  rintro e w2 ⟨⟨A, c, rfl, hc, hc2, hr⟩, hb2⟩
  have HB2 := Lib.hid (HB1.out.trans (hb2.mono HB1.out.size))
  have HR2 := Lib.hid hr
  clear hb2 HB1 hr
  go_wp2_with fail
  refine (ex_big _).mono ?_
  rintro e w3 ⟨⟨A3, c3, rfl, hc3, hc32, hr3⟩, hb3⟩
  have HB3 := Lib.hid (HB2.out.trans (hb3.mono HB2.out.size))
  have HR23 := Lib.hid ((HR2.out.below hb3 (Nat.le_refl _)).more hb3.size)
  have HR3 := Lib.hid hr3
  clear hb3 HB2 hr3 HR2
  go_wp2_with fail
  refine (ex_value _).mono ?_
  rintro e w4 ⟨rfl, hb4⟩
  have HB4 := Lib.hid (HB3.out.trans (hb4.mono HB3.out.size))
  have HR24 := Lib.hid ((HR23.out.below hb4 (Nat.le_refl _)).more hb4.size)
  have HR34 := Lib.hid ((HR3.out.below hb4 (Nat.le_refl _)).more hb4.size)
  clear hb4 HB3 HR23 HR3
  go_wp2_with fail
  refine (ex_takeBcd _ _ _ hc HR24.out).mono ?_
  rintro e w5 ⟨rfl, hb5⟩
  have HB5 := Lib.hid (HB4.out.trans (hb5.mono HB4.out.size))
  have HR25 := Lib.hid ((HR24.out.below hb5 (Nat.le_refl _)).more hb5.size)
  have HR35 := Lib.hid ((HR34.out.below hb5 (Nat.le_refl _)).more hb5.size)
  clear hb5 HB4 HR24 HR34
  go_wp2_with fail
  refine (ex_takeBig _ _ _ hc3 HR35.out).mono ?_
  rintro e w6 ⟨rfl, rfl⟩
  go_wp2_with fail
  refine (ex_unhex _).mono ?_
  rintro e w7 ⟨⟨A7, c7, rfl, hc7, hc72, hr7⟩, hb7⟩
  have HB7 := Lib.hid (HB5.out.trans (hb7.mono HB5.out.size))
  have HR27 := Lib.hid ((HR25.out.below hb7 (Nat.le_refl _)).more hb7.size)
  have HR37 := Lib.hid ((HR35.out.below hb7 (Nat.le_refl _)).more hb7.size)
  have HR7 := Lib.hid hr7
  clear hb7 HB5 HR25 HR35 hr7
  go_wp2_with fail
  refine (ex_hex _ _ _ HR27.out).mono ?_
  rintro e w8 ⟨rfl, hb8⟩
  have HB8 := Lib.hid (HB7.out.trans (hb8.mono HB7.out.size))
  have HR28 := Lib.hid ((HR27.out.below hb8 (Nat.le_refl _)).more hb8.size)
  have HR38 := ((HR37.out.below hb8 (Nat.le_refl _)).more hb8.size)
  have HR78 := Lib.hid ((HR7.out.below hb8 (Nat.le_refl _)).more hb8.size)
  clear hb8 HB7 HR27 HR37 HR7
  obtain ⟨b, o, rfl, hbb, hcell⟩ := HR38 (by simp)
  have q0 := hcell 0 (by simp)
  have q1 := hcell 1 (by simp)
  simp at q0 q1
  clear hcell HR38
  go_wp2_with fail
  refine (ex_same _ _ _ _ _ HR78.out HR28.out).mono ?_
  rintro e w9 ⟨rfl, rfl⟩
  go_wp2_with fail
  go_ret
  exact ⟨rfl, HB8.out⟩
end Go.Proofs.Ytlhiaehgeijohaa
