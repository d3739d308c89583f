
/- Words of 32 bits: SHA-256's functions, plain; the walk's spelling of the operations; small callees. -/
import Derived.Test.YtcfncbbdlbdbnaaDoorBytes
import Derived.Laws.BitsAll
import Derived.Laws.ShiftsVar
namespace Go.Proofs.YtcfncbbdlbdbnaaDoor
open Go.RowKit

/-- a word's value -/
abbrev wv (x : UInt32) : Value := .int .u32 (x.toNat : Int)

def rotr (x : UInt32) (n : Nat) : UInt32 := (x >>> UInt32.ofNat n) ||| (x <<< UInt32.ofNat (32 - n))
def sm0 (x : UInt32) : UInt32 := (rotr x 7 ^^^ rotr x 18) ^^^ (x >>> UInt32.ofNat 3)
def sm1 (x : UInt32) : UInt32 := (rotr x 17 ^^^ rotr x 19) ^^^ (x >>> UInt32.ofNat 10)
def gr0 (x : UInt32) : UInt32 := (rotr x 2 ^^^ rotr x 13) ^^^ rotr x 22
def gr1 (x : UInt32) : UInt32 := (rotr x 6 ^^^ rotr x 11) ^^^ rotr x 25
def chF (e f g : UInt32) : UInt32 := (e &&& f) ^^^ ((~~~e) &&& g)
def majF (a b c : UInt32) : UInt32 := ((a &&& b) ^^^ (a &&& c)) ^^^ (b &&& c)

theorem w_lt (x : UInt32) : (x.toNat : Int) < 4294967296 := by have := x.toNat_lt; omega
theorem w_and (a b : UInt32) : bits .and .u32 (a.toNat : Int) (b.toNat : Int) = ((a &&& b).toNat : Int) := by
  rw [u32_and_nat _ _ a.toNat_lt b.toNat_lt, UInt32.toNat_and]
theorem w_or (a b : UInt32) : bits .or .u32 (a.toNat : Int) (b.toNat : Int) = ((a ||| b).toNat : Int) := by
  rw [u32_or_nat _ _ a.toNat_lt b.toNat_lt, UInt32.toNat_or]
theorem w_xor (a b : UInt32) : bits .xor .u32 (a.toNat : Int) (b.toNat : Int) = ((a ^^^ b).toNat : Int) := by
  rw [u32_xor_nat _ _ a.toNat_lt b.toNat_lt, UInt32.toNat_xor]
theorem w_not (a : UInt32) : bits .xor .u32 4294967295 (a.toNat : Int) = ((~~~a).toNat : Int) := by
  have h := w_xor (-1) a
  have e : (-1 : UInt32) ^^^ a = ~~~a := by
    rw [UInt32.neg_one_xor]
  rw [e] at h
  exact h
theorem w_not' (a : UInt32) : bits .xor .u32 IntKind.u32.max (a.toNat : Int) = ((~~~a).toNat : Int) := w_not a
theorem w_add (a b : UInt32) : IntKind.u32.wrap ((a.toNat : Int) + (b.toNat : Int)) = ((a + b).toNat : Int) := by
  rw [IntKind.wrap_u32', UInt32.toNat_add]
  omega
theorem w_add' (a b : UInt32) : ((a.toNat : Int) + (b.toNat : Int)) % 4294967296 = ((a + b).toNat : Int) := by
  rw [UInt32.toNat_add]
  omega
theorem w_shr (x : UInt32) (n : Nat) (h : n < 32) : (x.toNat : Int) / ((2 ^ n : Nat) : Int) = ((x >>> UInt32.ofNat n).toNat : Int) := by
  have e : (UInt32.ofNat n).toNat % 32 = n := by
    rw [UInt32.toNat_ofNat']
    omega
  rw [UInt32.toNat_shiftRight, e, Nat.shiftRight_eq_div_pow]
  rfl
theorem w_shl (x : UInt32) (n : Nat) (h : n < 32) : ((x.toNat : Int) * ((2 ^ n : Nat) : Int)) % 4294967296 = ((x <<< UInt32.ofNat n).toNat : Int) := by
  have e : (UInt32.ofNat n).toNat % 32 = n := by
    rw [UInt32.toNat_ofNat']
    omega
  rw [UInt32.toNat_shiftLeft, e, Nat.shiftLeft_eq, ← Int.natCast_mul]
  omega

/-- the turned word, in both orders -/
theorem w_rot (x : UInt32) (n : Nat) (h1 : 1 ≤ n) (h2 : n < 32) :
    bits .or .u32 ((x.toNat : Int) / ((2 ^ n : Nat) : Int)) (((x.toNat : Int) * ((2 ^ (32 - n) : Nat) : Int)) % 4294967296) = ((rotr x n).toNat : Int) := by
  rw [w_shr x n h2, w_shl x (32 - n) (by omega), w_or]
  rfl
theorem w_rot' (x : UInt32) (n : Nat) (h1 : 1 ≤ n) (h2 : n < 32) :
    bits .or .u32 (((x.toNat : Int) * ((2 ^ (32 - n) : Nat) : Int)) % 4294967296) ((x.toNat : Int) / ((2 ^ n : Nat) : Int)) = ((rotr x n).toNat : Int) := by
  rw [w_shr x n h2, w_shl x (32 - n) (by omega), w_or]
  unfold rotr
  rw [UInt32.or_comm]

def rotsB (n : Nat) : Prop := n = 2 ∨ n = 6 ∨ n = 7 ∨ n = 11 ∨ n = 13 ∨ n = 17 ∨ n = 18 ∨ n = 19 ∨ n = 22 ∨ n = 25

theorem rotl_2 (x : UInt32) (w : World) :
    Calls Tryd.prog 67 #[wv x, .int .i64 (-2)] w fun e w' => e = .returned (wv (rotr x 2)) ∧ w = w' := by
  have h1 := w_lt x
  have hr := Lib.hid (w_rot' x 2 (by decide) (by decide))
  have ha : bits BinOp.and IntKind.u64 (IntKind.u64.wrap (-2)) 31 = 30 := by decide
  go_enter Tryd.func67, Tryd.ntmps67
  go_wp2
  go_ret
  exact ⟨ret_int hr.out, rfl⟩
theorem right_2 (x : UInt32) (w : World) :
    Calls Tryd.prog 66 #[wv x, .int .i64 2] w fun e w' => e = .returned (wv (rotr x 2)) ∧ w = w' := by
  go_enter Tryd.func66, Tryd.ntmps66
  go_wp2_with (go_at_call 67; refine (rotl_2 x _).mono ?_; rintro e w' ⟨rfl, rfl⟩)
  go_ret
  exact ⟨rfl, rfl⟩
theorem turn_2 (x : UInt32) (w : World) :
    Calls Tryd.prog 58 #[wv x, .int .u32 2] w fun e w' => e = .returned (wv (rotr x 2)) ∧ w = w' := by
  have h1 := w_lt x
  have hr := Lib.hid (w_rot x 2 (by decide) (by decide))
  go_enter Tryd.func58, Tryd.ntmps58
  go_wp2
  go_ret
  exact ⟨ret_int hr.out, rfl⟩
theorem rotl_6 (x : UInt32) (w : World) :
    Calls Tryd.prog 67 #[wv x, .int .i64 (-6)] w fun e w' => e = .returned (wv (rotr x 6)) ∧ w = w' := by
  have h1 := w_lt x
  have hr := Lib.hid (w_rot' x 6 (by decide) (by decide))
  have ha : bits BinOp.and IntKind.u64 (IntKind.u64.wrap (-6)) 31 = 26 := by decide
  go_enter Tryd.func67, Tryd.ntmps67
  go_wp2
  go_ret
  exact ⟨ret_int hr.out, rfl⟩
theorem right_6 (x : UInt32) (w : World) :
    Calls Tryd.prog 66 #[wv x, .int .i64 6] w fun e w' => e = .returned (wv (rotr x 6)) ∧ w = w' := by
  go_enter Tryd.func66, Tryd.ntmps66
  go_wp2_with (go_at_call 67; refine (rotl_6 x _).mono ?_; rintro e w' ⟨rfl, rfl⟩)
  go_ret
  exact ⟨rfl, rfl⟩
theorem turn_6 (x : UInt32) (w : World) :
    Calls Tryd.prog 58 #[wv x, .int .u32 6] w fun e w' => e = .returned (wv (rotr x 6)) ∧ w = w' := by
  have h1 := w_lt x
  have hr := Lib.hid (w_rot x 6 (by decide) (by decide))
  go_enter Tryd.func58, Tryd.ntmps58
  go_wp2
  go_ret
  exact ⟨ret_int hr.out, rfl⟩
theorem rotl_7 (x : UInt32) (w : World) :
    Calls Tryd.prog 67 #[wv x, .int .i64 (-7)] w fun e w' => e = .returned (wv (rotr x 7)) ∧ w = w' := by
  have h1 := w_lt x
  have hr := Lib.hid (w_rot' x 7 (by decide) (by decide))
  have ha : bits BinOp.and IntKind.u64 (IntKind.u64.wrap (-7)) 31 = 25 := by decide
  go_enter Tryd.func67, Tryd.ntmps67
  go_wp2
  go_ret
  exact ⟨ret_int hr.out, rfl⟩
theorem right_7 (x : UInt32) (w : World) :
    Calls Tryd.prog 66 #[wv x, .int .i64 7] w fun e w' => e = .returned (wv (rotr x 7)) ∧ w = w' := by
  go_enter Tryd.func66, Tryd.ntmps66
  go_wp2_with (go_at_call 67; refine (rotl_7 x _).mono ?_; rintro e w' ⟨rfl, rfl⟩)
  go_ret
  exact ⟨rfl, rfl⟩
theorem turn_7 (x : UInt32) (w : World) :
    Calls Tryd.prog 58 #[wv x, .int .u32 7] w fun e w' => e = .returned (wv (rotr x 7)) ∧ w = w' := by
  have h1 := w_lt x
  have hr := Lib.hid (w_rot x 7 (by decide) (by decide))
  go_enter Tryd.func58, Tryd.ntmps58
  go_wp2
  go_ret
  exact ⟨ret_int hr.out, rfl⟩
theorem rotl_11 (x : UInt32) (w : World) :
    Calls Tryd.prog 67 #[wv x, .int .i64 (-11)] w fun e w' => e = .returned (wv (rotr x 11)) ∧ w = w' := by
  have h1 := w_lt x
  have hr := Lib.hid (w_rot' x 11 (by decide) (by decide))
  have ha : bits BinOp.and IntKind.u64 (IntKind.u64.wrap (-11)) 31 = 21 := by decide
  go_enter Tryd.func67, Tryd.ntmps67
  go_wp2
  go_ret
  exact ⟨ret_int hr.out, rfl⟩
theorem right_11 (x : UInt32) (w : World) :
    Calls Tryd.prog 66 #[wv x, .int .i64 11] w fun e w' => e = .returned (wv (rotr x 11)) ∧ w = w' := by
  go_enter Tryd.func66, Tryd.ntmps66
  go_wp2_with (go_at_call 67; refine (rotl_11 x _).mono ?_; rintro e w' ⟨rfl, rfl⟩)
  go_ret
  exact ⟨rfl, rfl⟩
theorem turn_11 (x : UInt32) (w : World) :
    Calls Tryd.prog 58 #[wv x, .int .u32 11] w fun e w' => e = .returned (wv (rotr x 11)) ∧ w = w' := by
  have h1 := w_lt x
  have hr := Lib.hid (w_rot x 11 (by decide) (by decide))
  go_enter Tryd.func58, Tryd.ntmps58
  go_wp2
  go_ret
  exact ⟨ret_int hr.out, rfl⟩
theorem rotl_13 (x : UInt32) (w : World) :
    Calls Tryd.prog 67 #[wv x, .int .i64 (-13)] w fun e w' => e = .returned (wv (rotr x 13)) ∧ w = w' := by
  have h1 := w_lt x
  have hr := Lib.hid (w_rot' x 13 (by decide) (by decide))
  have ha : bits BinOp.and IntKind.u64 (IntKind.u64.wrap (-13)) 31 = 19 := by decide
  go_enter Tryd.func67, Tryd.ntmps67
  go_wp2
  go_ret
  exact ⟨ret_int hr.out, rfl⟩
theorem right_13 (x : UInt32) (w : World) :
    Calls Tryd.prog 66 #[wv x, .int .i64 13] w fun e w' => e = .returned (wv (rotr x 13)) ∧ w = w' := by
  go_enter Tryd.func66, Tryd.ntmps66
  go_wp2_with (go_at_call 67; refine (rotl_13 x _).mono ?_; rintro e w' ⟨rfl, rfl⟩)
  go_ret
  exact ⟨rfl, rfl⟩
theorem turn_13 (x : UInt32) (w : World) :
    Calls Tryd.prog 58 #[wv x, .int .u32 13] w fun e w' => e = .returned (wv (rotr x 13)) ∧ w = w' := by
  have h1 := w_lt x
  have hr := Lib.hid (w_rot x 13 (by decide) (by decide))
  go_enter Tryd.func58, Tryd.ntmps58
  go_wp2
  go_ret
  exact ⟨ret_int hr.out, rfl⟩
theorem rotl_17 (x : UInt32) (w : World) :
    Calls Tryd.prog 67 #[wv x, .int .i64 (-17)] w fun e w' => e = .returned (wv (rotr x 17)) ∧ w = w' := by
  have h1 := w_lt x
  have hr := Lib.hid (w_rot' x 17 (by decide) (by decide))
  have ha : bits BinOp.and IntKind.u64 (IntKind.u64.wrap (-17)) 31 = 15 := by decide
  go_enter Tryd.func67, Tryd.ntmps67
  go_wp2
  go_ret
  exact ⟨ret_int hr.out, rfl⟩
theorem right_17 (x : UInt32) (w : World) :
    Calls Tryd.prog 66 #[wv x, .int .i64 17] w fun e w' => e = .returned (wv (rotr x 17)) ∧ w = w' := by
  go_enter Tryd.func66, Tryd.ntmps66
  go_wp2_with (go_at_call 67; refine (rotl_17 x _).mono ?_; rintro e w' ⟨rfl, rfl⟩)
  go_ret
  exact ⟨rfl, rfl⟩
theorem turn_17 (x : UInt32) (w : World) :
    Calls Tryd.prog 58 #[wv x, .int .u32 17] w fun e w' => e = .returned (wv (rotr x 17)) ∧ w = w' := by
  have h1 := w_lt x
  have hr := Lib.hid (w_rot x 17 (by decide) (by decide))
  go_enter Tryd.func58, Tryd.ntmps58
  go_wp2
  go_ret
  exact ⟨ret_int hr.out, rfl⟩
theorem rotl_18 (x : UInt32) (w : World) :
    Calls Tryd.prog 67 #[wv x, .int .i64 (-18)] w fun e w' => e = .returned (wv (rotr x 18)) ∧ w = w' := by
  have h1 := w_lt x
  have hr := Lib.hid (w_rot' x 18 (by decide) (by decide))
  have ha : bits BinOp.and IntKind.u64 (IntKind.u64.wrap (-18)) 31 = 14 := by decide
  go_enter Tryd.func67, Tryd.ntmps67
  go_wp2
  go_ret
  exact ⟨ret_int hr.out, rfl⟩
theorem right_18 (x : UInt32) (w : World) :
    Calls Tryd.prog 66 #[wv x, .int .i64 18] w fun e w' => e = .returned (wv (rotr x 18)) ∧ w = w' := by
  go_enter Tryd.func66, Tryd.ntmps66
  go_wp2_with (go_at_call 67; refine (rotl_18 x _).mono ?_; rintro e w' ⟨rfl, rfl⟩)
  go_ret
  exact ⟨rfl, rfl⟩
theorem turn_18 (x : UInt32) (w : World) :
    Calls Tryd.prog 58 #[wv x, .int .u32 18] w fun e w' => e = .returned (wv (rotr x 18)) ∧ w = w' := by
  have h1 := w_lt x
  have hr := Lib.hid (w_rot x 18 (by decide) (by decide))
  go_enter Tryd.func58, Tryd.ntmps58
  go_wp2
  go_ret
  exact ⟨ret_int hr.out, rfl⟩
theorem rotl_19 (x : UInt32) (w : World) :
    Calls Tryd.prog 67 #[wv x, .int .i64 (-19)] w fun e w' => e = .returned (wv (rotr x 19)) ∧ w = w' := by
  have h1 := w_lt x
  have hr := Lib.hid (w_rot' x 19 (by decide) (by decide))
  have ha : bits BinOp.and IntKind.u64 (IntKind.u64.wrap (-19)) 31 = 13 := by decide
  go_enter Tryd.func67, Tryd.ntmps67
  go_wp2
  go_ret
  exact ⟨ret_int hr.out, rfl⟩
theorem right_19 (x : UInt32) (w : World) :
    Calls Tryd.prog 66 #[wv x, .int .i64 19] w fun e w' => e = .returned (wv (rotr x 19)) ∧ w = w' := by
  go_enter Tryd.func66, Tryd.ntmps66
  go_wp2_with (go_at_call 67; refine (rotl_19 x _).mono ?_; rintro e w' ⟨rfl, rfl⟩)
  go_ret
  exact ⟨rfl, rfl⟩
theorem turn_19 (x : UInt32) (w : World) :
    Calls Tryd.prog 58 #[wv x, .int .u32 19] w fun e w' => e = .returned (wv (rotr x 19)) ∧ w = w' := by
  have h1 := w_lt x
  have hr := Lib.hid (w_rot x 19 (by decide) (by decide))
  go_enter Tryd.func58, Tryd.ntmps58
  go_wp2
  go_ret
  exact ⟨ret_int hr.out, rfl⟩
theorem rotl_22 (x : UInt32) (w : World) :
    Calls Tryd.prog 67 #[wv x, .int .i64 (-22)] w fun e w' => e = .returned (wv (rotr x 22)) ∧ w = w' := by
  have h1 := w_lt x
  have hr := Lib.hid (w_rot' x 22 (by decide) (by decide))
  have ha : bits BinOp.and IntKind.u64 (IntKind.u64.wrap (-22)) 31 = 10 := by decide
  go_enter Tryd.func67, Tryd.ntmps67
  go_wp2
  go_ret
  exact ⟨ret_int hr.out, rfl⟩
theorem right_22 (x : UInt32) (w : World) :
    Calls Tryd.prog 66 #[wv x, .int .i64 22] w fun e w' => e = .returned (wv (rotr x 22)) ∧ w = w' := by
  go_enter Tryd.func66, Tryd.ntmps66
  go_wp2_with (go_at_call 67; refine (rotl_22 x _).mono ?_; rintro e w' ⟨rfl, rfl⟩)
  go_ret
  exact ⟨rfl, rfl⟩
theorem turn_22 (x : UInt32) (w : World) :
    Calls Tryd.prog 58 #[wv x, .int .u32 22] w fun e w' => e = .returned (wv (rotr x 22)) ∧ w = w' := by
  have h1 := w_lt x
  have hr := Lib.hid (w_rot x 22 (by decide) (by decide))
  go_enter Tryd.func58, Tryd.ntmps58
  go_wp2
  go_ret
  exact ⟨ret_int hr.out, rfl⟩
theorem rotl_25 (x : UInt32) (w : World) :
    Calls Tryd.prog 67 #[wv x, .int .i64 (-25)] w fun e w' => e = .returned (wv (rotr x 25)) ∧ w = w' := by
  have h1 := w_lt x
  have hr := Lib.hid (w_rot' x 25 (by decide) (by decide))
  have ha : bits BinOp.and IntKind.u64 (IntKind.u64.wrap (-25)) 31 = 7 := by decide
  go_enter Tryd.func67, Tryd.ntmps67
  go_wp2
  go_ret
  exact ⟨ret_int hr.out, rfl⟩
theorem right_25 (x : UInt32) (w : World) :
    Calls Tryd.prog 66 #[wv x, .int .i64 25] w fun e w' => e = .returned (wv (rotr x 25)) ∧ w = w' := by
  go_enter Tryd.func66, Tryd.ntmps66
  go_wp2_with (go_at_call 67; refine (rotl_25 x _).mono ?_; rintro e w' ⟨rfl, rfl⟩)
  go_ret
  exact ⟨rfl, rfl⟩
theorem turn_25 (x : UInt32) (w : World) :
    Calls Tryd.prog 58 #[wv x, .int .u32 25] w fun e w' => e = .returned (wv (rotr x 25)) ∧ w = w' := by
  have h1 := w_lt x
  have hr := Lib.hid (w_rot x 25 (by decide) (by decide))
  go_enter Tryd.func58, Tryd.ntmps58
  go_wp2
  go_ret
  exact ⟨ret_int hr.out, rfl⟩
theorem small0_any (x : UInt32) (w : World) :
    Calls Tryd.prog 65 #[wv x] w fun e w' => e = .returned (wv (sm0 x)) ∧ w = w' := by
  have h1 := w_lt x
  have hs : (x.toNat : Int) / 8 = ((x >>> UInt32.ofNat 3).toNat : Int) := w_shr x 3 (by decide)
  have HS := Lib.hid hs
  clear hs
  go_enter Tryd.func65, Tryd.ntmps65
  go_wp2_with fail
  refine (right_7 x _).mono ?_
  rintro e w1 ⟨rfl, rfl⟩
  go_wp2_with fail
  refine (right_18 x _).mono ?_
  rintro e w1 ⟨rfl, rfl⟩
  go_wp2_with fail
  go_ret
  exact ⟨ret_int (by rw [HS.out, w_xor, w_xor]; rfl), rfl⟩
theorem small1_any (x : UInt32) (w : World) :
    Calls Tryd.prog 64 #[wv x] w fun e w' => e = .returned (wv (sm1 x)) ∧ w = w' := by
  have h1 := w_lt x
  have hs : (x.toNat : Int) / 1024 = ((x >>> UInt32.ofNat 10).toNat : Int) := w_shr x 10 (by decide)
  have HS := Lib.hid hs
  clear hs
  go_enter Tryd.func64, Tryd.ntmps64
  go_wp2_with fail
  refine (right_17 x _).mono ?_
  rintro e w1 ⟨rfl, rfl⟩
  go_wp2_with fail
  refine (right_19 x _).mono ?_
  rintro e w1 ⟨rfl, rfl⟩
  go_wp2_with fail
  go_ret
  exact ⟨ret_int (by rw [HS.out, w_xor, w_xor]; rfl), rfl⟩
theorem great0_any (x : UInt32) (w : World) :
    Calls Tryd.prog 63 #[wv x] w fun e w' => e = .returned (wv (gr0 x)) ∧ w = w' := by
  have h1 := w_lt x
  go_enter Tryd.func63, Tryd.ntmps63
  go_wp2_with fail
  refine (right_2 x _).mono ?_
  rintro e w1 ⟨rfl, rfl⟩
  go_wp2_with fail
  refine (right_13 x _).mono ?_
  rintro e w1 ⟨rfl, rfl⟩
  go_wp2_with fail
  refine (right_22 x _).mono ?_
  rintro e w1 ⟨rfl, rfl⟩
  go_wp2_with fail
  go_ret
  exact ⟨ret_int (by rw [w_xor, w_xor]; rfl), rfl⟩
theorem great1_any (x : UInt32) (w : World) :
    Calls Tryd.prog 62 #[wv x] w fun e w' => e = .returned (wv (gr1 x)) ∧ w = w' := by
  have h1 := w_lt x
  go_enter Tryd.func62, Tryd.ntmps62
  go_wp2_with fail
  refine (right_6 x _).mono ?_
  rintro e w1 ⟨rfl, rfl⟩
  go_wp2_with fail
  refine (right_11 x _).mono ?_
  rintro e w1 ⟨rfl, rfl⟩
  go_wp2_with fail
  refine (right_25 x _).mono ?_
  rintro e w1 ⟨rfl, rfl⟩
  go_wp2_with fail
  go_ret
  exact ⟨ret_int (by rw [w_xor, w_xor]; rfl), rfl⟩
end Go.Proofs.YtcfncbbdlbdbnaaDoor
