/- dig.TakeBig -/
import Derived.Test.YtlhiaehgeijohaaNum
namespace Go.Proofs.Ytlhiaehgeijohaa
open Go.RowKit

def numL (l : List UInt8) : Nat := l.foldl (fun n c => 256 * n + c.toNat) 0
theorem numL_snoc (l : List UInt8) (c : UInt8) : numL (l ++ [c]) = 256 * numL l + c.toNat := by simp [numL]
theorem numL_lt (l : List UInt8) : numL l < 256 ^ l.length := by
  induction l using snoc_ind with
  | h0 => simp [numL]
  | h1 l a ih =>
    have := a.toNat_lt
    rw [numL_snoc, List.length_append, List.length_cons, List.length_nil, Nat.pow_add]
    omega

theorem takeBig_bad (A : Option Addr) (n c : Nat) (at_ w : Int) (W : World) (h : w < 1 ∨ 8 < w ∨ at_ < 0 ∨ n < at_) :
    Calls Try.prog 21 #[.slice A n c, .int .i64 at_, .int .i64 w] W fun e W' => e = .returned (.tuple #[.int .i64 0, .int .i64 0, .int .i64 1]) ∧ W = W' := by
  by_cases h1 : w < 1
  · go_enter Try.func21, Try.ntmps21
    go_wp2
    go_ret3
    exact ⟨rfl, rfl⟩
  · by_cases h2 : 8 < w
    · go_enter Try.func21, Try.ntmps21
      go_wp2
      go_ret3
      exact ⟨rfl, rfl⟩
    · by_cases h3 : at_ < 0
      · go_enter Try.func21, Try.ntmps21
        go_wp2
        go_ret3
        exact ⟨rfl, rfl⟩
      · have h4 : n < at_ := by omega
        go_enter Try.func21, Try.ntmps21
        go_wp2
        go_ret3
        exact ⟨rfl, rfl⟩

theorem takeBig_short (A : Option Addr) (n c p w : Nat) (W : World) (h1 : 1 ≤ w) (h2 : w ≤ 8) (hp : p ≤ n) (_hn : n ≤ 1000000) (h : n < p + w) :
    Calls Try.prog 21 #[.slice A n c, .int .i64 p, .int .i64 w] W fun e W' => e = .returned (.tuple #[.int .i64 0, .int .i64 0, .int .i64 3]) ∧ W = W' := by
  go_enter Try.func21, Try.ntmps21
  go_wp2
  go_ret3
  exact ⟨rfl, rfl⟩

def takeBigV (l : List UInt8) (p w : Nat) : Value :=
  if numL ((l.drop p).take w) ≤ 9223372036854775807 then .tuple #[.int .i64 (numL ((l.drop p).take w)), .int .i64 ((p : Int) + w), .int .i64 0] else .tuple #[.int .i64 0, .int .i64 0, .int .i64 2]

theorem or_byte (n x : Nat) (hn : n < 72057594037927936) (hx : x < 256) : bits BinOp.or IntKind.u64 ((n : Int) * 256) (x : Int) = ((256 * n + x : Nat) : Int) := by
  have h := bits_or_u64_nat (n * 256) x (by omega) (by omega)
  have e : n * 256 ||| x = n * 256 + x := by
    have := Nat.shiftLeft_add_eq_or_of_lt (show x < 2 ^ 8 by omega) n
    rw [Nat.shiftLeft_eq] at this
    exact this.symm
  rw [e] at h
  rw [show ((256 * n + x : Nat) : Int) = ((n * 256 + x : Nat) : Int) by omega, ← h]
  congr 1

theorem takeBig_any (A : Option Addr) (l : List UInt8) (c p w : Nat) (W : World) (h1 : 1 ≤ w) (h2 : w ≤ 8) (hn : l.length ≤ 1000000) (h : p + w ≤ l.length) (hc : l.length ≤ c) (hr : Rd W W.heap.size A l) :
    Calls Try.prog 21 #[.slice A l.length c, .int .i64 p, .int .i64 w] W fun e W' => e = .returned (takeBigV l p w) ∧ W = W' := by
  obtain ⟨b, o, rfl, hb, hcell⟩ := hr (by omega)
  have hcp : ¬ c = p := by omega
  have hs : (0 : Int) ≤ (p : Int) := by omega
  have e1 : ((p : Int) + w).toNat - p = w := by omega
  go_enter Try.func21, Try.ntmps21
  go_wp2
  clear e1
  go_loop [9, 41] (fun q i => ∃ k : Nat, k ≤ w ∧ i = .int .i64 k ∧ q = .int .u64 (numL ((l.drop p).take k))) (fun _ i => w - (intOf i).toNat)
  case atStart => exact ⟨0, Nat.zero_le _, rfl, rfl⟩
  case round =>
    obtain ⟨k, hk, rfl, rfl⟩ := hrel
    by_cases hlt : k < w
    · have hc1 := hcell (p + k) (by omega)
      rw [← Nat.add_assoc] at hc1
      have hsn : (l.drop p).take (k + 1) = (l.drop p).take k ++ [l[p + k]] := by
        rw [List.take_succ_eq_append_getElem (by rw [List.length_drop]; omega)]
        simp
      have e2 := numL_snoc ((l.drop p).take k) l[p + k]
      rw [← hsn] at e2
      have E2 := Lib.hid e2
      have hb1 : numL ((l.drop p).take k) < 72057594037927936 := by
        have a := numL_lt ((l.drop p).take k)
        have b : 256 ^ ((l.drop p).take k).length ≤ 256 ^ 7 := Nat.pow_le_pow_right (by omega) (by rw [List.length_take]; omega)
        omega
      have hx2 := (l[p + k]).toNat_lt
      clear e2 hsn
      have hor := or_byte (numL ((l.drop p).take k)) (l[p + k]).toNat hb1 hx2
      have HO := Lib.hid hor
      clear hor
      go_wp2
      go_round
      case rel => exact ⟨k + 1, by omega, by go_num, by rw [HO.out, E2.out]⟩
      case measure => simp [intOf]; omega
    · have hkw : k = w := by omega
      subst hkw
      clear hcell
      by_cases hle : numL ((l.drop p).take k) ≤ 9223372036854775807
      · have hV : takeBigV l p k = .tuple #[.int .i64 (numL ((l.drop p).take k)), .int .i64 ((p : Int) + k), .int .i64 0] := by rw [takeBigV, if_pos hle]
        have HV := Lib.hid hV
        clear hV
        go_wp2
        go_ret3
        exact ⟨by rw [HV.out]; rfl, rfl⟩
      · have hV : takeBigV l p k = .tuple #[.int .i64 0, .int .i64 0, .int .i64 2] := by rw [takeBigV, if_neg hle]
        have HV := Lib.hid hV
        clear hV
        go_wp2
        go_ret3
        exact ⟨by rw [HV.out]; rfl, rfl⟩
end Go.Proofs.Ytlhiaehgeijohaa
