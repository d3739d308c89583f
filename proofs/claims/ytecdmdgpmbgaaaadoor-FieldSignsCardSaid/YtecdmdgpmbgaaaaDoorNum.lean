
/- dig.Digits, dig.Big -/
import Derived.Test.YtecdmdgpmbgaaaaDoorVal
namespace Go.Proofs.YtecdmdgpmbgaaaaDoor
open Go.RowKit

/-- the figure (of base b, sign z is nought's) at the place p of w places -/
def dgAt (z b n w p : Nat) : UInt8 := UInt8.ofNat (z + n / b ^ (w - 1 - p) % b)
def dgL (z b n w : Nat) : List UInt8 := (List.range w).map (dgAt z b n w)
theorem dgL_length (z b n w : Nat) : (dgL z b n w).length = w := by simp [dgL]
theorem dgL_get (z b n w p : Nat) (h : p < (dgL z b n w).length) : (dgL z b n w)[p] = dgAt z b n w p := by simp [dgL]
theorem dgAt_nat (z b n w p : Nat) (hb : 0 < b) (h : z + b ≤ 256) : (dgAt z b n w p).toNat = z + n / b ^ (w - 1 - p) % b := by
  have := Nat.mod_lt (n / b ^ (w - 1 - p)) hb
  rw [dgAt, UInt8.toNat_ofNat', Nat.mod_eq_of_lt (by omega)]

theorem idx_dec (q : Int) (h0 : 0 ≤ q) (h1 : q < 10) (W : World) : (Instr.index 9 (.string ⟨#[48, 49, 50, 51, 52, 53, 54, 55, 56, 57, 97, 98, 99, 100, 101, 102]⟩) (.int .i64 q)).run Tryd.prog W = .ok (.int .u8 (48 + q)) W := by
  obtain ⟨j, rfl⟩ := Int.eq_ofNat_of_zero_le h0
  match j, h1 with
  | 0, _ => rfl | 1, _ => rfl | 2, _ => rfl | 3, _ => rfl | 4, _ => rfl | 5, _ => rfl | 6, _ => rfl | 7, _ => rfl
  | 8, _ => rfl | 9, _ => rfl
  | j + 10, h => exact absurd h (by omega)

theorem digits_bad (n w : Int) (W : World) (h : w < 1 ∨ 18 < w ∨ n < 0) :
    Calls Tryd.prog 39 #[.int .i64 n, .int .i64 w] W fun e W' => e = .returned (.tuple #[.string ⟨#[]⟩, .int .i64 1]) ∧ Below W.heap.size W W' := by
  by_cases h1 : w < 1
  · go_enter Tryd.func39, Tryd.ntmps39
    go_wp2
    go_ret2
    exact ⟨rfl, Below.refl _ _⟩
  · by_cases h2 : 18 < w
    · go_enter Tryd.func39, Tryd.ntmps39
      go_wp2
      go_ret2
      exact ⟨rfl, Below.refl _ _⟩
    · have h3 : n < 0 := by omega
      go_enter Tryd.func39, Tryd.ntmps39
      go_wp2
      go_ret2
      exact ⟨rfl, Below.refl _ _⟩

def rowD (z b n w m p : Nat) : Value := if p < m then .int .u8 0 else .int .u8 ((dgAt z b n w p).toNat : Int)
theorem rowD_step (z b n w m p : Nat) (v : Int) (hv : v = ((dgAt z b n w m).toNat : Int)) : (if p = m then Value.int .u8 v else rowD z b n w (m + 1) p) = rowD z b n w m p := by
  unfold rowD
  by_cases h : p = m
  · subst h; simp [hv]
  · rw [if_neg h]
    by_cases h2 : p < m
    · rw [if_pos h2, if_pos (by omega)]
    · rw [if_neg h2, if_neg (by omega)]

def digitsV (n w : Nat) : Value := if n < 10 ^ w then .tuple #[.string ⟨(dgL 48 10 n w).toArray⟩, .int .i64 0] else .tuple #[.string ⟨#[]⟩, .int .i64 1]

theorem digits_any (n w : Nat) (W : World) (h1 : 1 ≤ w) (h2 : w ≤ 18) (hn : n ≤ 9223372036854775807) :
    Calls Tryd.prog 39 #[.int .i64 n, .int .i64 w] W fun e W' => e = .returned (digitsV n w) ∧ Below W.heap.size W W' := by
  have hmk := run_make_row' (P := Tryd.prog) 22 5 (.int .u8 0) 1 Tryd.underlying22 info5 rfl .i64 .i64 w (by omega) (by omega)
  go_enter Tryd.func39, Tryd.ntmps39
  go_wp2
  have hrow := World.rowIs_made W (.int .u8 0) w 5
  have hbel : Below W.heap.size W (W.alloc (.cells (madeCells #[.int .u8 0] w) 5)) := (Below.refl _ _).alloc (Nat.le_refl _) _
  clear hmk
  go_loopw [0, 7] (fun q i wr => ∃ (m : Nat) (t : Nat), m ≤ w ∧ i = .int .i64 ((m : Int) - 1) ∧ q = .int .i64 t ∧ Hid (t = n / 10 ^ (w - m)) ∧ t ≤ 9223372036854775807 ∧ wr.rowIs W.heap.size 5 w (rowD 48 10 n w m) ∧ Below W.heap.size W wr) (fun _ i _ => (intOf i + 1).toNat)
  case atStart => exact ⟨w, n, Nat.le_refl _, rfl, rfl, Lib.hid (by simp), hn, hrow.congr (fun i hi => by unfold rowD; rw [if_pos hi]), hbel⟩
  case round =>
    obtain ⟨m, t, hm, rfl, rfl, ht, htb, hr, hb⟩ := hrel
    clear hrow hbel
    by_cases hlt : 1 ≤ m
    · obtain ⟨m, rfl⟩ : ∃ k, m = k + 1 := ⟨m - 1, by omega⟩
      have hmod := Int.emod_nonneg (t : Int) (show (10 : Int) ≠ 0 by omega)
      have hmod2 := Int.emod_lt_of_pos (t : Int) (show (0 : Int) < 10 by omega)
      have hix := idx_dec ((t : Int) % 10) hmod hmod2
      have hc := hr.cell (i := m) (by omega)
      have hf := hr.frozen m
      have e : ((m + 1 : Nat) : Int) - 1 = (m : Int) := by omega
      rw [e]
      have HR := Lib.hid hr
      have HB := Lib.hid hb
      clear hr hb e hmod hmod2
      go_wp2
      go_roundw
      case rel =>
        refine ⟨m, t / 10, by omega, rfl, by go_num, Lib.hid ?_, by omega, (HR.out.set m _).congr (fun p hp => ?_), HB.out.setCell (Nat.le_refl _) _⟩
        · rw [ht.out, Nat.div_div_eq_div_mul, ← Nat.pow_succ, show (w - (m + 1)).succ = w - m from by omega]
        · exact rowD_step 48 10 n w m p _ (by
            rw [dgAt_nat 48 10 n w m (by omega) (by omega), show w - 1 - m = w - (m + 1) from by omega, ← ht.out]
            omega)
      case measure => simp [intOf]
    · obtain rfl : m = 0 := by omega
      have e : t = n / 10 ^ w := by rw [ht.out, Nat.sub_zero]
      by_cases h0 : n < 10 ^ w
      · have ht0 : t = 0 := by rw [e]; exact Nat.div_eq_of_lt h0
        have hV : digitsV n w = .tuple #[.string ⟨(dgL 48 10 n w).toArray⟩, .int .i64 0] := by rw [digitsV, if_pos h0]
        have hsl := Sl.row (l := dgL 48 10 n w) hr (dgL_length _ _ _ _) (by omega) (fun j hj => by rw [dgL_get]; unfold rowD; rw [if_neg (by omega)])
        obtain ⟨A, c, hA, _, _, hrd⟩ := hsl
        have hst := run_str (P := Tryd.prog) hrd c _ _ _ Tryd.underlying22 Tryd.underlying5 Tryd.underlying9
        rw [← hA] at hst
        have HV := Lib.hid hV
        have HB := Lib.hid hb
        subst ht0
        clear hV hb hr e ht htb hA hrd h0
        go_wp2
        go_ret2
        exact ⟨by rw [HV.out]; rfl, HB.out⟩
      · have ht0 : 1 ≤ t := by
          rw [e]
          exact (Nat.one_le_div_iff (Nat.pow_pos (by omega))).2 (by omega)
        have hV : digitsV n w = .tuple #[.string ⟨#[]⟩, .int .i64 1] := by rw [digitsV, if_neg h0]
        have HV := Lib.hid hV
        have HB := Lib.hid hb
        clear hV hb hr e ht h0
        go_wp2
        go_ret2
        exact ⟨by rw [HV.out]; rfl, HB.out⟩

/-- what Big answers: the bytes, or none -/
def BigR (n w : Nat) (W' : World) (e : Ending) : Prop :=
  if n < 256 ^ w then ∃ v, e = .returned (.tuple #[v, .int .i64 0]) ∧ Sl W' v (dgL 0 256 n w) else e = .returned (.tuple #[.slice none 0 0, .int .i64 1])

end Go.Proofs.YtecdmdgpmbgaaaaDoor
