
/- Same, dig.Value -/
import Derived.Test.YtfppcmhhbheaiaaDoorJ01
namespace Go.Proofs.YtfppcmhhbheaiaaDoor
open Go.RowKit

set_option maxRecDepth 100000 in
theorem same_any (A B : Option Addr) (la lb : List UInt8) (ca cb BA BB : Nat) (w : World) (ha : Rd w BA A la) (hb : Rd w BB B lb) :
    Calls Tryd.prog 14 #[.slice A la.length ca, .slice B lb.length cb] w fun e w' => e = .returned (.bool (decide (la = lb))) ∧ w = w' := by
  have h1 := run_str (P := Tryd.prog) ha ca _ _ _ Tryd.underlying22 Tryd.underlying5 Tryd.underlying9
  have h2 := run_str (P := Tryd.prog) hb cb _ _ _ Tryd.underlying22 Tryd.underlying5 Tryd.underlying9
  go_enter Tryd.func14, Tryd.ntmps14
  go_wp2
  go_ret
  refine ⟨?_, rfl⟩
  simp
  rw [Bool.eq_iff_iff]; simp

set_option maxRecDepth 100000 in
theorem same_sl (v1 v2 : Value) (la lb : List UInt8) (w : World) (ha : Sl w v1 la) (hb : Sl w v2 lb) :
    Calls Tryd.prog 14 #[v1, v2] w fun e w' => e = .returned (.bool (decide (la = lb))) ∧ w = w' := by
  obtain ⟨A, ca, rfl, _, _, h1⟩ := ha
  obtain ⟨B, cb, rfl, _, _, h2⟩ := hb
  exact same_any A B la lb ca cb _ _ w h1 h2

def isFig (c : UInt8) : Bool := decide (48 ≤ c.toNat) && decide (c.toNat ≤ 57)
def allFig (l : List UInt8) : Bool := l.all isFig
def val (l : List UInt8) : Nat := l.foldl (fun n c => 10 * n + (c.toNat - 48)) 0
set_option maxRecDepth 100000 in
theorem val_snoc (l : List UInt8) (c : UInt8) : val (l ++ [c]) = 10 * val l + (c.toNat - 48) := by simp [val]
set_option maxRecDepth 100000 in
theorem isFig_iff (c : UInt8) : isFig c = true ↔ 48 ≤ c.toNat ∧ c.toNat ≤ 57 := by simp [isFig]
set_option maxRecDepth 100000 in
theorem snoc_ind {α : Type} {motive : List α → Prop} (h0 : motive []) (h1 : ∀ l a, motive l → motive (l ++ [a])) (l : List α) : motive l := by
  have h : ∀ r : List α, motive r.reverse := by
    intro r
    induction r with
    | nil => exact h0
    | cons a r ih => rw [List.reverse_cons]; exact h1 _ _ ih
  have := h l.reverse
  rwa [List.reverse_reverse] at this
set_option maxRecDepth 100000 in
theorem val_lt (l : List UInt8) (h : allFig l = true) : val l < 10 ^ l.length := by
  induction l using snoc_ind with
  | h0 => simp [val]
  | h1 l a ih =>
    simp only [allFig, List.all_append, List.all_cons, List.all_nil, Bool.and_true, Bool.and_eq_true] at h
    have h2 := (isFig_iff a).1 h.2
    have h3 := ih h.1
    rw [val_snoc, List.length_append, List.length_cons, List.length_nil, Nat.pow_add]
    omega
def valR (l : List UInt8) : Nat × Nat := if 1 ≤ l.length ∧ l.length ≤ 18 ∧ allFig l = true then (val l, 0) else (0, 2)

set_option maxRecDepth 100000 in
theorem bytes_len (s : ByteArray) : s.data.toList.length = s.size := by rw [Array.length_toList]; rfl
set_option maxRecDepth 100000 in
theorem bytes_take (s : ByteArray) (k : Nat) (h : k < s.size) : s.data.toList.take (k + 1) = s.data.toList.take k ++ [s[k]] := by
  rw [List.take_succ_eq_append_getElem (by rw [bytes_len]; exact h)]; rfl

set_option maxRecDepth 100000 in
theorem all_snoc (l : List UInt8) (c : UInt8) : allFig (l ++ [c]) = (allFig l && isFig c) := by simp [allFig]
set_option maxRecDepth 100000 in
theorem all_not (l : List UInt8) (k : Nat) (h : k < l.length) (hn : isFig l[k] = false) : allFig l = false := by
  unfold allFig
  rw [List.all_eq_false]
  exact ⟨l[k], List.getElem_mem h, by simp [hn]⟩
set_option maxRecDepth 100000 in
theorem get_bytes (s : ByteArray) (k : Nat) (h : k < s.size) : s.data.toList[k]'(by rw [bytes_len]; exact h) = s[k] := rfl
set_option maxRecDepth 100000 in
/-- the rune that stands at a place where no figure stands is none -/
theorem rune_no (s : ByteArray) (k : Nat) (h : k < s.size) (hn : isFig s[k] = false) : ((Utf8.decode s k).1 : Int) < 48 ∨ 57 < ((Utf8.decode s k).1 : Int) := by
  by_cases ha : (s[k]'h).toNat < 128
  · rw [decode_ascii s k h ha]
    have : ¬ (48 ≤ s[k].toNat ∧ s[k].toNat ≤ 57) := by rw [← isFig_iff, hn]; simp
    simp only
    omega
  · have := (decode_high s k h (by omega)).1
    omega
set_option maxRecDepth 100000 in
theorem valR_ok (l : List UInt8) (h1 : 1 ≤ l.length) (h2 : l.length ≤ 18) (h : allFig l = true) : valR l = (val l, 0) := by rw [valR, if_pos ⟨h1, h2, h⟩]
set_option maxRecDepth 100000 in
theorem valR_no (l : List UInt8) (h : allFig l = false) : valR l = (0, 2) := by rw [valR, if_neg (by simp [h])]

end Go.Proofs.YtfppcmhhbheaiaaDoor
/- dig.Digits, dig.Big -/

namespace Go.Proofs.YtfppcmhhbheaiaaDoor
open Go.RowKit

/-- the figure (of base b, sign z is nought's) at the place p of w places -/
def dgAt (z b n w p : Nat) : UInt8 := UInt8.ofNat (z + n / b ^ (w - 1 - p) % b)
def dgL (z b n w : Nat) : List UInt8 := (List.range w).map (dgAt z b n w)
set_option maxRecDepth 100000 in
theorem dgL_length (z b n w : Nat) : (dgL z b n w).length = w := by simp [dgL]
set_option maxRecDepth 100000 in
theorem dgL_get (z b n w p : Nat) (h : p < (dgL z b n w).length) : (dgL z b n w)[p] = dgAt z b n w p := by simp [dgL]
set_option maxRecDepth 100000 in
theorem dgAt_nat (z b n w p : Nat) (hb : 0 < b) (h : z + b ≤ 256) : (dgAt z b n w p).toNat = z + n / b ^ (w - 1 - p) % b := by
  have := Nat.mod_lt (n / b ^ (w - 1 - p)) hb
  rw [dgAt, UInt8.toNat_ofNat', Nat.mod_eq_of_lt (by omega)]

set_option maxRecDepth 100000 in
theorem idx_dec (q : Int) (h0 : 0 ≤ q) (h1 : q < 10) (W : World) : (Instr.index 9 (.string ⟨#[48, 49, 50, 51, 52, 53, 54, 55, 56, 57, 97, 98, 99, 100, 101, 102]⟩) (.int .i64 q)).run Tryd.prog W = .ok (.int .u8 (48 + q)) W := by
  obtain ⟨j, rfl⟩ := Int.eq_ofNat_of_zero_le h0
  match j, h1 with
  | 0, _ => rfl | 1, _ => rfl | 2, _ => rfl | 3, _ => rfl | 4, _ => rfl | 5, _ => rfl | 6, _ => rfl | 7, _ => rfl
  | 8, _ => rfl | 9, _ => rfl
  | j + 10, h => exact absurd h (by omega)

def rowD (z b n w m p : Nat) : Value := if p < m then .int .u8 0 else .int .u8 ((dgAt z b n w p).toNat : Int)
set_option maxRecDepth 100000 in
theorem rowD_step (z b n w m p : Nat) (v : Int) (hv : v = ((dgAt z b n w m).toNat : Int)) : (if p = m then Value.int .u8 v else rowD z b n w (m + 1) p) = rowD z b n w m p := by
  unfold rowD
  by_cases h : p = m
  · subst h; simp [hv]
  · rw [if_neg h]
    by_cases h2 : p < m
    · rw [if_pos h2, if_pos (by omega)]
    · rw [if_neg h2, if_neg (by omega)]

def digitsV (n w : Nat) : Value := if n < 10 ^ w then .tuple #[.string ⟨(dgL 48 10 n w).toArray⟩, .int .i64 0] else .tuple #[.string ⟨#[]⟩, .int .i64 1]

set_option maxRecDepth 100000 in
theorem big_bad (n w : Int) (W : World) (h : w < 1 ∨ 8 < w ∨ n < 0) :
    Calls Tryd.prog 24 #[.int .i64 n, .int .i64 w] W fun e W' => e = .returned (.tuple #[.slice none 0 0, .int .i64 1]) ∧ Below W.heap.size W W' := by
  by_cases h1 : w < 1
  · go_enter Tryd.func24, Tryd.ntmps24
    go_wp2
    go_ret2
    exact ⟨rfl, Below.refl _ _⟩
  · by_cases h2 : 8 < w
    · go_enter Tryd.func24, Tryd.ntmps24
      go_wp2
      go_ret2
      exact ⟨rfl, Below.refl _ _⟩
    · have h3 : n < 0 := by omega
      go_enter Tryd.func24, Tryd.ntmps24
      go_wp2
      go_ret2
      exact ⟨rfl, Below.refl _ _⟩

/-- what Big answers: the bytes, or none -/
def BigR (n w : Nat) (W' : World) (e : Ending) : Prop :=
  if n < 256 ^ w then ∃ v, e = .returned (.tuple #[v, .int .i64 0]) ∧ Sl W' v (dgL 0 256 n w) else e = .returned (.tuple #[.slice none 0 0, .int .i64 1])

set_option maxRecDepth 100000 in
theorem big_any (n w : Nat) (W : World) (h1 : 1 ≤ w) (h2 : w ≤ 8) (hn : n ≤ 9223372036854775807) :
    Calls Tryd.prog 24 #[.int .i64 n, .int .i64 w] W fun e W' => BigR n w W' e ∧ Below W.heap.size W W' := by
  have hmk := run_make_row' (P := Tryd.prog) 22 5 (.int .u8 0) 1 Tryd.underlying22 info5 rfl .i64 .i64 w (by omega) (by omega)
  go_enter Tryd.func24, Tryd.ntmps24
  go_wp2
  have hrow := World.rowIs_made W (.int .u8 0) w 5
  have hbel : Below W.heap.size W (W.alloc (.cells (madeCells #[.int .u8 0] w) 5)) := (Below.refl _ _).alloc (Nat.le_refl _) _
  clear hmk
  go_loopw [0, 7] (fun q i wr => ∃ (m : Nat) (t : Nat), m ≤ w ∧ i = .int .i64 ((m : Int) - 1) ∧ q = .int .i64 t ∧ Hid (t = n / 256 ^ (w - m)) ∧ t ≤ 9223372036854775807 ∧ wr.rowIs W.heap.size 5 w (rowD 0 256 n w m) ∧ Below W.heap.size W wr) (fun _ i _ => (intOf i + 1).toNat)
  case atStart => exact ⟨w, n, Nat.le_refl _, rfl, rfl, Lib.hid (by simp), hn, hrow.congr (fun i hi => by unfold rowD; rw [if_pos hi]), hbel⟩
  case round =>
    obtain ⟨m, t, hm, rfl, rfl, ht, htb, hr, hb⟩ := hrel
    clear hrow hbel
    by_cases hlt : 1 ≤ m
    · obtain ⟨m, rfl⟩ : ∃ k, m = k + 1 := ⟨m - 1, by omega⟩
      have hc := hr.cell (i := m) (by omega)
      have hf := hr.frozen m
      have e : ((m + 1 : Nat) : Int) - 1 = (m : Int) := by omega
      rw [e]
      have HR := Lib.hid hr
      have HB := Lib.hid hb
      clear hr hb e
      go_wp2
      go_roundw
      case rel =>
        refine ⟨m, t / 256, by omega, rfl, by go_num, Lib.hid ?_, by omega, (HR.out.set m _).congr (fun p hp => ?_), HB.out.setCell (Nat.le_refl _) _⟩
        · rw [ht.out, Nat.div_div_eq_div_mul, ← Nat.pow_succ, show (w - (m + 1)).succ = w - m from by omega]
        · exact rowD_step 0 256 n w m p _ (by
            rw [dgAt_nat 0 256 n w m (by omega) (by omega), show w - 1 - m = w - (m + 1) from by omega, ← ht.out]
            omega)
      case measure => simp [intOf]
    · obtain rfl : m = 0 := by omega
      have e : t = n / 256 ^ w := by rw [ht.out, Nat.sub_zero]
      by_cases h0 : n < 256 ^ w
      · have ht0 : t = 0 := by rw [e]; exact Nat.div_eq_of_lt h0
        have hsl := Sl.row (l := dgL 0 256 n w) hr (dgL_length _ _ _ _) (by omega) (fun j hj => by rw [dgL_get]; unfold rowD; rw [if_neg (by omega)])
        have HS := Lib.hid hsl
        have H0 := Lib.hid h0
        have HB := Lib.hid hb
        subst ht0
        clear hb hr e ht htb hsl h0
        go_wp2
        go_ret2
        exact ⟨by unfold BigR; rw [if_pos H0.out]; exact ⟨_, rfl, HS.out⟩, HB.out⟩
      · have ht0 : 1 ≤ t := by
          rw [e]
          exact (Nat.one_le_div_iff (Nat.pow_pos (by omega))).2 (by omega)
        have H0 := Lib.hid h0
        have HB := Lib.hid hb
        clear hb hr e ht h0
        go_wp2
        go_ret2
        exact ⟨by unfold BigR; rw [if_neg H0.out]; rfl, HB.out⟩
end Go.Proofs.YtfppcmhhbheaiaaDoor
/- dig.TakeBig -/

namespace Go.Proofs.YtfppcmhhbheaiaaDoor
open Go.RowKit

def numL (l : List UInt8) : Nat := l.foldl (fun n c => 256 * n + c.toNat) 0
set_option maxRecDepth 100000 in
theorem numL_snoc (l : List UInt8) (c : UInt8) : numL (l ++ [c]) = 256 * numL l + c.toNat := by simp [numL]
set_option maxRecDepth 100000 in
theorem numL_lt (l : List UInt8) : numL l < 256 ^ l.length := by
  induction l using snoc_ind with
  | h0 => simp [numL]
  | h1 l a ih =>
    have := a.toNat_lt
    rw [numL_snoc, List.length_append, List.length_cons, List.length_nil, Nat.pow_add]
    omega

set_option maxRecDepth 100000 in
theorem takeBig_bad (A : Option Addr) (n c : Nat) (at_ w : Int) (W : World) (h : w < 1 ∨ 8 < w ∨ at_ < 0 ∨ n < at_) :
    Calls Tryd.prog 27 #[.slice A n c, .int .i64 at_, .int .i64 w] W fun e W' => e = .returned (.tuple #[.int .i64 0, .int .i64 0, .int .i64 1]) ∧ W = W' := by
  by_cases h1 : w < 1
  · go_enter Tryd.func27, Tryd.ntmps27
    go_wp2
    go_ret3
    exact ⟨rfl, rfl⟩
  · by_cases h2 : 8 < w
    · go_enter Tryd.func27, Tryd.ntmps27
      go_wp2
      go_ret3
      exact ⟨rfl, rfl⟩
    · by_cases h3 : at_ < 0
      · go_enter Tryd.func27, Tryd.ntmps27
        go_wp2
        go_ret3
        exact ⟨rfl, rfl⟩
      · have h4 : n < at_ := by omega
        go_enter Tryd.func27, Tryd.ntmps27
        go_wp2
        go_ret3
        exact ⟨rfl, rfl⟩

set_option maxRecDepth 100000 in
theorem takeBig_short (A : Option Addr) (n c p w : Nat) (W : World) (h1 : 1 ≤ w) (h2 : w ≤ 8) (hp : p ≤ n) (_hn : n ≤ 1000000) (h : n < p + w) :
    Calls Tryd.prog 27 #[.slice A n c, .int .i64 p, .int .i64 w] W fun e W' => e = .returned (.tuple #[.int .i64 0, .int .i64 0, .int .i64 3]) ∧ W = W' := by
  go_enter Tryd.func27, Tryd.ntmps27
  go_wp2
  go_ret3
  exact ⟨rfl, rfl⟩

def takeBigV (l : List UInt8) (p w : Nat) : Value :=
  if numL ((l.drop p).take w) ≤ 9223372036854775807 then .tuple #[.int .i64 (numL ((l.drop p).take w)), .int .i64 ((p : Int) + w), .int .i64 0] else .tuple #[.int .i64 0, .int .i64 0, .int .i64 2]

set_option maxRecDepth 100000 in
theorem or_byte (n x : Nat) (hn : n < 72057594037927936) (hx : x < 256) : bits BinOp.or IntKind.u64 ((n : Int) * 256) (x : Int) = ((256 * n + x : Nat) : Int) := by
  have h := bits_or_u64_nat (n * 256) x (by omega) (by omega)
  have e : n * 256 ||| x = n * 256 + x := by
    have := Nat.shiftLeft_add_eq_or_of_lt (show x < 2 ^ 8 by omega) n
    rw [Nat.shiftLeft_eq] at this
    exact this.symm
  rw [e] at h
  rw [show ((256 * n + x : Nat) : Int) = ((n * 256 + x : Nat) : Int) by omega, ← h]
  congr 1

set_option maxRecDepth 100000 in
theorem takeBig_any (A : Option Addr) (l : List UInt8) (c p w : Nat) (W : World) (h1 : 1 ≤ w) (h2 : w ≤ 8) (hn : l.length ≤ 1000000) (h : p + w ≤ l.length) (hc : l.length ≤ c) (hr : Rd W W.heap.size A l) :
    Calls Tryd.prog 27 #[.slice A l.length c, .int .i64 p, .int .i64 w] W fun e W' => e = .returned (takeBigV l p w) ∧ W = W' := by
  obtain ⟨b, o, rfl, hb, hcell⟩ := hr (by omega)
  have hcp : ¬ c = p := by omega
  have hs : (0 : Int) ≤ (p : Int) := by omega
  have e1 : ((p : Int) + w).toNat - p = w := by omega
  go_enter Tryd.func27, Tryd.ntmps27
  go_wp2
  clear e1
  go_loop [9, 41] (fun q i => ∃ k : Nat, k ≤ w ∧ i = .int .i64 k ∧ q = .int .u64 (numL ((l.drop p).take k))) (fun _ i => w - (intOf i).toNat)
  case atStart => exact ⟨0, Nat.zero_le _, rfl, rfl⟩
  case round =>
    obtain ⟨k, hk, rfl, rfl⟩ := hrel
    by_cases hlt : k < w
    · have hc1 := hcell (p + k) (by omega)
      rw [← Nat.add_assoc] at hc1
      have hsn : (l.drop p).take (k + 1) = (l.drop p).take k ++ [l[p + k]] := by
        rw [List.take_succ_eq_append_getElem (by rw [List.length_drop]; omega)]
        simp
      have e2 := numL_snoc ((l.drop p).take k) l[p + k]
      rw [← hsn] at e2
      have E2 := Lib.hid e2
      have hb1 : numL ((l.drop p).take k) < 72057594037927936 := by
        have a := numL_lt ((l.drop p).take k)
        have b : 256 ^ ((l.drop p).take k).length ≤ 256 ^ 7 := Nat.pow_le_pow_right (by omega) (by rw [List.length_take]; omega)
        omega
      have hx2 := (l[p + k]).toNat_lt
      clear e2 hsn
      have hor := or_byte (numL ((l.drop p).take k)) (l[p + k]).toNat hb1 hx2
      have HO := Lib.hid hor
      clear hor
      go_wp2
      go_round
      case rel => exact ⟨k + 1, by omega, by go_num, by rw [HO.out, E2.out]⟩
      case measure => simp [intOf]; omega
    · have hkw : k = w := by omega
      subst hkw
      clear hcell
      by_cases hle : numL ((l.drop p).take k) ≤ 9223372036854775807
      · have hV : takeBigV l p k = .tuple #[.int .i64 (numL ((l.drop p).take k)), .int .i64 ((p : Int) + k), .int .i64 0] := by rw [takeBigV, if_pos hle]
        have HV := Lib.hid hV
        clear hV
        go_wp2
        go_ret3
        exact ⟨by rw [HV.out]; rfl, rfl⟩
      · have hV : takeBigV l p k = .tuple #[.int .i64 0, .int .i64 0, .int .i64 2] := by rw [takeBigV, if_neg hle]
        have HV := Lib.hid hV
        clear hV
        go_wp2
        go_ret3
        exact ⟨by rw [HV.out]; rfl, rfl⟩
end Go.Proofs.YtfppcmhhbheaiaaDoor
