
/- dig.pack, Bcd, Unhex -/
import Derived.Test.YtpfjecjfooefoaaDoorJ04
import Derived.Lib.IndexBytes
namespace Go.Proofs.YtpfjecjfooefoaaDoor
open Go.RowKit

set_option maxRecDepth 100000 in
theorem getD_at (l : List UInt8) (k : Nat) (h : k < l.length) : l.getD k 0 = l[k] := by simp [List.getD, h]
def hvF (g : UInt8 → Option Nat) (l : List UInt8) (i : Nat) : Nat := if i < l.length % 2 then 0 else (g (l.getD (i - l.length % 2) 0)).getD 0
def pkAt (hv : Nat → Nat) (p : Nat) : UInt8 := UInt8.ofNat (16 * hv (2 * p) + hv (2 * p + 1))
def packL (g : UInt8 → Option Nat) (l : List UInt8) : List UInt8 := (List.range ((l.length + 1) / 2)).map (pkAt (hvF g l))
def okL (g : UInt8 → Option Nat) (l : List UInt8) : Bool := l.all fun c => (g c).isSome
set_option maxRecDepth 100000 in
theorem packL_length (g : UInt8 → Option Nat) (l : List UInt8) : (packL g l).length = (l.length + 1) / 2 := by simp [packL]
set_option maxRecDepth 100000 in
theorem packL_get (g : UInt8 → Option Nat) (l : List UInt8) (p : Nat) (h : p < (packL g l).length) : (packL g l)[p] = pkAt (hvF g l) p := by simp [packL]
/-- a worth: below 16, of a sign below 128 -/
def Worth (g : UInt8 → Option Nat) : Prop := ∀ c v, g c = some v → v < 16 ∧ c.toNat < 128
set_option maxRecDepth 100000 in
theorem hvF_lt (g : UInt8 → Option Nat) (hg : Worth g) (l : List UInt8) (i : Nat) : hvF g l i < 16 := by
  unfold hvF
  split
  · omega
  · cases h : g (l.getD (i - l.length % 2) 0) with
    | none => simp
    | some v => simpa using (hg _ _ h).1
set_option maxRecDepth 100000 in
theorem pkAt_nat (hv : Nat → Nat) (h : ∀ i, hv i < 16) (p : Nat) : (pkAt hv p).toNat = 16 * hv (2 * p) + hv (2 * p + 1) := by
  have a := h (2 * p)
  have b := h (2 * p + 1)
  rw [pkAt, UInt8.toNat_ofNat', Nat.mod_eq_of_lt (by omega)]

/-- what the cell p holds behind t halves -/
def cellP (hv : Nat → Nat) (t p : Nat) : Nat := if 2 * p + 1 < t then 16 * hv (2 * p) + hv (2 * p + 1) else if 2 * p < t then hv (2 * p) else 0
def rowP (hv : Nat → Nat) (t p : Nat) : Value := .int .u8 (cellP hv t p : Nat)
set_option maxRecDepth 100000 in
theorem cellP_half (hv : Nat → Nat) (h : ∀ i, hv i < 16) (t : Nat) : cellP hv t (t / 2) < 16 := by
  unfold cellP
  rw [if_neg (by omega)]
  split
  · exact h _
  · omega
set_option maxRecDepth 100000 in
theorem cellP_step (hv : Nat → Nat) (t : Nat) : 16 * cellP hv t (t / 2) + hv t = cellP hv (t + 1) (t / 2) := by
  rcases Nat.mod_two_eq_zero_or_one t with h | h
  · have e : 2 * (t / 2) = t := by omega
    unfold cellP
    rw [e, if_neg (by omega), if_neg (by omega), if_neg (by omega), if_pos (by omega)]
    omega
  · have e : 2 * (t / 2) + 1 = t := by omega
    unfold cellP
    rw [e, if_neg (by omega), if_pos (by omega), if_pos (by omega)]
set_option maxRecDepth 100000 in
theorem rowP_step (hv : Nat → Nat) (t p : Nat) (v : Int) (hvv : v = ((16 * cellP hv t (t / 2) + hv t : Nat) : Int)) : (if p = t / 2 then Value.int .u8 v else rowP hv t p) = rowP hv (t + 1) p := by
  by_cases h : p = t / 2
  · rw [if_pos h, hvv, cellP_step, h]; rfl
  · rw [if_neg h]
    unfold rowP cellP
    congr 2
    by_cases a : 2 * p + 1 < t
    · rw [if_pos a, if_pos (by omega)]
    · rw [if_neg a, if_neg (by omega : ¬ 2 * p + 1 < t + 1)]
      by_cases b : 2 * p < t
      · rw [if_pos b, if_pos (by omega)]
      · rw [if_neg b, if_neg (by omega)]
set_option maxRecDepth 100000 in
theorem or_half (x v : Nat) (hx : x < 16) (hv : v < 16) : bits BinOp.or IntKind.u8 ((x : Int) * 16) (v : Int) = ((16 * x + v : Nat) : Int) := by
  have h := u8_or_nat (x * 16) v (by omega) (by omega)
  have e : x * 16 ||| v = x * 16 + v := by
    have := Nat.shiftLeft_add_eq_or_of_lt (show v < 2 ^ 4 by omega) x
    rw [Nat.shiftLeft_eq] at this
    exact this.symm
  rw [e] at h
  rw [show ((16 * x + v : Nat) : Int) = ((x * 16 + v : Nat) : Int) by omega, ← h]
  congr 1

def PackR (g : UInt8 → Option Nat) (l : List UInt8) (W' : World) (e : Ending) : Prop :=
  if okL g l = true then ∃ v, e = .returned (.tuple #[v, .int .i64 0]) ∧ Sl W' v (packL g l) else e = .returned (.tuple #[.slice none 0 0, .int .i64 2])

set_option maxRecDepth 100000 in
theorem okL_no (g : UInt8 → Option Nat) (l : List UInt8) (k : Nat) (h : k < l.length) (hn : g l[k] = none) : okL g l = false := by
  unfold okL
  rw [List.all_eq_false]
  exact ⟨l[k], List.getElem_mem h, by simp [hn]⟩

set_option maxRecDepth 100000 in
/-- the rune that stands at a place where no sign of a worth stands -/
theorem rune_none (g : UInt8 → Option Nat) (hg : Worth g) (s : ByteArray) (k : Nat) (h : k < s.size) (hn : g s[k] = none) : ∀ c : UInt8, (c.toNat : Int) = ((Utf8.decode s k).1 : Int) → g c = none := by
  intro c hc
  cases hgc : g c with
  | none => rfl
  | some v =>
    have hlt := (hg _ _ hgc).2
    by_cases ha : (s[k]'h).toNat < 128
    · rw [decode_ascii s k h ha] at hc
      have : c = s[k] := UInt8.toNat_inj.1 (by simp only at hc; omega)
      rw [this, hn] at hgc
      exact hgc.symm
    · have := (decode_high s k h (by omega)).1
      omega

/-- a figure's worth, and half a byte's -/
def gFig (c : UInt8) : Option Nat := if 48 ≤ c.toNat ∧ c.toNat ≤ 57 then some (c.toNat - 48) else none
def gHalf (c : UInt8) : Option Nat := if 97 ≤ c.toNat ∧ c.toNat ≤ 102 then some (c.toNat - 87) else gFig c
set_option maxRecDepth 100000 in
theorem gFig_w : Worth gFig := by
  intro c v h
  unfold gFig at h
  split at h <;> simp at h
  omega
set_option maxRecDepth 100000 in
theorem gHalf_w : Worth gHalf := by
  intro c v h
  unfold gHalf at h
  split at h
  · simp at h; omega
  · exact gFig_w c v h

end Go.Proofs.YtpfjecjfooefoaaDoor
/- dig.TakeBcd -/

namespace Go.Proofs.YtpfjecjfooefoaaDoor
open Go.RowKit

set_option maxRecDepth 100000 in
theorem takeBcd_bad (A : Option Addr) (m c : Nat) (at_ n : Int) (W : World) (h : n < 0 ∨ 999 < n ∨ at_ < 0 ∨ m < at_) :
    Calls Tryd.prog 85 #[.slice A m c, .int .i64 at_, .int .i64 n] W fun e W' => e = .returned (.tuple #[.string ⟨#[]⟩, .int .i64 0, .int .i64 1]) ∧ W = W' := by
  by_cases h1 : n < 0
  · go_enter Tryd.func85, Tryd.ntmps85
    go_wp2
    go_ret3
    exact ⟨rfl, rfl⟩
  · by_cases h2 : 999 < n
    · go_enter Tryd.func85, Tryd.ntmps85
      go_wp2
      go_ret3
      exact ⟨rfl, rfl⟩
    · by_cases h3 : at_ < 0
      · go_enter Tryd.func85, Tryd.ntmps85
        go_wp2
        go_ret3
        exact ⟨rfl, rfl⟩
      · have h4 : m < at_ := by omega
        go_enter Tryd.func85, Tryd.ntmps85
        go_wp2
        go_ret3
        exact ⟨rfl, rfl⟩

set_option maxRecDepth 100000 in
theorem takeBcd_short (A : Option Addr) (m c p n : Nat) (W : World) (h2 : n ≤ 999) (hp : p ≤ m) (hn : m ≤ 1000000) (h : m < p + (n + 1) / 2) :
    Calls Tryd.prog 85 #[.slice A m c, .int .i64 p, .int .i64 n] W fun e W' => e = .returned (.tuple #[.string ⟨#[]⟩, .int .i64 0, .int .i64 3]) ∧ W = W' := by
  go_enter Tryd.func85, Tryd.ntmps85
  go_wp2
  go_ret3
  exact ⟨rfl, rfl⟩

/-- what TakeBcd answers of the bytes that hold the figures -/
def tbOk (part : List UInt8) (n : Nat) : Bool := allFig (hx part) && (decide (n % 2 = 0) || decide ((hx part).getD 0 0 = 48))
def tbV (part : List UInt8) (p n : Nat) : Value :=
  if tbOk part n = true then .tuple #[.string ⟨((hx part).drop (n % 2)).toArray⟩, .int .i64 ((p : Int) + part.length), .int .i64 0] else .tuple #[.string ⟨#[]⟩, .int .i64 0, .int .i64 2]

set_option maxRecDepth 100000 in
theorem takeBcd_core (A : Option Addr) (m : Nat) (part : List UInt8) (c p n : Nat) (W : World) (h2 : n ≤ 999) (hm : m ≤ 1000000) (hz : (n + 1) / 2 = part.length) (h : p + part.length ≤ m) (hc : m ≤ c)
    (hr : Rd W W.heap.size (if c = p then A else A.map (·.add (p * 1))) part) :
    Calls Tryd.prog 85 #[.slice A m c, .int .i64 p, .int .i64 n] W fun e W' => e = .returned (tbV part p n) ∧ Below W.heap.size W W' := by
  have e0 : ((n : Int) + 1) / 2 = (part.length : Int) := by omega
  have e1 : ((p : Int) + (part.length : Int)).toNat - p = part.length := by omega
  have HZ := Lib.hid hz
  clear hz
  have hl : part.length ≤ 1000000 := by omega
  by_cases hcp : c = p
  all_goals
    first | rw [if_pos hcp] at hr | rw [if_neg hcp] at hr
    have HR := Lib.hid hr
    clear hr
    go_enter Tryd.func85, Tryd.ntmps85
    go_wp2_with fail
    refine (hex_any _ part _ _ hl (by simpa using HR.out)).mono ?_
    rintro e w1 ⟨rfl, hb1⟩
    have HB1 := Lib.hid hb1
    clear hb1
    generalize hS : (⟨(hx part).toArray⟩ : ByteArray) = S
    have hs1' : S.data.toList = hx part := by rw [← hS]
    have hsz : S.size = 2 * part.length := by rw [← bytes_len, hs1', hx_length]
    have hs1 := Lib.hid hs1'
    clear hS hs1'
    have hsz1 : S.size ≤ 2000000 := by omega
    have HSZ := Lib.hid hsz
    clear hsz
    go_wp2
    go_loopw [14] (fun _ wr => ∃ k : Nat, k ≤ S.size ∧ wr = w1.iter S k ∧ Hid (allFig (S.data.toList.take k) = true)) (fun _ wr => S.size - wr.iterPos w1.heap.size)
    case atStart => exact ⟨0, Nat.zero_le _, rfl, Lib.hid rfl⟩
    case round =>
      obtain ⟨k, hk, rfl, hall⟩ := hrel
      by_cases hlt : k < S.size
      · cases hf : isFig S[k] with
        | true =>
          have hd := (isFig_iff _).1 hf
          have hnx : ∀ ty, (Instr.next (.pointer (some ⟨w1.heap.size, 0, none⟩)) true ty).run Tryd.prog (w1.iter S k) = _ := fun ty => run_next_ascii w1 S k ty hlt (by omega)
          have e2 := all_snoc (S.data.toList.take k) S[k]
          rw [← bytes_take S k hlt, hall.out, hf] at e2
          have E2 := Lib.hid e2
          clear hf e2
          have hd1 : (48 : Int) ≤ S[k].toNat := by omega
          have hd2 : (S[k].toNat : Int) ≤ 57 := by omega
          go_wp2_with (go_at_call 69; refine (figure_yes _ _ hd1 hd2).mono ?_; rintro e w' ⟨rfl, rfl⟩)
          go_roundw
          case rel => exact ⟨k + 1, by omega, rfl, Lib.hid E2.out⟩
          case measure => simp; omega
        | false =>
          have hno := rune_no S k hlt hf
          have hle := decode_le S k
          have hnx : ∀ ty, (Instr.next (.pointer (some ⟨w1.heap.size, 0, none⟩)) true ty).run Tryd.prog (w1.iter S k) = _ := fun ty => run_next_any w1 S k ty hlt
          have hN : tbOk part n = false := by
            unfold tbOk
            rw [← hs1.out, all_not _ k (by rw [bytes_len]; exact hlt) (by rw [get_bytes S k hlt]; exact hf)]
            rfl
          have hV : tbV part p n = .tuple #[.string ⟨#[]⟩, .int .i64 0, .int .i64 2] := by unfold tbV; rw [if_neg (by rw [hN]; simp)]
          have HV := Lib.hid hV
          clear hf hV hN
          go_wp2_with (go_at_call 69; refine (figure_no _ _ hno).mono ?_; rintro e w' ⟨rfl, rfl⟩)
          go_ret3
          exact ⟨by rw [HV.out]; rfl, HB1.out.alloc HB1.out.size _⟩
      · have hkl : k = S.size := by omega
        have hall2 : allFig (hx part) = true := by
          have := hall.out
          rw [List.take_of_length_le (by rw [bytes_len]; omega), hs1.out] at this
          exact this
        have hnx : ∀ ty, (Instr.next (.pointer (some ⟨w1.heap.size, 0, none⟩)) true ty).run Tryd.prog (w1.iter S k) = _ := fun ty => run_next_end w1 S k ty hlt
        have HA := Lib.hid hall2
        clear hall2 hkl hall
        rcases Nat.mod_two_eq_zero_or_one n with h0 | h1
        · have hn0 : (n : Int) % 2 = 0 := by omega
          have hV : tbV part p n = .tuple #[.string ⟨((hx part).drop 0).toArray⟩, .int .i64 ((p : Int) + part.length), .int .i64 0] := by
            unfold tbV
            rw [if_pos (by unfold tbOk; rw [HA.out, h0]; rfl), h0]
          have hex : S = ⟨((hx part).drop 0).toArray⟩ := by
            apply ByteArray.ext
            apply Array.toList_inj.1
            rw [hs1.out]; rfl
          have HV := Lib.hid hV
          have HX := Lib.hid hex
          clear hV hex h0
          go_wp2
          go_ret3
          exact ⟨by rw [HV.out, ← HX.out]; rfl, HB1.out.alloc HB1.out.size _⟩
        · have hn1 : (n : Int) % 2 = 1 := by omega
          have hp0 : 0 < S.size := by have := HSZ.out; have := HZ.out; omega
          have hp0' : (0 : Int) < (S.size : Int) := by omega
          have hget : (hx part).getD 0 0 = S[0] := by
            rw [← hs1.out, getD_at _ _ (by rw [bytes_len]; exact hp0)]
            rfl
          by_cases h48 : S[0].toNat = 48
          · have h48' : ((S[0].toNat : Int) != 48) = false := by simp; omega
            have hV : tbV part p n = .tuple #[.string ⟨((hx part).drop 1).toArray⟩, .int .i64 ((p : Int) + part.length), .int .i64 0] := by
              unfold tbV
              rw [if_pos (by unfold tbOk; rw [HA.out, hget, show S[0] = 48 from UInt8.toNat_inj.1 (by rw [h48]; rfl)]; simp), h1]
            have hex : S.extract 1 S.size = ⟨((hx part).drop 1).toArray⟩ := by
              apply ByteArray.ext
              apply Array.toList_inj.1
              rw [Lib.extract_to_end, hs1.out]
            have HV := Lib.hid hV
            have HX := Lib.hid hex
            clear hV hex h1 h48 hget
            go_wp2
            go_ret3
            exact ⟨by rw [HV.out, ← HX.out]; rfl, HB1.out.alloc HB1.out.size _⟩
          · have h48' : ((S[0].toNat : Int) != 48) = true := by simp; omega
            have hV : tbV part p n = .tuple #[.string ⟨#[]⟩, .int .i64 0, .int .i64 2] := by
              unfold tbV
              rw [if_neg (by
                unfold tbOk
                rw [HA.out, hget, h1]
                simp
                intro h
                rw [h] at h48
                exact h48 rfl)]
            have HV := Lib.hid hV
            clear hV h1 h48 hget
            go_wp2
            go_ret3
            exact ⟨by rw [HV.out]; rfl, HB1.out.alloc HB1.out.size _⟩

set_option maxRecDepth 100000 in
theorem takeBcd_any (A : Option Addr) (l : List UInt8) (c p n : Nat) (W : World) (h2 : n ≤ 999) (hm : l.length ≤ 1000000) (h : p + (n + 1) / 2 ≤ l.length) (hc : l.length ≤ c) (hr : Rd W W.heap.size A l) :
    Calls Tryd.prog 85 #[.slice A l.length c, .int .i64 p, .int .i64 n] W fun e W' => e = .returned (tbV ((l.drop p).take ((n + 1) / 2)) p n) ∧ Below W.heap.size W W' := by
  have hlen : ((l.drop p).take ((n + 1) / 2)).length = (n + 1) / 2 := by rw [List.length_take, List.length_drop]; omega
  exact takeBcd_core A l.length ((l.drop p).take ((n + 1) / 2)) c p n W h2 hm hlen.symm (by rw [hlen]; exact h) hc (hr.cut p ((n + 1) / 2) c h hc)
end Go.Proofs.YtpfjecjfooefoaaDoor
/- shown: the document's examples -/

namespace Go.Proofs.YtpfjecjfooefoaaDoor
open Go.RowKit

set_option maxRecDepth 100000 in
theorem ex_digits (W : World) : Calls Tryd.prog 35 #[.int .i64 42, .int .i64 6] W fun e W' => e = .returned (.tuple #[.string ⟨#[48, 48, 48, 48, 52, 50]⟩, .int .i64 0]) ∧ Below W.heap.size W W' :=
  (digits_any 42 6 W (by omega) (by omega) (by omega)).mono fun e W' h => ⟨h.1.trans (by rfl), h.2⟩
set_option maxRecDepth 100000 in
theorem ex_value (W : World) : Calls Tryd.prog 86 #[.string ⟨#[48, 48, 48, 48, 52, 50]⟩] W fun e W' => e = .returned (.tuple #[.int .i64 42, .int .i64 0]) ∧ Below W.heap.size W W' :=
  (value_any ⟨#[48, 48, 48, 48, 52, 50]⟩ W (by decide) (by decide)).mono fun e W' h => ⟨h.1.trans (by rfl), h.2⟩
set_option maxRecDepth 100000 in
theorem ex_takeBcd (W : World) (A : Option Addr) (c : Nat) (hc : 3 ≤ c) (hr : Rd W W.heap.size A [1, 35, 69]) : Calls Tryd.prog 85 #[.slice A 3 c, .int .i64 0, .int .i64 5] W fun e W' => e = .returned (.tuple #[.string ⟨#[49, 50, 51, 52, 53]⟩, .int .i64 3, .int .i64 0]) ∧ Below W.heap.size W W' :=
  (takeBcd_any A [1, 35, 69] c 0 5 W (by omega) (by decide) (by decide) hc hr).mono fun e W' h => ⟨h.1.trans (by rfl), h.2⟩
set_option maxRecDepth 100000 in
theorem ex_hex (W : World) (A : Option Addr) (c : Nat) (hr : Rd W W.heap.size A [1, 35, 69]) : Calls Tryd.prog 101 #[.slice A 3 c] W fun e W' => e = .returned (.string ⟨#[48, 49, 50, 51, 52, 53]⟩) ∧ Below W.heap.size W W' :=
  (hex_any A [1, 35, 69] c W (by decide) hr).mono fun e W' h => ⟨h.1.trans (by rfl), h.2⟩

set_option maxRecDepth 100000 in
theorem ex_same (W : World) (A B : Option Addr) (c d : Nat) (ha : Rd W W.heap.size A [1, 35, 69]) (hb : Rd W W.heap.size B [1, 35, 69]) : Calls Tryd.prog 17 #[.slice A 3 c, .slice B 3 d] W fun e W' => e = .returned (.bool true) ∧ W = W' :=
  (same_any A B [1, 35, 69] [1, 35, 69] c d _ _ W ha hb).mono fun e W' h => ⟨h.1.trans (by rfl), h.2⟩

end Go.Proofs.YtpfjecjfooefoaaDoor
