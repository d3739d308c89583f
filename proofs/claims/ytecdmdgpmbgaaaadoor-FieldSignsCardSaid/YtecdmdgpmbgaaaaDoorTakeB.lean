
/- dig.TakeBcd -/
import Derived.Test.YtecdmdgpmbgaaaaDoorPack
import Derived.Lib.IndexBytes
namespace Go.Proofs.YtecdmdgpmbgaaaaDoor
open Go.RowKit

theorem takeBcd_bad (A : Option Addr) (m c : Nat) (at_ n : Int) (W : World) (h : n < 0 ∨ 999 < n ∨ at_ < 0 ∨ m < at_) :
    Calls Tryd.prog 43 #[.slice A m c, .int .i64 at_, .int .i64 n] W fun e W' => e = .returned (.tuple #[.string ⟨#[]⟩, .int .i64 0, .int .i64 1]) ∧ W = W' := by
  by_cases h1 : n < 0
  · go_enter Tryd.func43, Tryd.ntmps43
    go_wp2
    go_ret3
    exact ⟨rfl, rfl⟩
  · by_cases h2 : 999 < n
    · go_enter Tryd.func43, Tryd.ntmps43
      go_wp2
      go_ret3
      exact ⟨rfl, rfl⟩
    · by_cases h3 : at_ < 0
      · go_enter Tryd.func43, Tryd.ntmps43
        go_wp2
        go_ret3
        exact ⟨rfl, rfl⟩
      · have h4 : m < at_ := by omega
        go_enter Tryd.func43, Tryd.ntmps43
        go_wp2
        go_ret3
        exact ⟨rfl, rfl⟩

theorem takeBcd_short (A : Option Addr) (m c p n : Nat) (W : World) (h2 : n ≤ 999) (hp : p ≤ m) (hn : m ≤ 1000000) (h : m < p + (n + 1) / 2) :
    Calls Tryd.prog 43 #[.slice A m c, .int .i64 p, .int .i64 n] W fun e W' => e = .returned (.tuple #[.string ⟨#[]⟩, .int .i64 0, .int .i64 3]) ∧ W = W' := by
  go_enter Tryd.func43, Tryd.ntmps43
  go_wp2
  go_ret3
  exact ⟨rfl, rfl⟩

/-- what TakeBcd answers of the bytes that hold the figures -/
def tbOk (part : List UInt8) (n : Nat) : Bool := allFig (hx part) && (decide (n % 2 = 0) || decide ((hx part).getD 0 0 = 48))
def tbV (part : List UInt8) (p n : Nat) : Value :=
  if tbOk part n = true then .tuple #[.string ⟨((hx part).drop (n % 2)).toArray⟩, .int .i64 ((p : Int) + part.length), .int .i64 0] else .tuple #[.string ⟨#[]⟩, .int .i64 0, .int .i64 2]

theorem takeBcd_core (A : Option Addr) (m : Nat) (part : List UInt8) (c p n : Nat) (W : World) (h2 : n ≤ 999) (hm : m ≤ 1000000) (hz : (n + 1) / 2 = part.length) (h : p + part.length ≤ m) (hc : m ≤ c)
    (hr : Rd W W.heap.size (if c = p then A else A.map (·.add (p * 1))) part) :
    Calls Tryd.prog 43 #[.slice A m c, .int .i64 p, .int .i64 n] W fun e W' => e = .returned (tbV part p n) ∧ Below W.heap.size W W' := by
  have e0 : ((n : Int) + 1) / 2 = (part.length : Int) := by omega
  have e1 : ((p : Int) + (part.length : Int)).toNat - p = part.length := by omega
  have HZ := Lib.hid hz
  clear hz
  have hl : part.length ≤ 1000000 := by omega
  by_cases hcp : c = p
  all_goals
    first | rw [if_pos hcp] at hr | rw [if_neg hcp] at hr
    have HR := Lib.hid hr
    clear hr
    go_enter Tryd.func43, Tryd.ntmps43
    go_wp2_with fail
    refine (hex_any _ part _ _ hl (by simpa using HR.out)).mono ?_
    rintro e w1 ⟨rfl, hb1⟩
    have HB1 := Lib.hid hb1
    clear hb1
    generalize hS : (⟨(hx part).toArray⟩ : ByteArray) = S
    have hs1' : S.data.toList = hx part := by rw [← hS]
    have hsz : S.size = 2 * part.length := by rw [← bytes_len, hs1', hx_length]
    have hs1 := Lib.hid hs1'
    clear hS hs1'
    have hsz1 : S.size ≤ 2000000 := by omega
    have HSZ := Lib.hid hsz
    clear hsz
    go_wp2
    go_loopw [14] (fun _ wr => ∃ k : Nat, k ≤ S.size ∧ wr = w1.iter S k ∧ Hid (allFig (S.data.toList.take k) = true)) (fun _ wr => S.size - wr.iterPos w1.heap.size)
    case atStart => exact ⟨0, Nat.zero_le _, rfl, Lib.hid rfl⟩
    case round =>
      obtain ⟨k, hk, rfl, hall⟩ := hrel
      by_cases hlt : k < S.size
      · cases hf : isFig S[k] with
        | true =>
          have hd := (isFig_iff _).1 hf
          have hnx : ∀ ty, (Instr.next (.pointer (some ⟨w1.heap.size, 0, none⟩)) true ty).run Tryd.prog (w1.iter S k) = _ := fun ty => run_next_ascii w1 S k ty hlt (by omega)
          have e2 := all_snoc (S.data.toList.take k) S[k]
          rw [← bytes_take S k hlt, hall.out, hf] at e2
          have E2 := Lib.hid e2
          clear hf e2
          have hd1 : (48 : Int) ≤ S[k].toNat := by omega
          have hd2 : (S[k].toNat : Int) ≤ 57 := by omega
          go_wp2_with (go_at_call 48; refine (figure_yes _ _ hd1 hd2).mono ?_; rintro e w' ⟨rfl, rfl⟩)
          go_roundw
          case rel => exact ⟨k + 1, by omega, rfl, Lib.hid E2.out⟩
          case measure => simp; omega
        | false =>
          have hno := rune_no S k hlt hf
          have hle := decode_le S k
          have hnx : ∀ ty, (Instr.next (.pointer (some ⟨w1.heap.size, 0, none⟩)) true ty).run Tryd.prog (w1.iter S k) = _ := fun ty => run_next_any w1 S k ty hlt
          have hN : tbOk part n = false := by
            unfold tbOk
            rw [← hs1.out, all_not _ k (by rw [bytes_len]; exact hlt) (by rw [get_bytes S k hlt]; exact hf)]
            rfl
          have hV : tbV part p n = .tuple #[.string ⟨#[]⟩, .int .i64 0, .int .i64 2] := by unfold tbV; rw [if_neg (by rw [hN]; simp)]
          have HV := Lib.hid hV
          clear hf hV hN
          go_wp2_with (go_at_call 48; refine (figure_no _ _ hno).mono ?_; rintro e w' ⟨rfl, rfl⟩)
          go_ret3
          exact ⟨by rw [HV.out]; rfl, HB1.out.alloc HB1.out.size _⟩
      · have hkl : k = S.size := by omega
        have hall2 : allFig (hx part) = true := by
          have := hall.out
          rw [List.take_of_length_le (by rw [bytes_len]; omega), hs1.out] at this
          exact this
        have hnx : ∀ ty, (Instr.next (.pointer (some ⟨w1.heap.size, 0, none⟩)) true ty).run Tryd.prog (w1.iter S k) = _ := fun ty => run_next_end w1 S k ty hlt
        have HA := Lib.hid hall2
        clear hall2 hkl hall
        rcases Nat.mod_two_eq_zero_or_one n with h0 | h1
        · have hn0 : (n : Int) % 2 = 0 := by omega
          have hV : tbV part p n = .tuple #[.string ⟨((hx part).drop 0).toArray⟩, .int .i64 ((p : Int) + part.length), .int .i64 0] := by
            unfold tbV
            rw [if_pos (by unfold tbOk; rw [HA.out, h0]; rfl), h0]
          have hex : S = ⟨((hx part).drop 0).toArray⟩ := by
            apply ByteArray.ext
            apply Array.toList_inj.1
            rw [hs1.out]; rfl
          have HV := Lib.hid hV
          have HX := Lib.hid hex
          clear hV hex h0
          go_wp2
          go_ret3
          exact ⟨by rw [HV.out, ← HX.out]; rfl, HB1.out.alloc HB1.out.size _⟩
        · have hn1 : (n : Int) % 2 = 1 := by omega
          have hp0 : 0 < S.size := by have := HSZ.out; have := HZ.out; omega
          have hp0' : (0 : Int) < (S.size : Int) := by omega
          have hget : (hx part).getD 0 0 = S[0] := by
            rw [← hs1.out, getD_at _ _ (by rw [bytes_len]; exact hp0)]
            rfl
          by_cases h48 : S[0].toNat = 48
          · have h48' : ((S[0].toNat : Int) != 48) = false := by simp; omega
            have hV : tbV part p n = .tuple #[.string ⟨((hx part).drop 1).toArray⟩, .int .i64 ((p : Int) + part.length), .int .i64 0] := by
              unfold tbV
              rw [if_pos (by unfold tbOk; rw [HA.out, hget, show S[0] = 48 from UInt8.toNat_inj.1 (by rw [h48]; rfl)]; simp), h1]
            have hex : S.extract 1 S.size = ⟨((hx part).drop 1).toArray⟩ := by
              apply ByteArray.ext
              apply Array.toList_inj.1
              rw [Lib.extract_to_end, hs1.out]
            have HV := Lib.hid hV
            have HX := Lib.hid hex
            clear hV hex h1 h48 hget
            go_wp2
            go_ret3
            exact ⟨by rw [HV.out, ← HX.out]; rfl, HB1.out.alloc HB1.out.size _⟩
          · have h48' : ((S[0].toNat : Int) != 48) = true := by simp; omega
            have hV : tbV part p n = .tuple #[.string ⟨#[]⟩, .int .i64 0, .int .i64 2] := by
              unfold tbV
              rw [if_neg (by
                unfold tbOk
                rw [HA.out, hget, h1]
                simp
                intro h
                rw [h] at h48
                exact h48 rfl)]
            have HV := Lib.hid hV
            clear hV h1 h48 hget
            go_wp2
            go_ret3
            exact ⟨by rw [HV.out]; rfl, HB1.out.alloc HB1.out.size _⟩

theorem takeBcd_any (A : Option Addr) (l : List UInt8) (c p n : Nat) (W : World) (h2 : n ≤ 999) (hm : l.length ≤ 1000000) (h : p + (n + 1) / 2 ≤ l.length) (hc : l.length ≤ c) (hr : Rd W W.heap.size A l) :
    Calls Tryd.prog 43 #[.slice A l.length c, .int .i64 p, .int .i64 n] W fun e W' => e = .returned (tbV ((l.drop p).take ((n + 1) / 2)) p n) ∧ Below W.heap.size W W' := by
  have hlen : ((l.drop p).take ((n + 1) / 2)).length = (n + 1) / 2 := by rw [List.length_take, List.length_drop]; omega
  exact takeBcd_core A l.length ((l.drop p).take ((n + 1) / 2)) c p n W h2 hm hlen.symm (by rw [hlen]; exact h) hc (hr.cut p ((n + 1) / 2) c h hc)
end Go.Proofs.YtecdmdgpmbgaaaaDoor
