
/- mac.Same. -/
import Derived.Test.YtcfncbbdlbdbnaaDoorMacB
namespace Go.Proofs.YtcfncbbdlbdbnaaDoor
open Go.RowKit

theorem or_nil (p x y : UInt8) : (p ||| (x ^^^ y)) = 0 ↔ p = 0 ∧ x = y := by
  rw [UInt8.or_eq_zero_iff, UInt8.xor_eq_zero_iff]
theorem getD_at (l : List UInt8) (k : Nat) (h : k < l.length) : l.getD k 0 = l[k] := by
  rw [List.getD_eq_getElem?_getD, List.getElem?_eq_getElem h]; rfl
theorem take_eq_snoc (a b : List UInt8) (k : Nat) (ha : k < a.length) (hb : k < b.length) : a.take (k + 1) = b.take (k + 1) ↔ a.take k = b.take k ∧ a.getD k 0 = b.getD k 0 := by
  rw [getD_at a k ha, getD_at b k hb]
  rw [List.take_succ_eq_append_getElem ha, List.take_succ_eq_append_getElem hb]
  constructor
  · intro h
    have h2 := List.append_inj h (by rw [List.length_take, List.length_take]; omega)
    exact ⟨h2.1, by simpa using h2.2⟩
  · rintro ⟨h1, h2⟩
    rw [h1, h2]

set_option maxRecDepth 100000 in
set_option maxHeartbeats 1000000 in
theorem macSame_any (A B : Option Addr) (la lb : List UInt8) (ca cb BA BB : Nat) (w : World) (ha : Rd w BA A la) (hb : Rd w BB B lb) (hla : la.length ≤ 1000000) (hlb : lb.length ≤ 1000000) :
    Calls Tryd.prog 27 #[.slice A la.length ca, .slice B lb.length cb] w fun e w' => e = .returned (.bool (decide (la = lb))) ∧ w = w' := by
  obtain ⟨n, hn⟩ : ∃ n, n = la.length := ⟨_, rfl⟩
  obtain ⟨m, hm⟩ : ∃ m, m = lb.length := ⟨_, rfl⟩
  by_cases hnm : n = m
  · subst hnm
    rw [← hm, ← hn]
    rw [← hn] at hla
    rcases Nat.eq_zero_or_pos n with h0 | h0
    · subst h0
      have e1 : la = [] := List.eq_nil_of_length_eq_zero hn.symm
      have e2 : lb = [] := List.eq_nil_of_length_eq_zero hm.symm
      rw [show decide (la = lb) = true by rw [e1, e2]; simp]
      clear e1 e2 ha hb hn hm
      go_enter Tryd.func27, Tryd.ntmps27
      go_wp2
      go_loop [5, 15] (fun u v => u = .int .u8 0 ∧ v = .int .i64 0) (fun _ _ => 0)
      case atStart => exact ⟨rfl, rfl⟩
      case round =>
        obtain ⟨rfl, rfl⟩ := hrel
        go_wp2
        go_ret
        exact ⟨rfl, rfl⟩
    · obtain ⟨b1, o1, rfl, -, hc1⟩ := ha (by omega)
      obtain ⟨b2, o2, rfl, -, hc2⟩ := hb (by omega)
      have HA := Lib.hid (fun k (hk : k < n) => show w.cell? ⟨b1, o1 + k, none⟩ = some (.int .u8 ((la.getD k 0).toNat : Int)) from by rw [getD_at la k (by omega)]; exact hc1 k (by omega))
      have HBc := Lib.hid (fun k (hk : k < n) => show w.cell? ⟨b2, o2 + k, none⟩ = some (.int .u8 ((lb.getD k 0).toNat : Int)) from by rw [getD_at lb k (by omega)]; exact hc2 k (by omega))
      have HS := Lib.hid (fun k (hk : k < n) => take_eq_snoc la lb k (by omega) (by omega))
      have HE := Lib.hid (show la.take n = lb.take n ↔ la = lb by rw [hn, List.take_length, ← hn, hm, List.take_length])
      obtain ⟨R, hR⟩ : ∃ R, R = decide (la = lb) := ⟨_, rfl⟩
      have HR := Lib.hid hR
      rw [← hR]
      clear ha hb hc1 hc2 hn hm hR
      go_enter Tryd.func27, Tryd.ntmps27
      go_wp2
      go_loop [5, 15] (fun u v => ∃ (k : Nat) (p : UInt8), k ≤ n ∧ v = .int .i64 k ∧ u = .int .u8 (p.toNat : Int) ∧ Hid (p = 0 ↔ la.take k = lb.take k)) (fun _ v => n - (intOf v).toNat)
      case atStart => exact ⟨0, 0, by omega, rfl, rfl, Lib.hid (by simp)⟩
      case round =>
        obtain ⟨k, p, hk, rfl, rfl, HP⟩ := hrel
        by_cases hlt : k < n
        · have c1 := HA.out k hlt
          have c2 := HBc.out k hlt
          have hs := HS.out k hlt
          generalize la.getD k 0 = x at *
          generalize lb.getD k 0 = y at *
          have hlti : (k : Int) < (n : Int) := by omega
          have hk0 : (0 : Int) ≤ (k : Int) := Int.natCast_nonneg _
          have hx := b_xor x y
          have HNX := Lib.hid (show (p ||| (x ^^^ y)) = 0 ↔ la.take (k + 1) = lb.take (k + 1) by rw [or_nil, hs, HP.out])
          generalize x ^^^ y = z at *
          have ho := b_or p z
          generalize p ||| z = q at *
          clear hs
          go_wp2
          go_round
          case rel => exact ⟨k + 1, q, by omega, by go_num, rfl, HNX⟩
          case measure => simp [intOf]; omega
        · have hkn : k = n := by omega
          subst hkn
          have HQ := Lib.hid (show decide (la = lb) = ((p.toNat : Int) == 0) by
            rw [Bool.eq_iff_iff]
            simp only [decide_eq_true_eq, beq_iff_eq]
            rw [← HE.out, ← HP.out, ← UInt8.toNat_inj]
            show p.toNat = 0 ↔ _
            omega)
          have HQ2 := Lib.hid (show R = ((p.toNat : Int) == 0) by rw [HR.out, HQ.out])
          clear HQ
          go_wp2
          go_ret
          exact ⟨by rw [HQ2.out]; rfl, rfl⟩
  · have e : ¬ la = lb := fun h => hnm (by rw [hn, hm, h])
    rw [show decide (la = lb) = false by simpa using e, ← hn, ← hm]
    have hni : ¬ (n : Int) = (m : Int) := by omega
    clear e ha hb hn hm
    go_enter Tryd.func27, Tryd.ntmps27
    go_wp2
    go_ret
    exact ⟨rfl, rfl⟩
theorem macSame_sl (v1 v2 : Value) (la lb : List UInt8) (w : World) (ha : Sl w v1 la) (hb : Sl w v2 lb) (hla : la.length ≤ 1000000) (hlb : lb.length ≤ 1000000) :
    Calls Tryd.prog 27 #[v1, v2] w fun e w' => e = .returned (.bool (decide (la = lb))) ∧ w = w' := by
  obtain ⟨A, ca, rfl, _, _, h1⟩ := ha
  obtain ⟨B, cb, rfl, _, _, h2⟩ := hb
  exact macSame_any A B la lb ca cb _ _ w h1 h2 hla hlb
end Go.Proofs.YtcfncbbdlbdbnaaDoor
