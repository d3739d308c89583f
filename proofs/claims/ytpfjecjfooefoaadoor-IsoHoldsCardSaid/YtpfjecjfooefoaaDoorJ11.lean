
/- The document's answer: TakeBcd. -/
import Derived.Test.YtpfjecjfooefoaaDoorJ10
namespace Go.Proofs.YtpfjecjfooefoaaDoor
open Go.RowKit

set_option maxRecDepth 100000 in
theorem refTakeBcd_bad (A : Option Addr) (m c : Nat) (at_ n : Int) (W : World) (h : n < 0 ∨ 999 < n ∨ at_ < 0 ∨ m < at_) :
    Calls Tryd.prog 56 #[.slice A m c, .int .i64 at_, .int .i64 n] W fun e W' => e = .returned (.tuple #[.string ⟨#[]⟩, .int .i64 0, .int .i64 1]) ∧ W = W' := by
  by_cases h1 : n < 0
  · go_enter Tryd.func56, Tryd.ntmps56
    go_wp2
    go_ret3
    exact ⟨rfl, rfl⟩
  · by_cases h2 : 999 < n
    · go_enter Tryd.func56, Tryd.ntmps56
      go_wp2
      go_ret3
      exact ⟨rfl, rfl⟩
    · by_cases h3 : at_ < 0
      · go_enter Tryd.func56, Tryd.ntmps56
        go_wp2
        go_ret3
        exact ⟨rfl, rfl⟩
      · have h4 : m < at_ := by omega
        go_enter Tryd.func56, Tryd.ntmps56
        go_wp2
        go_ret3
        exact ⟨rfl, rfl⟩
set_option maxRecDepth 100000 in
theorem refTakeBcd_short (A : Option Addr) (m c p n : Nat) (W : World) (h2 : n ≤ 999) (hp : p ≤ m) (_hn : m ≤ 1000000) (h : m < p + (n + 1) / 2) :
    Calls Tryd.prog 56 #[.slice A m c, .int .i64 p, .int .i64 n] W fun e W' => e = .returned (.tuple #[.string ⟨#[]⟩, .int .i64 0, .int .i64 3]) ∧ W = W' := by
  go_enter Tryd.func56, Tryd.ntmps56
  go_wp2
  go_ret3
  exact ⟨rfl, rfl⟩

/-- the halves of bytes, as bytes -/
def nibs (l : List UInt8) : List UInt8 := l.flatMap fun b => [UInt8.ofNat (b.toNat / 16), UInt8.ofNat (b.toNat % 16)]
set_option maxRecDepth 100000 in
theorem nibs_length (l : List UInt8) : (nibs l).length = 2 * l.length := by
  induction l with
  | nil => rfl
  | cons a l ih => simp only [nibs, List.flatMap_cons, List.length_append, List.length_cons, List.length_nil] at ih ⊢; omega
set_option maxRecDepth 100000 in
theorem nibs_snoc (l : List UInt8) (c : UInt8) : nibs (l ++ [c]) = nibs l ++ [UInt8.ofNat (c.toNat / 16), UInt8.ofNat (c.toNat % 16)] := by simp [nibs]
set_option maxRecDepth 100000 in
theorem nibs_get (l : List UInt8) : ∀ (i : Nat) (h : i < (nibs l).length), ((nibs l)[i]).toNat = nib l i := by
  induction l with
  | nil => intro i h; simp [nibs] at h
  | cons a l ih =>
    intro i h
    have ha := a.toNat_lt
    have e : nibs (a :: l) = [UInt8.ofNat (a.toNat / 16), UInt8.ofNat (a.toNat % 16)] ++ nibs l := by simp [nibs]
    match i, h with
    | 0, h =>
      show (UInt8.ofNat (a.toNat / 16)).toNat = a.toNat / 16
      rw [UInt8.toNat_ofNat']; omega
    | 1, h =>
      show (UInt8.ofNat (a.toNat % 16)).toNat = a.toNat % 16
      rw [UInt8.toNat_ofNat']; omega
    | i + 2, h =>
      have hl : i < (nibs l).length := by rw [nibs_length] at h ⊢; simp only [List.length_cons] at h; omega
      have h2 : (nibs (a :: l))[i + 2] = (nibs l)[i] := by simp [e]
      rw [h2, ih i hl]
      unfold nib
      rw [show (i + 2) % 2 = i % 2 by omega, show (i + 2) / 2 = i / 2 + 1 by omega, List.getD_cons_succ]

/-- what the row holds behind k turned signs from d on -/
def rowT (part : List UInt8) (G : Nat → Value) (d k i : Nat) : Value :=
  if i < 2 * part.length then (if d ≤ i ∧ i < d + k then .int .u8 ((nib part i + 48 : Nat) : Int) else .int .u8 ((nib part i : Nat) : Int)) else G i
set_option maxRecDepth 100000 in
theorem rowT_step (part : List UInt8) (G : Nat → Value) (d k i : Nat) (hk : d + k < 2 * part.length) (v : Int) (hv : v = ((nib part (d + k) + 48 : Nat) : Int)) : (if i = d + k then Value.int .u8 v else rowT part G d k i) = rowT part G d (k + 1) i := by
  unfold rowT
  by_cases h : i = d + k
  · subst h
    rw [if_pos rfl, if_pos hk, if_pos (by omega), hv]
  · rw [if_neg h]
    by_cases h1 : i < 2 * part.length
    · rw [if_pos h1, if_pos h1]
      by_cases h2 : d ≤ i ∧ i < d + k
      · rw [if_pos h2, if_pos (by omega)]
      · rw [if_neg h2, if_neg (by omega)]
    · rw [if_neg h1, if_neg h1]
set_option maxRecDepth 100000 in
/-- an own row of halves, its content by the index -/
theorem own_rowT {w : World} {base : Nat} {v : Value} {part : List UInt8} (h : Ow w base v (nibs part)) (h0 : 0 < part.length) :
    ∃ g cap G, v = .slice (some ⟨g, 0, none⟩) (2 * part.length) cap ∧ base ≤ g ∧ 2 * part.length ≤ cap ∧ w.rowIs g 5 cap (rowT part G 0 0) := by
  have hnl := nibs_length part
  rcases h.2 with ⟨_, h1⟩ | ⟨g, cap, cur, rfl, hb, hg, hn, hcap, hsz, htake⟩
  · rw [hnl] at h1; omega
  · refine ⟨g, cap, fun i => cur.getD i undef, by rw [hnl], hb, by omega, cur, hg, by omega, fun i hi => ?_⟩
    unfold rowT
    by_cases h1 : i < 2 * part.length
    · rw [if_pos h1, if_neg (by omega)]
      have h2 := cs_get (nibs part) i (by omega)
      rw [← htake, List.getElem?_take, if_pos (by omega), nibs_get part i (by omega)] at h2
      simpa using h2
    · rw [if_neg h1]
      simp [Array.getD, show i < cur.size by omega]
set_option maxRecDepth 100000 in
/-- no half from d on is above 9, and none ahead of d but 0: then the answer is the figures -/
theorem tbOk_yes (part : List UInt8) (n : Nat) (hz : (n + 1) / 2 = part.length) (h1 : n % 2 = 1 → nib part 0 = 0) (h : ∀ j, j < 2 * part.length → n % 2 ≤ j → nib part j ≤ 9) : tbOk part n = true := by
  have hfig : allFig (hx part) = true := by
    unfold allFig
    rw [List.all_eq_true]
    intro c hc
    obtain ⟨i, hi, rfl⟩ := List.getElem_of_mem hc
    rw [hx_get, isFig_iff, sgn_nat _ (nib_lt part i)]
    rw [hx_length] at hi
    have hb : nib part i ≤ 9 := by
      by_cases h0 : n % 2 ≤ i
      · exact h i hi h0
      · have hi0 : i = 0 := by omega
        rw [hi0, h1 (by omega)]
        omega
    rw [if_pos (by omega)]
    omega
  unfold tbOk
  rw [hfig]
  rcases Nat.mod_two_eq_zero_or_one n with e | e
  · simp [e]
  · have h0 : 0 < (hx part).length := by rw [hx_length]; omega
    rw [getD_at _ _ h0, hx_get, h1 e]
    simp
    right
    rfl
set_option maxRecDepth 100000 in
theorem tbOk_no1 (part : List UInt8) (n : Nat) (hz : (n + 1) / 2 = part.length) (h1 : n % 2 = 1) (h : nib part 0 ≠ 0) : tbOk part n = false := by
  have h0 : 0 < (hx part).length := by rw [hx_length]; omega
  unfold tbOk
  rw [getD_at _ _ h0, hx_get, h1]
  have : ¬ sgn (nib part 0) = 48 := by
    intro e
    have e2 := sgn_nat _ (nib_lt part 0)
    rw [e] at e2
    have e3 : (48 : UInt8).toNat = 48 := rfl
    rw [e3] at e2
    split at e2 <;> omega
  simp [this]
set_option maxRecDepth 100000 in
theorem tbOk_no2 (part : List UInt8) (n j : Nat) (hj : j < 2 * part.length) (h : 9 < nib part j) : tbOk part n = false := by
  have hl : j < (hx part).length := by rw [hx_length]; exact hj
  unfold tbOk
  rw [all_not _ j hl]
  · rfl
  · rw [hx_get]
    have e := sgn_nat _ (nib_lt part j)
    rw [if_neg (by omega)] at e
    cases hf : isFig (sgn (nib part j)) with
    | false => rfl
    | true => have := (isFig_iff _).1 hf; omega
set_option maxRecDepth 100000 in
theorem hx_drop_get (part : List UInt8) (d j : Nat) (hj : j < ((hx part).drop d).length) (h9 : nib part (d + j) ≤ 9) : (((hx part).drop d)[j]).toNat = nib part (d + j) + 48 := by
  rw [List.getElem_drop, hx_get, sgn_nat _ (nib_lt part _), if_pos (by omega)]
  omega

set_option maxRecDepth 100000 in
set_option maxHeartbeats 2000000 in
theorem refTakeBcd_core (A : Option Addr) (m : Nat) (part : List UInt8) (c p n : Nat) (W : World) (h2 : n ≤ 999) (hm : m ≤ 1000000) (hz : (n + 1) / 2 = part.length) (h : p + part.length ≤ m)
    (hpc : 0 < part.length → ∃ b o, A = some ⟨b, o, none⟩ ∧ b < W.heap.size ∧ ∀ k (hk : k < part.length), W.cell? ⟨b, o + (p + k), none⟩ = some (.int .u8 (part[k].toNat : Int))) :
    Calls Tryd.prog 56 #[.slice A m c, .int .i64 p, .int .i64 n] W fun e W' => e = .returned (tbV part p n) ∧ Below W.heap.size W W' := by
  have e0 : ((n : Int) + 1) / 2 = (part.length : Int) := by omega
  have HZ := Lib.hid hz
  have d1 : decide ((n : Int) < 0) = false := decide_eq_false (by omega)
  have d2 : decide (999 < (n : Int)) = false := decide_eq_false (by omega)
  have d3 : decide ((p : Int) < 0) = false := decide_eq_false (by omega)
  have d4 : decide (m < p) = false := decide_eq_false (by omega)
  have d5 : decide ((m : Int) - (p : Int) < (part.length : Int)) = false := decide_eq_false (by omega)
  have HPC := Lib.hid hpc
  clear hz hpc
  go_enter Tryd.func56, Tryd.ntmps56
  go_wp2
  have E0 := Lib.hid e0
  clear e0
  go_loopw [10, 11] (fun v i wr => ∃ k : Nat, k ≤ part.length ∧ i = .int .i64 ((p : Int) + (k : Int)) ∧ Ow wr W.heap.size v (nibs (part.take k)) ∧ Below W.heap.size W wr) (fun _ i _ => p + part.length - (intOf i).toNat)
  case atStart => exact ⟨0, Nat.zero_le _, by simp, Ow.nil, Below.refl _ _⟩
  case round =>
    obtain ⟨k, hk, rfl, hown, hb⟩ := hrel
    by_cases hlt : k < part.length
    · obtain ⟨b, o, rfl, hbB, hcell⟩ := HPC.out (by omega)
      have hc' := (hb.cell (p := ⟨b, o + (p + k), none⟩) hbB).trans (hcell k hlt)
      have HW := Lib.hid hown
      have HB := Lib.hid hb
      have hnx : nibs (part.take k) ++ [UInt8.ofNat (part[k].toNat / 16), UInt8.ofNat (part[k].toNat % 16)] = nibs (part.take (k + 1)) := by rw [← nibs_snoc, ← take_snoc part k hlt]
      have HNX := Lib.hid hnx
      clear hown hb hnx hcell
      generalize part[k] = x at *
      have hx0 := x.toNat_lt
      obtain ⟨a1, ha1⟩ : ∃ a1 : UInt8, a1 = UInt8.ofNat (x.toNat / 16) := ⟨_, rfl⟩
      obtain ⟨a2, ha2⟩ : ∃ a2 : UInt8, a2 = UInt8.ofNat (x.toNat % 16) := ⟨_, rfl⟩
      rw [← ha1, ← ha2] at HNX
      have n1 : a1.toNat = x.toNat / 16 := by rw [ha1, UInt8.toNat_ofNat']; omega
      have n2 : a2.toNat = x.toNat % 16 := by rw [ha2, UInt8.toNat_ofNat']; omega
      have q3 : (x.toNat : Int) / 16 = (a1.toNat : Int) := by omega
      have q4 : (x.toNat : Int).tmod 16 = (a2.toNat : Int) := by rw [Int.tmod_eq_emod_of_nonneg (by omega)]; omega
      have q5 : (x.toNat : Int) % 16 = (a2.toNat : Int) := by omega
      have q1 : IntKind.u8.wrap (a1.toNat : Int) = (a1.toNat : Int) := by have := a1.toNat_lt; rw [IntKind.wrap_u8]; omega
      have q2 : IntKind.u8.wrap (a2.toNat : Int) = (a2.toNat : Int) := by have := a2.toNat_lt; rw [IntKind.wrap_u8]; omega
      have i1 : ((p : Int) + (k : Int)).toNat = p + k := by omega
      have i2 : (p : Int) + (k : Int) < (m : Int) := by omega
      have i3 : 0 ≤ (p : Int) + (k : Int) := by omega
      have i4 : (k : Int) < ((n : Int) + 1) / 2 := by have := E0.out; omega
      have hlen : (nibs (part.take k)).length ≤ 2000000 := by rw [nibs_length, List.length_take]; omega
      have hsz := HB.out.size
      clear hx0 ha1 ha2 n1 n2
      go_wp2
      go_region_law (refine step_app rfl _ (.tmp 46) (.tmp 57) rfl W.heap.size _ _ [a1, a2] rfl (by exact HW.out.alloc _) ⟨_, 0, none⟩ 2 _ rfl rfl (by exact news2 _ _ _) (by simp only [List.length_cons, List.length_nil]; omega) (by exact le_alloc hsz _) ?_; intro v2 w2 hown2 hgrow2)
      all_goals
        have HB2 := Lib.hid (Ow.below (w0 := W) (by exact HW.out.alloc _) (by exact HB.out.drew.alloc hsz _) hgrow2 (by exact le_alloc hsz _))
        rw [HNX.out] at hown2
        have HW2 := Lib.hid hown2
        clear hgrow2 hown2 q1 q2 q3 q4 q5 i1
        go_wp2
        go_roundw
        case rel => exact ⟨k + 1, by omega, by go_num, HW2.out, HB2.out⟩
        case measure => simp [intOf]; omega
    · have hkz : k = part.length := by omega
      rw [hkz, List.take_length] at hown
      have i4 : ¬ (k : Int) < ((n : Int) + 1) / 2 := by have := E0.out; omega
      have hnl := nibs_length part
      have HO := Lib.hid hown
      have HB := Lib.hid hb
      clear hown hb hnl
      rcases Nat.eq_zero_or_pos part.length with hz0 | hz0
      · have hp0 : part = [] := List.eq_nil_of_length_eq_zero hz0
        have hn0 : n = 0 := by have := HZ.out; omega
        subst hp0
        subst hn0
        obtain ⟨A', c', hv, _, _, hr'⟩ := HO.out.sl
        have hst := run_str (P := Tryd.prog) hr' c' _ _ _ Tryd.underlying27 Tryd.underlying5 Tryd.underlying9
        have hV : tbV [] p 0 = .tuple #[.string ⟨#[]⟩, .int .i64 ((p : Int) + 0), .int .i64 0] := by rfl
        have HV := Lib.hid hV
        rw [show (nibs []).length = 0 from rfl] at hv hst
        rw [show (⟨(nibs []).toArray⟩ : ByteArray) = ⟨#[]⟩ from rfl] at hst
        rw [hv]
        clear hv hV hr'
        go_wp2_with fail
        refine wp_loop_rounds 1 ?_
        rw [rounds_succ]
        go_wp2
        go_ret3
        exact ⟨by rw [HV.out]; rfl, HB.out⟩
      · obtain ⟨g, cap, G, hv, hgb, hcap, hrow⟩ := own_rowT HO.out hz0
        have HR := Lib.hid hrow
        rw [hv]
        clear hv HO
        rcases Nat.mod_two_eq_zero_or_one n with hpar | hpar
        · have hpI : (n : Int) % 2 = 0 := by omega
          have hpar := Lib.hid hpar
          clear hrow
          go_wp2
          clear hpI
          go_loopw [12] (fun i wx => ∃ k : Nat, 0 + k ≤ 2 * part.length ∧ i = .int .i64 (k : Int) ∧ wx.rowIs g 5 cap (rowT part G 0 k) ∧ Below W.heap.size W wx ∧ Hid (∀ j, j < k → nib part (0 + j) ≤ 9)) (fun i _ => 2 * part.length - (intOf i).toNat)
          case atStart => exact ⟨0, by omega, rfl, HR.out, HB.out, Lib.hid (fun j hj => absurd hj (by omega))⟩
          case round =>
            obtain ⟨k, hk, rfl, hrow, hbel, hall⟩ := hrel
            by_cases hlt : 0 + k < 2 * part.length
            · have hc := hrow.cell (i := 0 + k) (by omega)
              have hf := hrow.frozen (0 + k)
              have e1 : rowT part G 0 k (0 + k) = .int .u8 ((nib part (0 + k) : Nat) : Int) := by unfold rowT; rw [if_pos hlt, if_neg (by omega)]
              rw [e1] at hc
              have hN := nib_lt part (0 + k)
              have HR2 := Lib.hid hrow
              have HB2 := Lib.hid hbel
              by_cases h9 : nib part (0 + k) ≤ 9
              · have h9' : (nib part (0 + k) : Int) ≤ 9 := by omega
                have hstep := fun i v hv => rowT_step part G 0 k i hlt v hv
                have HS := Lib.hid hstep
                have H9 := Lib.hid h9
                clear hrow hbel e1 hstep h9
                generalize hNn : nib part (0 + k) = Nn at *
                have HNn := Lib.hid hNn
                clear hNn
                simp only [Nat.zero_add] at hc hf
                go_wp2
                go_roundw
                case rel =>
                  have hh := (HR2.out.set (0 + k) (Value.int IntKind.u8 ((Nn : Int) + 48))).congr (fun i hi => HS.out i _ (by omega))
                  simp only [Nat.zero_add] at hh
                  refine ⟨k + 1, by omega, by go_num, hh, HB2.out.setCell (by exact hgb) _, Lib.hid (fun j hj => ?_)⟩
                  by_cases hjk : j = k
                  · subst hjk; rw [HNn.out]; exact H9.out
                  · exact hall.out j (by omega)
                case measure => simp [intOf]; omega
              · have h9' : 9 < (nib part (0 + k) : Int) := by omega
                have hno := tbOk_no2 part n (0 + k) hlt (by omega)
                have hV : tbV part p n = .tuple #[.string ⟨#[]⟩, .int .i64 0, .int .i64 2] := by unfold tbV; rw [if_neg (by rw [hno]; simp)]
                have HV := Lib.hid hV
                clear hrow hbel e1 hno hV h9
                generalize nib part (0 + k) = Nn at *
                simp only [Nat.zero_add] at hc hf
                go_wp2
                go_ret3
                exact ⟨by rw [HV.out]; rfl, HB2.out⟩
            · have hk2 : 0 + k = 2 * part.length := by omega
              have hok := tbOk_yes part n HZ.out (fun h => absurd h (by have := hpar.out; omega)) (fun j hj hj2 => by
                have h3 := hall.out (j - 0) (by omega)
                rwa [show 0 + (j - 0) = j by omega] at h3)
              have hV : tbV part p n = .tuple #[.string ⟨((hx part).drop 0).toArray⟩, .int .i64 ((p : Int) + part.length), .int .i64 0] := by unfold tbV; rw [if_pos hok, hpar.out]
              have hLl : ((hx part).drop 0).length = 2 * part.length - 0 := by rw [List.length_drop, hx_length]
              have hRd : Rd wr (g + 1) (some ⟨g, 0, none⟩) ((hx part).drop 0) := fun _ => ⟨g, 0, rfl, by omega, fun j hj => by
                rw [hrow.cell (by omega)]
                unfold rowT
                rw [if_pos (by omega), if_pos (by omega), hx_drop_get part 0 j hj (hall.out j (by omega))]⟩
              have hst := run_str (P := Tryd.prog) hRd cap _ _ _ Tryd.underlying27 Tryd.underlying5 Tryd.underlying9
              rw [hLl] at hst
              simp only [Nat.sub_zero, List.drop_zero] at hst
              have HV := Lib.hid hV
              have HB2 := Lib.hid hbel
              have HE := Lib.hid E0.out
              clear hrow hbel hok hV hLl hRd hall
              have e2 : (p : Int) + ((n : Int) + 1) / 2 = (p : Int) + part.length := by have := E0.out; omega
              go_wp2
              go_ret3
              exact ⟨by rw [HV.out, List.drop_zero]; rfl, HB2.out⟩
        · have hpI : (n : Int) % 2 = 1 := by omega
          have hc0 := hrow.cell (i := 0) (by omega)
          rw [show rowT part G 0 0 0 = .int .u8 ((nib part 0 : Nat) : Int) by unfold rowT; rw [if_pos (by omega), if_neg (by omega)]] at hc0
          have hlI : (0 : Int) < 2 * (part.length : Int) := by omega
          have hlN : 0 < 2 * part.length := by omega
          by_cases h0n : nib part 0 = 0
          · rw [h0n] at hc0
            have h0n := Lib.hid h0n
            have hpar := Lib.hid hpar
            have hcap1 : ¬ cap = 1 := by omega
            have hcap2 : 1 ≤ 2 * part.length := by omega
            clear hrow
            go_wp2
            clear hpI
            go_loopw [12] (fun i wx => ∃ k : Nat, 1 + k ≤ 2 * part.length ∧ i = .int .i64 (k : Int) ∧ wx.rowIs g 5 cap (rowT part G 1 k) ∧ Below W.heap.size W wx ∧ Hid (∀ j, j < k → nib part (1 + j) ≤ 9)) (fun i _ => 2 * part.length - (intOf i).toNat)
            case atStart => exact ⟨0, by omega, rfl, (HR.out.congr (fun i _ => by unfold rowT; by_cases h1 : i < 2 * part.length <;> simp only [h1, if_true, if_false]; rw [if_neg (by omega), if_neg (by omega)])), HB.out, Lib.hid (fun j hj => absurd hj (by omega))⟩
            case round =>
              obtain ⟨k, hk, rfl, hrow, hbel, hall⟩ := hrel
              by_cases hlt : 1 + k < 2 * part.length
              · have hc := hrow.cell (i := 1 + k) (by omega)
                have hf := hrow.frozen (1 + k)
                have e1 : rowT part G 1 k (1 + k) = .int .u8 ((nib part (1 + k) : Nat) : Int) := by unfold rowT; rw [if_pos hlt, if_neg (by omega)]
                rw [e1] at hc
                have hN := nib_lt part (1 + k)
                have HR2 := Lib.hid hrow
                have HB2 := Lib.hid hbel
                by_cases h9 : nib part (1 + k) ≤ 9
                · have h9' : (nib part (1 + k) : Int) ≤ 9 := by omega
                  have hstep := fun i v hv => rowT_step part G 1 k i hlt v hv
                  have HS := Lib.hid hstep
                  have H9 := Lib.hid h9
                  clear hrow hbel e1 hstep h9
                  generalize hNn : nib part (1 + k) = Nn at *
                  have HNn := Lib.hid hNn
                  clear hNn
                  skip
                  go_wp2
                  go_roundw
                  case rel =>
                    have hh := (HR2.out.set (1 + k) (Value.int IntKind.u8 ((Nn : Int) + 48))).congr (fun i hi => HS.out i _ (by omega))
                    skip
                    refine ⟨k + 1, by omega, by go_num, hh, HB2.out.setCell (by exact hgb) _, Lib.hid (fun j hj => ?_)⟩
                    by_cases hjk : j = k
                    · subst hjk; rw [HNn.out]; exact H9.out
                    · exact hall.out j (by omega)
                  case measure => simp [intOf]; omega
                · have h9' : 9 < (nib part (1 + k) : Int) := by omega
                  have hno := tbOk_no2 part n (1 + k) hlt (by omega)
                  have hV : tbV part p n = .tuple #[.string ⟨#[]⟩, .int .i64 0, .int .i64 2] := by unfold tbV; rw [if_neg (by rw [hno]; simp)]
                  have HV := Lib.hid hV
                  clear hrow hbel e1 hno hV h9
                  generalize nib part (1 + k) = Nn at *
                  skip
                  go_wp2
                  go_ret3
                  exact ⟨by rw [HV.out]; rfl, HB2.out⟩
              · have hk2 : 1 + k = 2 * part.length := by omega
                have hok := tbOk_yes part n HZ.out (fun _ => h0n.out) (fun j hj hj2 => by
                  have h3 := hall.out (j - 1) (by omega)
                  rwa [show 1 + (j - 1) = j by omega] at h3)
                have hV : tbV part p n = .tuple #[.string ⟨((hx part).drop 1).toArray⟩, .int .i64 ((p : Int) + part.length), .int .i64 0] := by unfold tbV; rw [if_pos hok, hpar.out]
                have hLl : ((hx part).drop 1).length = 2 * part.length - 1 := by rw [List.length_drop, hx_length]
                have hRd : Rd wr (g + 1) (some ⟨g, 1, none⟩) ((hx part).drop 1) := fun _ => ⟨g, 1, rfl, by omega, fun j hj => by
                  rw [hrow.cell (by omega)]
                  unfold rowT
                  rw [if_pos (by omega), if_pos (by omega), hx_drop_get part 1 j hj (hall.out j (by omega))]⟩
                have hst := run_str (P := Tryd.prog) hRd (cap - 1) _ _ _ Tryd.underlying27 Tryd.underlying5 Tryd.underlying9
                rw [hLl] at hst
                skip
                have HV := Lib.hid hV
                have HB2 := Lib.hid hbel
                have HE := Lib.hid E0.out
                clear hrow hbel hok hV hLl hRd hall
                have e2 : (p : Int) + ((n : Int) + 1) / 2 = (p : Int) + part.length := by have := E0.out; omega
                go_wp2
                go_ret3
                exact ⟨by rw [HV.out, List.drop_one]; rfl, HB2.out⟩
          · have hno := tbOk_no1 part n HZ.out hpar h0n
            have hV : tbV part p n = .tuple #[.string ⟨#[]⟩, .int .i64 0, .int .i64 2] := by unfold tbV; rw [if_neg (by rw [hno]; simp)]
            have HV := Lib.hid hV
            have hne : (((nib part 0 : Nat) : Int) != 0) = true := by simp; omega
            clear hno hV hrow
            generalize nib part 0 = Nn at *
            go_wp2
            go_ret3
            exact ⟨by rw [HV.out]; rfl, HB.out⟩

set_option maxRecDepth 100000 in
theorem refTakeBcd_all (A : Option Addr) (l : List UInt8) (c : Nat) (at_ n : Int) (W : World) (hl : l.length ≤ 1000000) (_hc : l.length ≤ c) (hr : Rd W W.heap.size A l) :
    Calls Tryd.prog 56 #[.slice A l.length c, .int .i64 at_, .int .i64 n] W fun e W' => e = .returned (.tuple #[.string ⟨(tbS l at_ n).1.toArray⟩, .int .i64 (tbS l at_ n).2.1, .int .i64 (tbS l at_ n).2.2]) ∧ Below W.heap.size W W' := by
  unfold tbS
  by_cases h : n < 0 ∨ 999 < n ∨ at_ < 0 ∨ (l.length : Int) < at_
  · rw [if_pos h]
    exact (refTakeBcd_bad A l.length c at_ n W h).mono fun e W' h' => ⟨h'.1, h'.2 ▸ Below.refl _ _⟩
  · rw [if_neg h]
    obtain ⟨n, rfl⟩ := Int.eq_ofNat_of_zero_le (show 0 ≤ n by omega)
    obtain ⟨p, rfl⟩ := Int.eq_ofNat_of_zero_le (show 0 ≤ at_ by omega)
    simp only [Int.toNat_natCast]
    by_cases h2 : l.length < p + (n + 1) / 2
    · rw [if_pos h2]
      exact (refTakeBcd_short A l.length c p n W (by omega) (by omega) hl h2).mono fun e W' h' => ⟨h'.1, h'.2 ▸ Below.refl _ _⟩
    · rw [if_neg h2]
      have hlen : ((l.drop p).take ((n + 1) / 2)).length = (n + 1) / 2 := by rw [List.length_take, List.length_drop]; omega
      refine (refTakeBcd_core A l.length ((l.drop p).take ((n + 1) / 2)) c p n W (by omega) hl hlen.symm (by rw [hlen]; omega) (fun h0 => ?_)).mono fun e W' h' => ⟨h'.1.trans ?_, h'.2⟩
      · obtain ⟨b, o, e, hb, hcell⟩ := hr (by rw [hlen] at h0; omega)
        refine ⟨b, o, e, hb, fun k hk => ?_⟩
        rw [hlen] at hk
        rw [hcell (p + k) (by omega)]
        simp
      · unfold tbV
        rw [hlen]
        split <;> rfl
end Go.Proofs.YtpfjecjfooefoaaDoor
/- Fields, plain: forms, values, a value's bytes, and the value at a place. -/

namespace Go.Proofs.YtpfjecjfooefoaaDoor
open Go.RowKit

/-- a kind, a length, and the fields that have both -/
def rowsF : List (Nat × Nat × List Int) :=
  [(1, 2, [25]), (1, 3, [22, 49, 70]), (1, 4, [13, 14, 18]), (1, 6, [3, 11, 12, 15]), (1, 10, [7]), (1, 12, [4]), (1, 16, [53]), (1, 42, [90]), (2, 19, [2]), (2, 11, [32, 100]), (3, 12, [37]), (3, 6, [38]), (3, 2, [39]), (3, 8, [41]), (3, 15, [42]), (3, 42, [95]), (4, 37, [35]), (4, 28, [102]), (5, 400, [48]), (5, 120, [54]), (6, 8, [52, 64, 96, 128]), (7, 255, [55]), (7, 400, [127])]
def findF (no : Int) : List (Nat × Nat × List Int) → Nat × Nat
  | [] => (0, 0)
  | (k, n, l) :: r => if no ∈ l then (k, n) else findF no r
/-- a field's kind (0: there is none), and its length -/
def fk (no : Int) : Nat := (findF no rowsF).1
def fl (no : Int) : Nat := (findF no rowsF).2
set_option maxRecDepth 100000 in
theorem findF_in (no : Int) : ∀ r : List (Nat × Nat × List Int), findF no r = (0, 0) ∨ ∃ x ∈ r, findF no r = (x.1, x.2.1) ∧ no ∈ x.2.2
  | [] => .inl rfl
  | (k, n, l) :: r => by
    unfold findF
    by_cases h : no ∈ l
    · rw [if_pos h]
      exact .inr ⟨(k, n, l), List.mem_cons_self, rfl, h⟩
    · rw [if_neg h]
      rcases findF_in no r with h1 | ⟨x, hx, h2, h3⟩
      · exact .inl h1
      · exact .inr ⟨x, List.mem_cons_of_mem _ hx, h2, h3⟩
set_option maxRecDepth 100000 in
/-- what all forms have -/
theorem form_bd (no : Int) : fk no = 0 ∧ fl no = 0 ∨ (1 ≤ fk no ∧ fk no ≤ 7 ∧ 1 ≤ fl no ∧ fl no ≤ 400 ∧ (fk no = 2 ∨ fk no = 4 → fl no ≤ 37)) := by
  unfold fk fl
  rcases findF_in no rowsF with h | ⟨x, hx, h, -⟩
  · rw [h]; exact .inl ⟨rfl, rfl⟩
  · rw [h]
    right
    have hall : rowsF.all (fun x => decide (1 ≤ x.1 ∧ x.1 ≤ 7 ∧ 1 ≤ x.2.1 ∧ x.2.1 ≤ 400 ∧ (x.1 = 2 ∨ x.1 = 4 → x.2.1 ≤ 37))) = true := by decide
    exact of_decide_eq_true (List.all_eq_true.1 hall x hx)

/-- a sign of a value -/
def sgnF (k : Nat) (c : UInt8) : Bool := if k ≤ 2 then isFig c else if k ≤ 5 then decide (32 ≤ c.toNat) && decide (c.toNat ≤ 126) else true
def lenF (k n m : Nat) : Bool := if k = 1 ∨ k = 3 ∨ k = 6 then decide (m = n) else decide (1 ≤ m) && decide (m ≤ n)
/-- a value of a form -/
def fitF (k n : Nat) (v : List UInt8) : Bool := v.all (sgnF k) && lenF k n v.length
def fitsF (no : Int) (v : List UInt8) : Bool := fitF (fk no) (fl no) v
/-- how many figures tell how many there are -/
def cntF (k : Nat) : Nat := if k = 2 ∨ k = 4 then 2 else if k = 5 ∨ k = 7 then 3 else 0
def headF (k m : Nat) : List UInt8 := if 0 < cntF k then packL gFig (dgL 48 10 m (cntF k)) else []
def bodyF (k : Nat) (v : List UInt8) : List UInt8 := if k ≤ 2 then packL gFig v else v
def outF5 (k : Nat) (v : List UInt8) : List UInt8 := headF k v.length ++ bodyF k v
def writeL (no : Int) (v : List UInt8) : List UInt8 := if fitsF no v = true then outF5 (fk no) v else []
def writeE (no : Int) (v : List UInt8) : Int := if fk no = 0 then 12 else if fitsF no v = true then 0 else 1
def sizeF (k m : Nat) : Nat := if k ≤ 2 then (m + 1) / 2 else m
/-- m signs at the place q -/
def readB (k n : Nat) (b : List UInt8) (q m : Nat) : List UInt8 × Int × Int :=
  if b.length < q + sizeF k m then ([], 0, 3)
  else if k ≤ 2 then
    (if (tbS b q m).2.2 = 0 then (if fitF k n (tbS b q m).1 = true then ((tbS b q m).1, ((q + sizeF k m : Nat) : Int), 0) else ([], 0, 2)) else ([], 0, 2))
  else if fitF k n ((b.drop q).take m) = true then ((b.drop q).take m, ((q + sizeF k m : Nat) : Int), 0) else ([], 0, 2)
def readH (k n : Nat) (b : List UInt8) (q : Nat) : List UInt8 × Int × Int :=
  if 0 < cntF k then
    (if (tbS b q (cntF k : Nat)).2.2 = 0 then
      (if val (tbS b q (cntF k : Nat)).1 < 1 ∨ n < val (tbS b q (cntF k : Nat)).1 then ([], 0, 2)
       else readB k n b (q + (cntF k + 1) / 2) (val (tbS b q (cntF k : Nat)).1))
     else ([], 0, (tbS b q (cntF k : Nat)).2.2))
  else readB k n b q n
def readF (no : Int) (b : List UInt8) (at_ : Int) : List UInt8 × Int × Int :=
  if fk no = 0 then ([], 0, 12) else if at_ < 0 ∨ (b.length : Int) < at_ then ([], 0, 1) else readH (fk no) (fl no) b at_.toNat

set_option maxRecDepth 100000 in
theorem fits_none {no : Int} {v : List UInt8} (h : fk no = 0) : fitsF no v = false := by
  have hl : fl no = 0 := by rcases form_bd no with h1 | h1 <;> omega
  unfold fitsF fitF lenF
  rw [h, hl, if_neg (by omega)]
  have e : (decide (1 ≤ v.length) && decide (v.length ≤ 0)) = false := by
    by_cases h1 : 1 ≤ v.length
    · rw [decide_eq_false (show ¬ v.length ≤ 0 by omega), Bool.and_false]
    · rw [decide_eq_false h1, Bool.false_and]
  rw [e, Bool.and_false]
set_option maxRecDepth 100000 in
theorem fit_len {k n : Nat} {v : List UInt8} (h : fitF k n v = true) (hn : 1 ≤ n) : 1 ≤ v.length ∧ v.length ≤ n := by
  unfold fitF lenF at h
  rw [Bool.and_eq_true] at h
  obtain ⟨-, h⟩ := h
  split at h
  · have := of_decide_eq_true h; omega
  · rw [Bool.and_eq_true] at h
    exact ⟨of_decide_eq_true h.1, of_decide_eq_true h.2⟩
set_option maxRecDepth 100000 in
theorem fit_sgn {k n : Nat} {v : List UInt8} (h : fitF k n v = true) : v.all (sgnF k) = true := by
  unfold fitF at h
  rw [Bool.and_eq_true] at h
  exact h.1
set_option maxRecDepth 100000 in
theorem fit_fig {k n : Nat} {v : List UInt8} (h : fitF k n v = true) (hk : k ≤ 2) : allFig v = true := by
  have h1 := fit_sgn h
  unfold allFig
  rw [List.all_eq_true] at h1 ⊢
  intro c hc
  have h2 := h1 c hc
  unfold sgnF at h2
  rwa [if_pos hk] at h2
set_option maxRecDepth 100000 in
theorem fig_sgn {k : Nat} {v : List UInt8} (h : allFig v = true) (hk : k ≤ 2) : v.all (sgnF k) = true := by
  unfold allFig at h
  rw [List.all_eq_true] at h ⊢
  intro c hc
  unfold sgnF
  rw [if_pos hk]
  exact h c hc
set_option maxRecDepth 100000 in
theorem head_length (k m : Nat) : (headF k m).length = (cntF k + 1) / 2 := by
  unfold headF
  split
  · rw [packL_length]; simp [dgL]
  · have : cntF k = 0 := by omega
    rw [this]; rfl
set_option maxRecDepth 100000 in
theorem body_length (k : Nat) (v : List UInt8) : (bodyF k v).length = sizeF k v.length := by
  unfold bodyF sizeF
  split
  · rw [packL_length]
  · rfl
set_option maxRecDepth 100000 in
theorem out5_length (k : Nat) (v : List UInt8) : (outF5 k v).length = (cntF k + 1) / 2 + sizeF k v.length := by
  unfold outF5
  rw [List.length_append, head_length, body_length]
end Go.Proofs.YtpfjecjfooefoaaDoor
