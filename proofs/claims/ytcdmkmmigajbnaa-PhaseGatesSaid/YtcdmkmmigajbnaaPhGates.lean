
/- PhaseGates' walk. -/
import Derived.Test.YtcdmkmmigajbnaaJ07
namespace Go.Proofs.Ytcdmkmmigajbnaa
open Go.RowKit

set_option maxRecDepth 100000 in
set_option maxHeartbeats 4000000 in
theorem phaseGates_walk (A : Option Addr) (l : List Int) (c : Nat) (W : World) (_h1 : l.length ≤ c) (_h2 : c ≤ 9223372036854775807) (hz : I64s l) (hr : RdI W W.heap.size A l) (hT : Tph W) :
    Calls Try.prog 5 #[.slice A l.length c] W fun e W' => e = .returned (.bool true) ∧ Below W.heap.size W W' := by
  have HT := Lib.hid hT
  clear hT
  obtain ⟨n, hn⟩ : ∃ n, n = l.length := ⟨_, rfl⟩
  have HNL := Lib.hid hn
  have HZ := Lib.hid hz
  have HC := Lib.hid (fun (i : Nat) (h : i < l.length) w (hb : Below W.heap.size W w) => (show ∃ b o, A = some ⟨b, o, none⟩ ∧ w.cell? ⟨b, o + i, none⟩ = some (.int .i64 l[i]) from by
    obtain ⟨b, o, e, _h1, _h2⟩ := hr.at_ h
    exact ⟨b, o, e, (hb.cell (p := ⟨b, o + i, none⟩) _h1).trans _h2⟩))
  rw [← hn]
  clear hn hr hz _h1 _h2
  by_cases h60 : 60 < n
  · have h60i : (60 : Int) < (n : Int) := by omega
    have HB := Lib.hid (Below.refl W.heap.size W)
    go_enter Try.func5, Try.ntmps5
    go_wp2_with fail
    refine (shown14_any _ (HT.out.below HB.out)).mono ?_
    rintro e w1 ⟨rfl, hb⟩
    have nHB := Lib.hid (belG HB.out hb HB.out.size)
    clear hb
    clear HB 
    have HB := nHB
    clear nHB 
    go_wp2_with fail
    go_ret
    exact ⟨by first | rfl | (simp; done), HB.out⟩
  have h60i : ¬ (60 : Int) < (n : Int) := by omega
  have HB := Lib.hid (Below.refl W.heap.size W)
  go_enter Try.func5, Try.ntmps5
  go_wp2_with fail
  refine (shown14_any _ (HT.out.below HB.out)).mono ?_
  rintro e w1 ⟨rfl, hb⟩
  have nHB := Lib.hid (belG HB.out hb HB.out.size)
  clear hb
  clear HB 
  have HB := nHB
  clear nHB 
  go_wp2_with fail
  go_loopw [4, 5, 6] (fun v4 v5 v6 wr => ∃ (k : Nat) (P : Int) (C : Bool), k ≤ n ∧ v4 = .int .i64 P ∧ v5 = .bool C ∧ v6 = .int .i64 k ∧ Hid (GateI P C) ∧ Hid (Below W.heap.size W wr)) (fun _ _ v6 _ => n - (intOf v6).toNat)
  case atStart => exact ⟨0, 0, false, Nat.zero_le _, rfl, rfl, rfl, Lib.hid ⟨by decide, by decide, fun h => absurd h (by decide)⟩, HB⟩
  case round =>
  clear HB
  obtain ⟨k, P, C, hk, rfl, rfl, rfl, HI, HB⟩ := hrel
  by_cases hlt : k < n
  · have hkI : (k : Int) < (n : Int) := by omega
    have hk0 : (0 : Int) ≤ (k : Int) := by omega
    have hkl : k < l.length := by rw [← HNL.out]; exact hlt
    obtain ⟨cb, co, hA, hc0⟩ := HC.out k hkl wr HB.out
    obtain ⟨u, hu⟩ : ∃ v, v = l[k] := ⟨_, rfl⟩
    have hu64 : B64p u := by rw [hu]; exact HZ.out _ (List.getElem_mem hkl)
    have HCC := Lib.hid (fun w (hb : Below W.heap.size W w) => (show w.cell? ⟨cb, co + k, none⟩ = some (.int .i64 u) from by
      obtain ⟨b, o, e, _h2⟩ := HC.out k hkl w hb
      rw [hA] at e
      simp only [Option.some.injEq, Addr.mk.injEq] at e
      obtain ⟨rfl, rfl, -⟩ := e
      rw [hu]; exact _h2))
    have hP : B64p P := ⟨by have := HI.out.1; omega, by have := HI.out.2.1; omega⟩
    have EN := Lib.hid (fun w hT => pNext_any P u w hT hP hu64)
    have hstep := gate_step HI.out u
    obtain ⟨q, hq⟩ : ∃ q, q = (nextP P u).1 := ⟨_, rfl⟩
    obtain ⟨is, his⟩ : ∃ q, q = (nextP P u).2 := ⟨_, rfl⟩
    have HNO := Lib.hid (show is = false → q = P from fun h => by rw [hq]; exact next_no (his.symm.trans h))
    rw [← hq, ← his] at EN hstep
    have HQ := Lib.hid (show 0 ≤ q ∧ q ≤ 8 from ⟨hstep.1, hstep.2.1⟩)
    have HGC := Lib.hid hstep.2.2
    have EG := Lib.hid (fun w hT => pGate_any q w hT ⟨by have := HQ.out; omega, by have := HQ.out; omega⟩)
    have EL := Lib.hid (fun w hT => pLinked_any q w hT ⟨by have := HQ.out; omega, by have := HQ.out; omega⟩)
    have HGL := Lib.hid (show gateP q = true → linkedP q = true from gate_linked)
    have HSTEP := Lib.hid hstep
    have q0 : ¬ q < 0 := by have := HQ.out; omega
    have q8 : ¬ 8 < q := by have := HQ.out; omega
    obtain ⟨g, hg⟩ : ∃ g, g = gateP q := ⟨_, rfl⟩
    obtain ⟨lk, hlk⟩ : ∃ g, g = linkedP q := ⟨_, rfl⟩
    rw [← hg] at EG HGC HGL
    rw [← hlk] at EL HGL
    subst hA
    clear hc0 hu hP hu64 hq his hg hlk hstep hkl HC HQ
    have hcc := HCC.out wr HB.out
    go_wp2_with fail
    refine (EN.out _ (HT.out.below HB.out)).mono ?_
    rintro e w2 ⟨rfl, hb⟩
    have nHB := Lib.hid (belG HB.out hb HB.out.size)
    clear hb
    clear HB 
    have HB := nHB
    clear nHB 
    clear hcc
    have hcc := HCC.out w2 HB.out
    clear HCC
    cases is with
    | false =>
      obtain rfl := HNO.out rfl
      have qq : (q != q) = false := by simp
      rw [if_neg (by decide)] at HGC HSTEP
      go_wp2_with fail
      refine (EG.out _ (HT.out.below HB.out)).mono ?_
      rintro e w3 ⟨rfl, hb⟩
      have nHB := Lib.hid (belG HB.out hb HB.out.size)
      clear hb
      clear HB 
      have HB := nHB
      clear nHB 
      cases g with
      | false =>
        go_wp2_with fail
        go_roundw
        case rel => exact ⟨k + 1, q, C, by omega, rfl, rfl, by go_num, HSTEP, HB⟩
        case measure => simp [intOf]; omega
      | true =>
        obtain rfl : C = true := HGC.out rfl
        obtain rfl : lk = true := HGL.out rfl
        go_wp2_with fail
        refine (EL.out _ (HT.out.below HB.out)).mono ?_
        rintro e w4 ⟨rfl, hb⟩
        have nHB := Lib.hid (belG HB.out hb HB.out.size)
        clear hb
        clear HB 
        have HB := nHB
        clear nHB 
        go_wp2_with fail
        go_roundw
        case rel => exact ⟨k + 1, q, true, by omega, rfl, rfl, by go_num, HSTEP, HB⟩
        case measure => simp [intOf]; omega
    | true =>
      rw [if_pos rfl] at HGC HSTEP
      clear HNO
      by_cases _h1 : u = 1
      · subst _h1
        rw [show cameP C 1 = true from rfl] at HGC HSTEP
        go_wp2_with fail
        refine (EG.out _ (HT.out.below HB.out)).mono ?_
        rintro e w3 ⟨rfl, hb⟩
        have nHB := Lib.hid (belG HB.out hb HB.out.size)
        clear hb
        clear HB 
        have HB := nHB
        clear nHB 
        cases g with
        | false =>
          go_wp2_with fail
          go_roundw
          case rel => exact ⟨k + 1, q, true, by omega, rfl, rfl, by go_num, HSTEP, HB⟩
          case measure => simp [intOf]; omega
        | true =>
          obtain rfl : lk = true := HGL.out rfl
          go_wp2_with fail
          refine (EL.out _ (HT.out.below HB.out)).mono ?_
          rintro e w4 ⟨rfl, hb⟩
          have nHB := Lib.hid (belG HB.out hb HB.out.size)
          clear hb
          clear HB 
          have HB := nHB
          clear nHB 
          go_wp2_with fail
          go_roundw
          case rel => exact ⟨k + 1, q, true, by omega, rfl, rfl, by go_num, HSTEP, HB⟩
          case measure => simp [intOf]; omega
      by_cases h3 : u = 3
      · subst h3
        rw [show cameP C 3 = true from rfl] at HGC HSTEP
        go_wp2_with fail
        refine (EG.out _ (HT.out.below HB.out)).mono ?_
        rintro e w3 ⟨rfl, hb⟩
        have nHB := Lib.hid (belG HB.out hb HB.out.size)
        clear hb
        clear HB 
        have HB := nHB
        clear nHB 
        cases g with
        | false =>
          go_wp2_with fail
          go_roundw
          case rel => exact ⟨k + 1, q, true, by omega, rfl, rfl, by go_num, HSTEP, HB⟩
          case measure => simp [intOf]; omega
        | true =>
          obtain rfl : lk = true := HGL.out rfl
          go_wp2_with fail
          refine (EL.out _ (HT.out.below HB.out)).mono ?_
          rintro e w4 ⟨rfl, hb⟩
          have nHB := Lib.hid (belG HB.out hb HB.out.size)
          clear hb
          clear HB 
          have HB := nHB
          clear nHB 
          go_wp2_with fail
          go_roundw
          case rel => exact ⟨k + 1, q, true, by omega, rfl, rfl, by go_num, HSTEP, HB⟩
          case measure => simp [intOf]; omega
      by_cases h0 : u = 0
      · subst h0
        rw [show cameP C 0 = false from rfl] at HGC HSTEP
        go_wp2_with fail
        refine (EG.out _ (HT.out.below HB.out)).mono ?_
        rintro e w3 ⟨rfl, hb⟩
        have nHB := Lib.hid (belG HB.out hb HB.out.size)
        clear hb
        clear HB 
        have HB := nHB
        clear nHB 
        cases g with
        | false =>
          go_wp2_with fail
          go_roundw
          case rel => exact ⟨k + 1, q, false, by omega, rfl, rfl, by go_num, HSTEP, HB⟩
          case measure => simp [intOf]; omega
        | true =>
          exact absurd (HGC.out rfl) (by decide)
      by_cases _h2 : u = 2
      · subst _h2
        rw [show cameP C 2 = false from rfl] at HGC HSTEP
        go_wp2_with fail
        refine (EG.out _ (HT.out.below HB.out)).mono ?_
        rintro e w3 ⟨rfl, hb⟩
        have nHB := Lib.hid (belG HB.out hb HB.out.size)
        clear hb
        clear HB 
        have HB := nHB
        clear nHB 
        cases g with
        | false =>
          go_wp2_with fail
          go_roundw
          case rel => exact ⟨k + 1, q, false, by omega, rfl, rfl, by go_num, HSTEP, HB⟩
          case measure => simp [intOf]; omega
        | true =>
          exact absurd (HGC.out rfl) (by decide)
      by_cases h10 : u = 10
      · subst h10
        rw [show cameP C 10 = false from rfl] at HGC HSTEP
        go_wp2_with fail
        refine (EG.out _ (HT.out.below HB.out)).mono ?_
        rintro e w3 ⟨rfl, hb⟩
        have nHB := Lib.hid (belG HB.out hb HB.out.size)
        clear hb
        clear HB 
        have HB := nHB
        clear nHB 
        cases g with
        | false =>
          go_wp2_with fail
          go_roundw
          case rel => exact ⟨k + 1, q, false, by omega, rfl, rfl, by go_num, HSTEP, HB⟩
          case measure => simp [intOf]; omega
        | true =>
          exact absurd (HGC.out rfl) (by decide)
      by_cases h5 : u = 5
      · subst h5
        rw [show cameP C 5 = false from rfl] at HGC HSTEP
        go_wp2_with fail
        refine (EG.out _ (HT.out.below HB.out)).mono ?_
        rintro e w3 ⟨rfl, hb⟩
        have nHB := Lib.hid (belG HB.out hb HB.out.size)
        clear hb
        clear HB 
        have HB := nHB
        clear nHB 
        cases g with
        | false =>
          go_wp2_with fail
          go_roundw
          case rel => exact ⟨k + 1, q, false, by omega, rfl, rfl, by go_num, HSTEP, HB⟩
          case measure => simp [intOf]; omega
        | true =>
          exact absurd (HGC.out rfl) (by decide)
      by_cases h4 : u = 4
      · subst h4
        rw [show cameP C 4 = false from rfl] at HGC HSTEP
        go_wp2_with fail
        refine (EG.out _ (HT.out.below HB.out)).mono ?_
        rintro e w3 ⟨rfl, hb⟩
        have nHB := Lib.hid (belG HB.out hb HB.out.size)
        clear hb
        clear HB 
        have HB := nHB
        clear nHB 
        cases g with
        | false =>
          go_wp2_with fail
          go_roundw
          case rel => exact ⟨k + 1, q, false, by omega, rfl, rfl, by go_num, HSTEP, HB⟩
          case measure => simp [intOf]; omega
        | true =>
          exact absurd (HGC.out rfl) (by decide)
      rw [show cameP C u = C from by unfold cameP; rw [if_neg (by omega), if_neg (by omega)]] at HGC HSTEP
      have e1 : (u == 1) = false := beq_eq_false_iff_ne.2 _h1
      have e3 : (u == 3) = false := beq_eq_false_iff_ne.2 h3
      have e0 : (u == 0) = false := beq_eq_false_iff_ne.2 h0
      have e2 : (u == 2) = false := beq_eq_false_iff_ne.2 _h2
      have e10 : (u == 10) = false := beq_eq_false_iff_ne.2 h10
      have e5 : (u == 5) = false := beq_eq_false_iff_ne.2 h5
      have e4 : (u == 4) = false := beq_eq_false_iff_ne.2 h4
      clear _h1 h3 h0 _h2 h10 h5 h4
      go_wp2_with fail
      refine (EG.out _ (HT.out.below HB.out)).mono ?_
      rintro e w3 ⟨rfl, hb⟩
      have nHB := Lib.hid (belG HB.out hb HB.out.size)
      clear hb
      clear HB 
      have HB := nHB
      clear nHB 
      cases g with
      | false =>
        go_wp2_with fail
        go_roundw
        case rel => exact ⟨k + 1, q, C, by omega, rfl, rfl, by go_num, HSTEP, HB⟩
        case measure => simp [intOf]; omega
      | true =>
        obtain rfl : C = true := HGC.out rfl
        obtain rfl : lk = true := HGL.out rfl
        go_wp2_with fail
        refine (EL.out _ (HT.out.below HB.out)).mono ?_
        rintro e w4 ⟨rfl, hb⟩
        have nHB := Lib.hid (belG HB.out hb HB.out.size)
        clear hb
        clear HB 
        have HB := nHB
        clear nHB 
        go_wp2_with fail
        go_roundw
        case rel => exact ⟨k + 1, q, true, by omega, rfl, rfl, by go_num, HSTEP, HB⟩
        case measure => simp [intOf]; omega
  · have hkI : ¬ (k : Int) < (n : Int) := by omega
    go_wp2_with fail
    go_ret
    exact ⟨by first | rfl | (simp; done), HB.out⟩
end Go.Proofs.Ytcdmkmmigajbnaa
