
/- The document's Had, right, Few. -/
import Derived.Test.YtcfncbbdlbdbnaaDoorPrH
import Derived.Deep.QuietTactic
import Derived.BigQuiet
namespace Go.Proofs.YtcfncbbdlbdbnaaDoor
open Go.RowKit

set_option maxRecDepth 100000 in
set_option maxHeartbeats 2000000 in
theorem rhad_any (i f : Bool) (A : Option Addr) (l : List Pr) (c : Nat) (K B : Option Addr) (k b : List UInt8) (kc bc : Nat) (w : World) (h1000 : l.length ≤ 1000) (hT : Tab w w.heap.size A l) (hk : Rd w w.heap.size K k) (hb : Rd w w.heap.size B b) :
    Calls Tryd.prog 18 #[.agg #[.bool i, .slice A l.length c, .bool f], .slice K k.length kc, .slice B b.length bc] w fun e w' => e = .returned (.bool (decide ((k, b) ∈ l))) ∧ Below w.heap.size w w' := by
  obtain ⟨n, hn⟩ : ∃ n, n = l.length := ⟨_, rfl⟩
  have HN := Lib.hid hn
  rw [← hn]
  rw [← hn] at h1000
  obtain ⟨R, hR⟩ : ∃ R, R = decide ((k, b) ∈ l) := ⟨_, rfl⟩
  have HR := Lib.hid hR
  rw [← hR]
  obtain ⟨V, hV⟩ : ∃ V, V = w.alloc (.cells #[.bool i, .slice A n c, .bool f] 24) := ⟨_, rfl⟩
  have q1 := heap_alloc_new w (.cells #[.bool i, .slice A n c, .bool f] 24)
  have q2 := (Below.refl w.heap.size w).alloc (Nat.le_refl _) (.cells #[.bool i, .slice A n c, .bool f] 24)
  rw [← hV] at q1 q2
  obtain ⟨e0, e1, e2⟩ := cells3 q1
  have HB := Lib.hid q2
  have HT := Lib.hid ((hT.below q2 (Nat.le_refl _)).more q2.size)
  have HK := Lib.hid ((hk.below q2 (Nat.le_refl _)).more q2.size)
  have HBb := Lib.hid ((hb.below q2 (Nat.le_refl _)).more q2.size)
  have HV := Lib.hid hV
  clear q1 q2 hT hk hb hn hR hV
  go_enter Tryd.func18, Tryd.ntmps18
  go_wp2
  rw [← HV.out]
  clear HV
  go_loop [7] (fun v => ∃ j : Nat, j ≤ n ∧ v = .int .i64 j ∧ Hid (∀ x ∈ l.take j, x ≠ (k, b))) (fun v => n - (intOf v).toNat)
  case atStart => exact ⟨0, by omega, rfl, Lib.hid (by simp)⟩
  case round =>
    obtain ⟨j, hj, rfl, HP⟩ := hrel
    by_cases hlt : j < n
    · have hj1 : j < l.length := by have := HN.out; omega
      obtain ⟨b1, o1, rfl, hb1, hrow1⟩ := HT.out (by omega)
      obtain ⟨A1, c1, A2, c2, f1, f2, r1, r2, r3, r4, r5, r6⟩ := hrow1 j hj1
      have CK := Lib.hid (same_any A1 K l[j].1 k c1 kc _ _ V r5 HK.out)
      have CB := Lib.hid (same_any A2 B l[j].2 b c2 bc _ _ V r6 HBb.out)
      have HNE := Lib.hid (show ¬ l[j] = (k, b) → ∀ x ∈ l.take (j + 1), x ≠ (k, b) from fun hne => by
        rw [List.take_succ_eq_append_getElem hj1]
        intro x hx
        rcases List.mem_append.1 hx with h | h
        · exact HP.out x h
        · simp only [List.mem_cons, List.not_mem_nil, or_false] at h
          rw [h]
          exact hne)
      have HIN := Lib.hid (show l[j] = (k, b) → R = true from fun he => by
        rw [HR.out]
        exact decide_eq_true (by rw [← he]; exact List.getElem_mem hj1))
      clear r1 r2 r3 r4 r5 r6 hrow1 HT HP
      obtain ⟨p, hp⟩ : ∃ p, p = l[j] := ⟨_, rfl⟩
      rw [← hp] at CK CB f1 f2 HNE HIN
      clear hp hj1
      obtain ⟨p1, p2⟩ := p
      simp only at CK CB f1 f2 HNE HIN
      generalize p1.length = n1 at *
      generalize p2.length = n2 at *
      generalize k.length = kn at *
      generalize b.length = bn at *
      have hji : (j : Int) < (n : Int) := by omega
      have hj0 : (0 : Int) ≤ (j : Int) := Int.natCast_nonneg _
      by_cases hpk : p1 = k
      · rw [decide_eq_true hpk] at CK
        by_cases hpb : p2 = b
        · have HX := Lib.hid (HIN.out (by rw [hpk, hpb]))
          rw [decide_eq_true hpb] at CB
          clear hpk hpb HIN HNE
          go_wp2_with fail
          refine CK.out.mono ?_
          rintro e w3 ⟨rfl, rfl⟩
          go_wp2_with fail
          refine CB.out.mono ?_
          rintro e w3 ⟨rfl, rfl⟩
          go_wp2_with fail
          go_ret
          exact ⟨by rw [HX.out]; rfl, HB.out⟩
        · have HX := Lib.hid (HNE.out (by intro h; exact hpb (Prod.mk.inj h).2))
          rw [decide_eq_false hpb] at CB
          clear hpk hpb HIN HNE
          go_wp2_with fail
          refine CK.out.mono ?_
          rintro e w3 ⟨rfl, rfl⟩
          go_wp2_with fail
          refine CB.out.mono ?_
          rintro e w3 ⟨rfl, rfl⟩
          go_wp2_with fail
          go_round
          case rel => exact ⟨j + 1, by omega, by go_num, HX⟩
          case measure => simp [intOf]; omega
      · have HX := Lib.hid (HNE.out (by intro h; exact hpk (Prod.mk.inj h).1))
        rw [decide_eq_false hpk] at CK
        clear hpk HIN HNE CB
        go_wp2_with fail
        refine CK.out.mono ?_
        rintro e w3 ⟨rfl, rfl⟩
        go_wp2_with fail
        go_round
        case rel => exact ⟨j + 1, by omega, by go_num, HX⟩
        case measure => simp [intOf]; omega
    · have hjn : j = n := by omega
      have HX := Lib.hid (show R = false from by
        rw [HR.out]
        have h := HP.out
        rw [hjn, HN.out, List.take_length] at h
        exact decide_eq_false (fun hm => h _ hm rfl))
      have hji : ¬ (j : Int) < (n : Int) := by omega
      clear HT hjn
      go_wp2
      go_ret
      exact ⟨by rw [HX.out]; rfl, HB.out⟩

set_option maxRecDepth 100000 in
set_option maxHeartbeats 1000000 in
theorem rright_any (K B : Option Addr) (k b : List UInt8) (kc bc : Nat) (w : World) (hkl : k.length ≤ 100000) (hbl : b.length ≤ 90000) (hkc : k.length ≤ kc) (hr : Rd w w.heap.size K k) (hs : Rd w w.heap.size B b) :
    Calls Tryd.prog 26 #[.slice K k.length kc, .slice B b.length bc] w fun e w' => AnsB w' e (cutF k b) 16 ∧ Below w.heap.size w w' := by
  have C := Lib.hid (show Calls Tryd.prog 32 #[.slice K k.length kc, .slice B b.length bc] w fun e w' => AnsB w' e (tagF k b) 32 ∧ Below w.heap.size w w' from (refTag_any K B k b kc bc w hkl hbl hkc hr hs).mono fun _ _ ⟨a, b⟩ => ⟨a.b (tagF_length _ _), b⟩)
  have HTL := Lib.hid (tagF_length k b)
  have HE := Lib.hid (show cutF k b = (tagF k b).take 16 from rfl)
  rw [HE.out]
  generalize tagF k b = T at *
  generalize k.length = n at *
  generalize b.length = m at *
  clear hr hs hkl hbl hkc
  go_enter Tryd.func26, Tryd.ntmps26
  go_wp2_with fail
  refine C.out.mono ?_
  rintro e w1 ⟨⟨A1, c1, rfl, h1, h2, h3⟩, hb1⟩
  have HR := Lib.hid (rd16 h3 (by rw [HTL.out]; omega))
  have HB := Lib.hid hb1
  have h1i : (16 : Int) ≤ (c1 : Int) := by omega
  clear h3 hb1 C
  go_wp2_with fail
  go_ret
  exact ⟨⟨A1, c1, rfl, by omega, h2, HR.out⟩, HB.out⟩

/-- few pairs, of few bytes -/
def FewL (l : List Pr) (most : Nat) : Prop := l.length ≤ most ∧ ∀ x ∈ l, x.1.length ≤ 100 ∧ x.2.length ≤ 2000
def FewIs (l : List Pr) (most : Nat) (e : Ending) : Prop := ∃ r : Bool, e = .returned (.bool r) ∧ (r = true → FewL l most)
theorem FewIs.no {l : List Pr} {most : Nat} : FewIs l most (.returned (.bool false)) := ⟨false, rfl, fun h => by cases h⟩

set_option maxRecDepth 100000 in
set_option maxHeartbeats 2000000 in
theorem few_any (i f : Bool) (A : Option Addr) (l : List Pr) (c : Nat) (w : World) (hc : l.length ≤ c) (hcm : c ≤ 9223372036854775807) (hT : Tab w w.heap.size A l) :
    Calls Tryd.prog 10 #[.agg #[.bool i, .slice A l.length c, .bool f], .int .i64 20] w fun e w' => FewIs l 20 e ∧ Below w.heap.size w w' := by
  obtain ⟨n, hn⟩ : ∃ n, n = l.length := ⟨_, rfl⟩
  have HN := Lib.hid hn
  rw [← hn]
  have hnm : n ≤ 9223372036854775807 := by omega
  obtain ⟨V, hV⟩ : ∃ V, V = w.alloc (.cells #[.bool i, .slice A n c, .bool f] 24) := ⟨_, rfl⟩
  have q1 := heap_alloc_new w (.cells #[.bool i, .slice A n c, .bool f] 24)
  have q2 := (Below.refl w.heap.size w).alloc (Nat.le_refl _) (.cells #[.bool i, .slice A n c, .bool f] 24)
  rw [← hV] at q1 q2
  obtain ⟨e0, e1, e2⟩ := cells3 q1
  have HB := Lib.hid q2
  have HT := Lib.hid ((hT.below q2 (Nat.le_refl _)).more q2.size)
  have HV := Lib.hid hV
  clear q1 q2 hT hn hV hc hcm
  by_cases hbig : 20 < n
  · have hbi : (20 : Int) < (n : Int) := by omega
    go_enter Tryd.func10, Tryd.ntmps10
    go_wp2
    rw [← HV.out]
    go_ret
    exact ⟨FewIs.no, HB.out⟩
  · have hbi : ¬ (20 : Int) < (n : Int) := by omega
    go_enter Tryd.func10, Tryd.ntmps10
    go_wp2
    rw [← HV.out]
    clear HV
    go_loop [5] (fun v => ∃ j : Nat, j ≤ n ∧ v = .int .i64 j ∧ Hid (∀ x ∈ l.take j, x.1.length ≤ 100 ∧ x.2.length ≤ 2000)) (fun v => n - (intOf v).toNat)
    case atStart => exact ⟨0, by omega, rfl, Lib.hid (by simp)⟩
    case round =>
      obtain ⟨j, hj, rfl, HP⟩ := hrel
      by_cases hlt : j < n
      · have hj1 : j < l.length := by have := HN.out; omega
        obtain ⟨b1, o1, rfl, hb1, hrow1⟩ := HT.out (by omega)
        obtain ⟨A1, c1, A2, c2, f1, f2, r1, r2, r3, r4, r5, r6⟩ := hrow1 j hj1
        have HNE := Lib.hid (show l[j].1.length ≤ 100 → l[j].2.length ≤ 2000 → ∀ x ∈ l.take (j + 1), x.1.length ≤ 100 ∧ x.2.length ≤ 2000 from fun h1 h2 => by
          rw [List.take_succ_eq_append_getElem hj1]
          intro x hx
          rcases List.mem_append.1 hx with h | h
          · exact HP.out x h
          · simp only [List.mem_cons, List.not_mem_nil, or_false] at h
            rw [h]
            exact ⟨h1, h2⟩)
        have hm1 : l[j].1.length ≤ 9223372036854775807 := by omega
        have hm2 : l[j].2.length ≤ 9223372036854775807 := by omega
        clear r1 r2 r3 r4 r5 r6 hrow1 HT HP
        generalize l[j].1.length = n1 at *
        generalize l[j].2.length = n2 at *
        clear hj1
        have hji : (j : Int) < (n : Int) := by omega
        have hj0 : (0 : Int) ≤ (j : Int) := Int.natCast_nonneg _
        by_cases h1 : 100 < n1
        · have i1 : (100 : Int) < (n1 : Int) := by omega
          go_wp2
          go_ret
          exact ⟨FewIs.no, HB.out⟩
        · have i1 : ¬ (100 : Int) < (n1 : Int) := by omega
          by_cases h2 : 2000 < n2
          · have i2 : (2000 : Int) < (n2 : Int) := by omega
            go_wp2
            go_ret
            exact ⟨FewIs.no, HB.out⟩
          · have i2 : ¬ (2000 : Int) < (n2 : Int) := by omega
            have HX := Lib.hid (HNE.out (by omega) (by omega))
            clear HNE
            go_wp2
            go_round
            case rel => exact ⟨j + 1, by omega, by go_num, HX⟩
            case measure => simp [intOf]; omega
      · have hjn : j = n := by omega
        have HX := Lib.hid (show FewL l 20 from by
          have h := HP.out
          rw [hjn, HN.out, List.take_length] at h
          exact ⟨by have := HN.out; omega, h⟩)
        have hji : ¬ (j : Int) < (n : Int) := by omega
        clear HT hjn
        go_wp2
        go_ret
        exact ⟨⟨true, rfl, fun _ => HX.out⟩, HB.out⟩
end Go.Proofs.YtcfncbbdlbdbnaaDoor
