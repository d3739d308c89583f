
/- The document's answer (bitmap): Read. -/
import Derived.Test.YtpfjecjfooefoaaDoorJ21
namespace Go.Proofs.YtpfjecjfooefoaaDoor
open Go.RowKit

/-- numbers, a place behind them, and an error -/
def AnsI3 (W' : World) (e : Ending) (l : List Int) (n : Nat) (i x : Int) : Prop := ∃ A c, e = .returned (.tuple #[.slice A n c, .int .i64 i, .int .i64 x]) ∧ n ≤ c ∧ c ≤ 9223372036854775807 ∧ RdI W' W'.heap.size A l
set_option maxRecDepth 100000 in
theorem AnsI3.none {W' : World} {x : Int} : AnsI3 W' (.returned (.tuple #[.slice none 0 0, .int .i64 0, .int .i64 x])) [] 0 0 x := ⟨_, _, rfl, Nat.le_refl _, by omega, RdI.nil⟩
set_option maxRecDepth 100000 in
theorem all_last {l : List Int} (h : l.Pairwise (· < ·)) (n : Nat) (hn : n + 1 = l.length) : (l.all fun x => decide (x ≤ 65)) = decide (l[n] ≤ 65) := by
  rw [Bool.eq_iff_iff, List.all_eq_true, decide_eq_true_iff]
  constructor
  · intro h1
    exact of_decide_eq_true (h1 _ (List.getElem_mem _))
  · intro h1 x hx
    obtain ⟨j, hj, rfl⟩ := List.getElem_of_mem hx
    apply decide_eq_true
    by_cases e : j = n
    · subst e; exact h1
    · rw [List.pairwise_iff_getElem] at h
      have := h j n hj (by omega) (by omega)
      omega
set_option maxRecDepth 100000 in
theorem outU_yes (c : List UInt8) (k : Nat) (h2 : 2 ≤ k) (h : hasF c k = true) : outU c (k + 1) = outU c k ++ [(k : Int)] := by
  show outU c k ++ _ = _
  rw [if_pos ⟨h2, h⟩]
set_option maxRecDepth 100000 in
theorem outU_no (c : List UInt8) (k : Nat) (h : hasF c k = false) : outU c (k + 1) = outU c k := by
  show outU c k ++ _ = _
  rw [if_neg (fun hh => by rw [h] at hh; exact absurd hh.2 (by decide)), List.append_nil]
set_option maxRecDepth 100000 in
theorem outU_2 (c : List UInt8) : outU c 2 = [] := by
  simp [outU]

set_option maxRecDepth 100000 in
set_option maxHeartbeats 4000000 in
theorem refReadB_any (A : Option Addr) (b : List UInt8) (c : Nat) (at_ : Int) (W : World) (hl : b.length ≤ 10000) (hc : b.length ≤ c) (hcm : c ≤ 9223372036854775807) (hr : Rd W W.heap.size A b) :
    Calls Tryd.prog 58 #[.slice A b.length c, .int .i64 at_] W fun e W' => AnsI3 W' e (readM b at_).1 (readM b at_).1.length (readM b at_).2.1 (readM b at_).2.2 ∧ Below W.heap.size W W' := by
  by_cases ha : at_ < 0 ∨ (b.length : Int) < at_
  · have he : readM b at_ = ([], 0, 1) := by unfold readM; rw [if_pos ha]
    rw [he]
    clear hr he
    generalize b.length = M at *
    by_cases h1 : at_ < 0
    · go_enter Tryd.func58, Tryd.ntmps58
      go_wp2
      go_ret3
      exact ⟨AnsI3.none, Below.refl _ _⟩
    · have h2 : (M : Int) < at_ := by omega
      clear ha
      go_enter Tryd.func58, Tryd.ntmps58
      go_wp2
      go_ret3
      exact ⟨AnsI3.none, Below.refl _ _⟩
  obtain ⟨p, rfl⟩ := Int.eq_ofNat_of_zero_le (show 0 ≤ at_ by omega)
  have hp : p ≤ b.length := by omega
  have d1 : ¬ (p : Int) < 0 := by omega
  have d2 : ¬ (b.length : Int) < (p : Int) := by omega
  have d3 : (p : Int) ≤ (c : Int) := by omega
  have d4 : (p : Int) ≤ (b.length : Int) := by omega
  have d5 : (0 : Int) ≤ (p : Int) := Int.natCast_nonneg _
  have HRM : readM b (p : Int) = readC (b.drop p) (p : Int) := by unfold readM; rw [if_neg ha]; rfl
  have hcut := fun (h : ¬ c = p) w (hb : Below W.heap.size W w) => ((hr.below hb (Nat.le_refl _)).more hb.size).cut p (b.length - p) c (by omega) hc
  have e9 : (b.drop p).take (b.length - p) = b.drop p := List.take_of_length_le (by rw [List.length_drop]; omega)
  rw [HRM]
  have hlen : (b.drop p).length = b.length - p := List.length_drop
  rw [e9] at hcut
  generalize b.drop p = C at *
  clear ha HRM e9 hr
  have e3 : (b.length : Int) - (p : Int) = ((b.length - p : Nat) : Int) := by omega
  obtain ⟨m, hm⟩ : ∃ m, m = b.length - p := ⟨_, rfl⟩
  rw [← hm] at hlen e3
  generalize b.length = M at *
  have HLEN := Lib.hid hlen
  by_cases h8 : m < 8
  · have he : readC C (p : Int) = ([], 0, 3) := by unfold readC; rw [if_pos (by omega)]
    rw [he]
    have i8 : (M : Int) - (p : Int) < 8 := by omega
    have i9 : (m : Int) < 8 := by omega
    have hmp : M - p = m := hm.symm
    clear hcut he hlen hm
    by_cases hcp : c = p
    · subst hcp
      go_enter Tryd.func58, Tryd.ntmps58
      go_wp2
      go_ret3
      exact ⟨AnsI3.none, Below.refl _ _⟩
    · go_enter Tryd.func58, Tryd.ntmps58
      go_wp2
      go_ret3
      exact ⟨AnsI3.none, Below.refl _ _⟩
  have hcp : ¬ c = p := by omega
  have RC := Lib.hid (fun w (hb : Below W.heap.size W w) => (show Rd w w.heap.size (A.map (fun x => x.add p)) C from by
    have h := hcut hcp w hb
    rw [if_neg hcp, Nat.mul_one] at h
    exact h))
  have i8 : ¬ (m : Int) < 8 := by omega
  have hmp : M - p = m := hm.symm
  have hm9 : m ≤ 10000 := by omega
  have hcm2 : c - p ≤ 9223372036854775807 := by omega
  have CH := Lib.hid (fun (n : Nat) w (hb : Below W.heap.size W w) (h1 : 1 ≤ n) (h2 : n ≤ 128) (h3 : (n - 1) / 8 < m) => (show Calls Tryd.prog 90 #[.slice (A.map (fun x => x.add p)) m (c - p), .int .i64 (n : Int)] w fun e W' => e = .returned (.bool (hasF C n)) ∧ w = W' from by
    have h := refHas_any (A.map (fun x => x.add p)) C (c - p) n w h1 h2 (by rw [HLEN.out]; exact h3) (by rw [HLEN.out]; omega) (RC.out w hb)
    rw [HLEN.out] at h
    exact h))
  have CH1 := Lib.hid (fun w (hb : Below W.heap.size W w) => (show Calls Tryd.prog 90 #[.slice (A.map (fun x => x.add p)) m (c - p), .int .i64 1] w fun e W' => e = .returned (.bool (hasF C 1)) ∧ w = W' from CH.out 1 w hb (by omega) (by omega) (by omega)))
  have HRC := Lib.hid (show readC C (p : Int) = if m < sizeB (hasF C 1) then ([], 0, 3) else if (hasF C 1 && (hasF C 65 || (outU C (8 * sizeB (hasF C 1) + 1)).all fun x => decide (x ≤ 65))) = true then ([], 0, 2) else (outU C (8 * sizeB (hasF C 1) + 1), (p : Int) + (sizeB (hasF C 1) : Nat), 0) from by
    unfold readC
    rw [if_neg (by omega), hlen])
  clear hcut hlen hm
  cases hw : hasF C 1 with
  | true =>
    rw [hw] at HRC CH1
    have HRC2 := Lib.hid (show readC C (p : Int) = if m < 16 then ([], 0, 3) else if (hasF C 65 || (outU C 129).all fun x => decide (x ≤ 65)) = true then ([], 0, 2) else (outU C 129, (p : Int) + 16, 0) from by
      have h := HRC.out
      simp only [show sizeB true = 16 from rfl, Nat.reduceMul, Nat.reduceAdd, Bool.true_and] at h
      rw [h]
      have e : (p : Int) + ((16 : Nat) : Int) = (p : Int) + 16 := by omega
      rw [e])
    clear HRC hw
    rw [HRC2.out]
    clear HRC2
    have HPW := Lib.hid (outU_pair C 129)
    obtain ⟨R, hR⟩ : ∃ R, R = outU C 129 := ⟨_, rfl⟩
    rw [← hR] at HPW ⊢
    have HR := Lib.hid hR
    clear hR
    by_cases h16 : m < 16
    · rw [if_pos h16]
      have i16 : (m : Int) < 16 := by omega
      clear CH
      go_enter Tryd.func58, Tryd.ntmps58
      go_wp2_with fail
      refine (CH1.out _ (Below.refl _ _)).mono ?_
      rintro e w1 ⟨rfl, rfl⟩
      clear CH1
      go_wp2
      go_ret3
      exact ⟨AnsI3.none, Below.refl _ _⟩
    rw [if_neg h16]
    have i16 : ¬ (m : Int) < 16 := by omega
    cases h65 : hasF C 65 with
    | true =>
      rw [Bool.true_or, if_pos rfl]
      go_enter Tryd.func58, Tryd.ntmps58
      go_wp2_with fail
      refine (CH1.out _ (Below.refl _ _)).mono ?_
      rintro e w1 ⟨rfl, rfl⟩
      clear CH1
      go_wp2
      go_loopw [10, 9] (fun i v wr => ∃ k : Nat, 2 ≤ k ∧ k ≤ 129 ∧ i = .int .i64 k ∧ OwI wr W.heap.size v (outU C k) ∧ Below W.heap.size W wr) (fun i _ _ => 129 - (intOf i).toNat)
      case atStart => exact ⟨2, by omega, by omega, rfl, by rw [outU_2]; exact OwI.nil, Below.refl _ _⟩
      case round =>
        obtain ⟨k, hk2, hk, rfl, hown, hbel⟩ := hrel
        have HO := Lib.hid hown
        have HB := Lib.hid hbel
        clear hown hbel
        by_cases hlt : k ≤ 128
        · have hki : (k : Int) ≤ 128 := by omega
          have CK := Lib.hid (CH.out k wr HB.out (by omega) (by omega) (by omega))
          have HOL := Lib.hid (outU_len C k)
          cases hq : hasF C k with
          | true =>
            rw [hq] at CK
            have HON := Lib.hid (outU_yes C k hk2 hq)
            clear hq
            go_wp2_with fail
            refine CK.out.mono ?_
            rintro e w' ⟨rfl, rfl⟩
            clear CK
            go_wp2_with (at_builtin; refine wpList_appI _ rfl (.tmp 43) (.tmp 45) rfl W.heap.size _ (outU C k) [(k : Int)] rfl (by exact HO.out.alloc _) (some ⟨wr.heap.size, 0, none⟩) 1 1 (wr.heap.size + 1) rfl rfl (by exact rdi_new1 wr (k : Int)) (by have := HOL.out; show (outU C k).length + 1 ≤ _; omega) (by exact le_alloc HB.out.size _) ?_; intro v3 w3 hown3 hgrow3; have hb3 := OwI.below (w0 := W) (by exact HO.out.alloc _) (by exact HB.out.alloc HB.out.size _) hgrow3 (by exact le_alloc HB.out.size _); have HB3 := Lib.hid hb3; rw [← HON.out] at hown3; have HO3 := Lib.hid hown3; clear hown3 hgrow3 hb3)
            go_roundw
            case rel => exact ⟨k + 1, by omega, by omega, by go_num, HO3.out, HB3.out⟩
            case measure => simp [intOf]; omega
          | false =>
            rw [hq] at CK
            have HON := Lib.hid (outU_no C k hq)
            clear hq
            go_wp2_with fail
            refine CK.out.mono ?_
            rintro e w' ⟨rfl, rfl⟩
            clear CK
            go_wp2
            go_roundw
            case rel => exact ⟨k + 1, by omega, by omega, by go_num, by rw [HON.out]; exact HO.out, HB.out⟩
            case measure => simp [intOf]; omega
        · have hki : ¬ (k : Int) ≤ 128 := by omega
          have hkE : k = 129 := by omega
          obtain ⟨A9, c9, e9, q1, q2, q3⟩ := HO.out.form
          rw [hkE, ← HR.out] at e9 q1 q3
          subst e9
          have HR9 := Lib.hid q3
          clear q3 hkE HO
          have C65 := Lib.hid (show Calls Tryd.prog 90 #[.slice (A.map (fun x => x.add p)) m (c - p), .int .i64 65] wr fun e W' => e = .returned (.bool (hasF C 65)) ∧ wr = W' from CH.out 65 wr HB.out (by omega) (by omega) (by omega))
          rw [h65] at C65
          clear h65 CH
          generalize R.length = N at *
          go_wp2_with fail
          refine C65.out.mono ?_
          rintro e w' ⟨rfl, rfl⟩
          go_wp2
          go_ret3
          exact ⟨AnsI3.none, HB.out⟩
    | false =>
      rw [Bool.false_or]
      by_cases hN : (R).length = 0
      · have e0 : R = [] := List.eq_nil_of_length_eq_zero hN
        rw [if_pos (by rw [e0]; rfl)]
        clear e0
        obtain ⟨N, hNN⟩ : ∃ N, N = R.length := ⟨_, rfl⟩
        have HNN := Lib.hid hNN
        rw [← hNN] at hN
        clear hNN
        have j0 : (N : Int) = 0 := by omega
        have j1 : ((N : Int) == 0) = true := beq_iff_eq.2 j0
        clear HPW
        go_enter Tryd.func58, Tryd.ntmps58
        go_wp2_with fail
        refine (CH1.out _ (Below.refl _ _)).mono ?_
        rintro e w1 ⟨rfl, rfl⟩
        clear CH1
        go_wp2
        go_loopw [10, 9] (fun i v wr => ∃ k : Nat, 2 ≤ k ∧ k ≤ 129 ∧ i = .int .i64 k ∧ OwI wr W.heap.size v (outU C k) ∧ Below W.heap.size W wr) (fun i _ _ => 129 - (intOf i).toNat)
        case atStart => exact ⟨2, by omega, by omega, rfl, by rw [outU_2]; exact OwI.nil, Below.refl _ _⟩
        case round =>
          obtain ⟨k, hk2, hk, rfl, hown, hbel⟩ := hrel
          have HO := Lib.hid hown
          have HB := Lib.hid hbel
          clear hown hbel
          by_cases hlt : k ≤ 128
          · have hki : (k : Int) ≤ 128 := by omega
            have CK := Lib.hid (CH.out k wr HB.out (by omega) (by omega) (by omega))
            have HOL := Lib.hid (outU_len C k)
            cases hq : hasF C k with
            | true =>
              rw [hq] at CK
              have HON := Lib.hid (outU_yes C k hk2 hq)
              clear hq
              go_wp2_with fail
              refine CK.out.mono ?_
              rintro e w' ⟨rfl, rfl⟩
              clear CK
              go_wp2_with (at_builtin; refine wpList_appI _ rfl (.tmp 43) (.tmp 45) rfl W.heap.size _ (outU C k) [(k : Int)] rfl (by exact HO.out.alloc _) (some ⟨wr.heap.size, 0, none⟩) 1 1 (wr.heap.size + 1) rfl rfl (by exact rdi_new1 wr (k : Int)) (by have := HOL.out; show (outU C k).length + 1 ≤ _; omega) (by exact le_alloc HB.out.size _) ?_; intro v3 w3 hown3 hgrow3; have hb3 := OwI.below (w0 := W) (by exact HO.out.alloc _) (by exact HB.out.alloc HB.out.size _) hgrow3 (by exact le_alloc HB.out.size _); have HB3 := Lib.hid hb3; rw [← HON.out] at hown3; have HO3 := Lib.hid hown3; clear hown3 hgrow3 hb3)
              go_roundw
              case rel => exact ⟨k + 1, by omega, by omega, by go_num, HO3.out, HB3.out⟩
              case measure => simp [intOf]; omega
            | false =>
              rw [hq] at CK
              have HON := Lib.hid (outU_no C k hq)
              clear hq
              go_wp2_with fail
              refine CK.out.mono ?_
              rintro e w' ⟨rfl, rfl⟩
              clear CK
              go_wp2
              go_roundw
              case rel => exact ⟨k + 1, by omega, by omega, by go_num, by rw [HON.out]; exact HO.out, HB.out⟩
              case measure => simp [intOf]; omega
          · have hki : ¬ (k : Int) ≤ 128 := by omega
            have hkE : k = 129 := by omega
            obtain ⟨A9, c9, e9, q1, q2, q3⟩ := HO.out.form
            rw [hkE, ← HR.out] at e9 q1 q3
            rw [← HNN.out] at e9 q1
            subst e9
            have HR9 := Lib.hid q3
            clear q3 hkE HO
            have C65 := Lib.hid (show Calls Tryd.prog 90 #[.slice (A.map (fun x => x.add p)) m (c - p), .int .i64 65] wr fun e W' => e = .returned (.bool (hasF C 65)) ∧ wr = W' from CH.out 65 wr HB.out (by omega) (by omega) (by omega))
            rw [h65] at C65
            clear h65 CH
            go_wp2_with fail
            refine C65.out.mono ?_
            rintro e w' ⟨rfl, rfl⟩
            go_wp2
            go_ret3
            exact ⟨AnsI3.none, HB.out⟩
      obtain ⟨z, hz⟩ : ∃ z, z = (R)[(R).length - 1]'(by omega) := ⟨_, rfl⟩
      have hal := all_last HPW.out ((R).length - 1) (by omega)
      rw [← hz] at hal
      rw [hal]
      have HZ := Lib.hid hz
      clear hal hz HPW
      by_cases h6 : z ≤ 65
      · rw [if_pos (decide_eq_true h6)]
        have d6 : decide (z ≤ 65) = true := decide_eq_true h6
        obtain ⟨N, hNN⟩ : ∃ N, N = (R).length := ⟨_, rfl⟩
        have HNN := Lib.hid hNN
        rw [← hNN] at hN
        clear hNN
        have HZ2 := Lib.hid (show R[N - 1]'(by have := HNN.out; omega) = z from by rw [HZ.out]; congr 1; have := HNN.out; omega)
        clear HZ
        have j0 : ¬ (N : Int) = 0 := by omega
        have j1 : ((N : Int) == 0) = false := beq_eq_false_iff_ne.2 j0
        have j2 : (0 : Int) ≤ (N : Int) - 1 := by omega
        go_enter Tryd.func58, Tryd.ntmps58
        go_wp2_with fail
        refine (CH1.out _ (Below.refl _ _)).mono ?_
        rintro e w1 ⟨rfl, rfl⟩
        clear CH1
        go_wp2
        go_loopw [10, 9] (fun i v wr => ∃ k : Nat, 2 ≤ k ∧ k ≤ 129 ∧ i = .int .i64 k ∧ OwI wr W.heap.size v (outU C k) ∧ Below W.heap.size W wr) (fun i _ _ => 129 - (intOf i).toNat)
        case atStart => exact ⟨2, by omega, by omega, rfl, by rw [outU_2]; exact OwI.nil, Below.refl _ _⟩
        case round =>
          obtain ⟨k, hk2, hk, rfl, hown, hbel⟩ := hrel
          have HO := Lib.hid hown
          have HB := Lib.hid hbel
          clear hown hbel
          by_cases hlt : k ≤ 128
          · have hki : (k : Int) ≤ 128 := by omega
            have CK := Lib.hid (CH.out k wr HB.out (by omega) (by omega) (by omega))
            have HOL := Lib.hid (outU_len C k)
            cases hq : hasF C k with
            | true =>
              rw [hq] at CK
              have HON := Lib.hid (outU_yes C k hk2 hq)
              clear hq
              go_wp2_with fail
              refine CK.out.mono ?_
              rintro e w' ⟨rfl, rfl⟩
              clear CK
              go_wp2_with (at_builtin; refine wpList_appI _ rfl (.tmp 43) (.tmp 45) rfl W.heap.size _ (outU C k) [(k : Int)] rfl (by exact HO.out.alloc _) (some ⟨wr.heap.size, 0, none⟩) 1 1 (wr.heap.size + 1) rfl rfl (by exact rdi_new1 wr (k : Int)) (by have := HOL.out; show (outU C k).length + 1 ≤ _; omega) (by exact le_alloc HB.out.size _) ?_; intro v3 w3 hown3 hgrow3; have hb3 := OwI.below (w0 := W) (by exact HO.out.alloc _) (by exact HB.out.alloc HB.out.size _) hgrow3 (by exact le_alloc HB.out.size _); have HB3 := Lib.hid hb3; rw [← HON.out] at hown3; have HO3 := Lib.hid hown3; clear hown3 hgrow3 hb3)
              go_roundw
              case rel => exact ⟨k + 1, by omega, by omega, by go_num, HO3.out, HB3.out⟩
              case measure => simp [intOf]; omega
            | false =>
              rw [hq] at CK
              have HON := Lib.hid (outU_no C k hq)
              clear hq
              go_wp2_with fail
              refine CK.out.mono ?_
              rintro e w' ⟨rfl, rfl⟩
              clear CK
              go_wp2
              go_roundw
              case rel => exact ⟨k + 1, by omega, by omega, by go_num, by rw [HON.out]; exact HO.out, HB.out⟩
              case measure => simp [intOf]; omega
          · have hki : ¬ (k : Int) ≤ 128 := by omega
            have hkE : k = 129 := by omega
            obtain ⟨A9, c9, e9, q1, q2, q3⟩ := HO.out.form
            rw [hkE, ← HR.out] at e9 q1 q3
            rw [← HNN.out] at e9 q1
            subst e9
            obtain ⟨zb, zo, ez, hzb, hzc⟩ := q3.at_ (k := N - 1) (by have := HNN.out; omega)
            rw [HZ2.out] at hzc
            cases ez
            have HR9 := Lib.hid q3
            clear q3 hkE HO
            have C65 := Lib.hid (show Calls Tryd.prog 90 #[.slice (A.map (fun x => x.add p)) m (c - p), .int .i64 65] wr fun e W' => e = .returned (.bool (hasF C 65)) ∧ wr = W' from CH.out 65 wr HB.out (by omega) (by omega) (by omega))
            rw [h65] at C65
            clear h65 CH
            go_wp2_with fail
            refine C65.out.mono ?_
            rintro e w' ⟨rfl, rfl⟩
            go_wp2
            go_ret3
            exact ⟨AnsI3.none, HB.out⟩
      · rw [if_neg (by rw [decide_eq_false h6]; decide)]
        have d6 : decide (z ≤ 65) = false := decide_eq_false h6
        obtain ⟨N, hNN⟩ : ∃ N, N = (R).length := ⟨_, rfl⟩
        have HNN := Lib.hid hNN
        rw [← hNN] at hN
        clear hNN
        have HZ2 := Lib.hid (show R[N - 1]'(by have := HNN.out; omega) = z from by rw [HZ.out]; congr 1; have := HNN.out; omega)
        clear HZ
        have j0 : ¬ (N : Int) = 0 := by omega
        have j1 : ((N : Int) == 0) = false := beq_eq_false_iff_ne.2 j0
        have j2 : (0 : Int) ≤ (N : Int) - 1 := by omega
        go_enter Tryd.func58, Tryd.ntmps58
        go_wp2_with fail
        refine (CH1.out _ (Below.refl _ _)).mono ?_
        rintro e w1 ⟨rfl, rfl⟩
        clear CH1
        go_wp2
        go_loopw [10, 9] (fun i v wr => ∃ k : Nat, 2 ≤ k ∧ k ≤ 129 ∧ i = .int .i64 k ∧ OwI wr W.heap.size v (outU C k) ∧ Below W.heap.size W wr) (fun i _ _ => 129 - (intOf i).toNat)
        case atStart => exact ⟨2, by omega, by omega, rfl, by rw [outU_2]; exact OwI.nil, Below.refl _ _⟩
        case round =>
          obtain ⟨k, hk2, hk, rfl, hown, hbel⟩ := hrel
          have HO := Lib.hid hown
          have HB := Lib.hid hbel
          clear hown hbel
          by_cases hlt : k ≤ 128
          · have hki : (k : Int) ≤ 128 := by omega
            have CK := Lib.hid (CH.out k wr HB.out (by omega) (by omega) (by omega))
            have HOL := Lib.hid (outU_len C k)
            cases hq : hasF C k with
            | true =>
              rw [hq] at CK
              have HON := Lib.hid (outU_yes C k hk2 hq)
              clear hq
              go_wp2_with fail
              refine CK.out.mono ?_
              rintro e w' ⟨rfl, rfl⟩
              clear CK
              go_wp2_with (at_builtin; refine wpList_appI _ rfl (.tmp 43) (.tmp 45) rfl W.heap.size _ (outU C k) [(k : Int)] rfl (by exact HO.out.alloc _) (some ⟨wr.heap.size, 0, none⟩) 1 1 (wr.heap.size + 1) rfl rfl (by exact rdi_new1 wr (k : Int)) (by have := HOL.out; show (outU C k).length + 1 ≤ _; omega) (by exact le_alloc HB.out.size _) ?_; intro v3 w3 hown3 hgrow3; have hb3 := OwI.below (w0 := W) (by exact HO.out.alloc _) (by exact HB.out.alloc HB.out.size _) hgrow3 (by exact le_alloc HB.out.size _); have HB3 := Lib.hid hb3; rw [← HON.out] at hown3; have HO3 := Lib.hid hown3; clear hown3 hgrow3 hb3)
              go_roundw
              case rel => exact ⟨k + 1, by omega, by omega, by go_num, HO3.out, HB3.out⟩
              case measure => simp [intOf]; omega
            | false =>
              rw [hq] at CK
              have HON := Lib.hid (outU_no C k hq)
              clear hq
              go_wp2_with fail
              refine CK.out.mono ?_
              rintro e w' ⟨rfl, rfl⟩
              clear CK
              go_wp2
              go_roundw
              case rel => exact ⟨k + 1, by omega, by omega, by go_num, by rw [HON.out]; exact HO.out, HB.out⟩
              case measure => simp [intOf]; omega
          · have hki : ¬ (k : Int) ≤ 128 := by omega
            have hkE : k = 129 := by omega
            obtain ⟨A9, c9, e9, q1, q2, q3⟩ := HO.out.form
            rw [hkE, ← HR.out] at e9 q1 q3
            rw [← HNN.out] at e9 q1
            subst e9
            obtain ⟨zb, zo, ez, hzb, hzc⟩ := q3.at_ (k := N - 1) (by have := HNN.out; omega)
            rw [HZ2.out] at hzc
            cases ez
            have HR9 := Lib.hid q3
            clear q3 hkE HO
            have C65 := Lib.hid (show Calls Tryd.prog 90 #[.slice (A.map (fun x => x.add p)) m (c - p), .int .i64 65] wr fun e W' => e = .returned (.bool (hasF C 65)) ∧ wr = W' from CH.out 65 wr HB.out (by omega) (by omega) (by omega))
            rw [h65] at C65
            clear h65 CH
            go_wp2_with fail
            refine C65.out.mono ?_
            rintro e w' ⟨rfl, rfl⟩
            go_wp2
            go_ret3
            exact ⟨⟨some ⟨zb, zo, none⟩, c9, by rw [HNN.out]; rfl, by show R.length ≤ c9; rw [← HNN.out]; exact q1, q2, HR9.out⟩, HB.out⟩
  | false =>
    rw [hw] at HRC CH1
    have HRC2 := Lib.hid (show readC C (p : Int) = (outU C 65, (p : Int) + 8, 0) from by
      have h := HRC.out
      simp only [show sizeB false = 8 from rfl, Nat.reduceMul, Nat.reduceAdd, Bool.false_and] at h
      rw [h, if_neg h8, if_neg (by decide)]
      have e : (p : Int) + ((8 : Nat) : Int) = (p : Int) + 8 := by omega
      rw [e])
    clear HRC hw
    rw [HRC2.out]
    clear HRC2
    obtain ⟨R, hR⟩ : ∃ R, R = outU C 65 := ⟨_, rfl⟩
    rw [← hR]
    have HR := Lib.hid hR
    clear hR
    go_enter Tryd.func58, Tryd.ntmps58
    go_wp2_with fail
    refine (CH1.out _ (Below.refl _ _)).mono ?_
    rintro e w1 ⟨rfl, rfl⟩
    clear CH1
    go_wp2
    go_loopw [10, 9] (fun i v wr => ∃ k : Nat, 2 ≤ k ∧ k ≤ 65 ∧ i = .int .i64 k ∧ OwI wr W.heap.size v (outU C k) ∧ Below W.heap.size W wr) (fun i _ _ => 65 - (intOf i).toNat)
    case atStart => exact ⟨2, by omega, by omega, rfl, by rw [outU_2]; exact OwI.nil, Below.refl _ _⟩
    case round =>
      obtain ⟨k, hk2, hk, rfl, hown, hbel⟩ := hrel
      have HO := Lib.hid hown
      have HB := Lib.hid hbel
      clear hown hbel
      by_cases hlt : k ≤ 64
      · have hki : (k : Int) ≤ 64 := by omega
        have CK := Lib.hid (CH.out k wr HB.out (by omega) (by omega) (by omega))
        have HOL := Lib.hid (outU_len C k)
        cases hq : hasF C k with
        | true =>
          rw [hq] at CK
          have HON := Lib.hid (outU_yes C k hk2 hq)
          clear hq
          go_wp2_with fail
          refine CK.out.mono ?_
          rintro e w' ⟨rfl, rfl⟩
          clear CK
          go_wp2_with (at_builtin; refine wpList_appI _ rfl (.tmp 43) (.tmp 45) rfl W.heap.size _ (outU C k) [(k : Int)] rfl (by exact HO.out.alloc _) (some ⟨wr.heap.size, 0, none⟩) 1 1 (wr.heap.size + 1) rfl rfl (by exact rdi_new1 wr (k : Int)) (by have := HOL.out; show (outU C k).length + 1 ≤ _; omega) (by exact le_alloc HB.out.size _) ?_; intro v3 w3 hown3 hgrow3; have hb3 := OwI.below (w0 := W) (by exact HO.out.alloc _) (by exact HB.out.alloc HB.out.size _) hgrow3 (by exact le_alloc HB.out.size _); have HB3 := Lib.hid hb3; rw [← HON.out] at hown3; have HO3 := Lib.hid hown3; clear hown3 hgrow3 hb3)
          go_roundw
          case rel => exact ⟨k + 1, by omega, by omega, by go_num, HO3.out, HB3.out⟩
          case measure => simp [intOf]; omega
        | false =>
          rw [hq] at CK
          have HON := Lib.hid (outU_no C k hq)
          clear hq
          go_wp2_with fail
          refine CK.out.mono ?_
          rintro e w' ⟨rfl, rfl⟩
          clear CK
          go_wp2
          go_roundw
          case rel => exact ⟨k + 1, by omega, by omega, by go_num, by rw [HON.out]; exact HO.out, HB.out⟩
          case measure => simp [intOf]; omega
      · have hki : ¬ (k : Int) ≤ 64 := by omega
        have hkE : k = 65 := by omega
        obtain ⟨A9, c9, e9, q1, q2, q3⟩ := HO.out.form
        rw [hkE, ← HR.out] at e9 q1 q3
        subst e9
        have HR9 := Lib.hid q3
        clear q3 hkE HO
        go_wp2
        go_ret3
        exact ⟨⟨A9, c9, rfl, q1, q2, HR9.out⟩, HB.out⟩
end Go.Proofs.YtpfjecjfooefoaaDoor
