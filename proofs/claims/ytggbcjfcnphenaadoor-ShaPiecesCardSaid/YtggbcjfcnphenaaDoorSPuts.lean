/- ShaPuts' walk -/
import Derived.Test.YtggbcjfcnphenaaDoorSTells
namespace Go.Proofs.YtggbcjfcnphenaaDoor
open Go.RowKit

/-- Put, as the code and as the document have it: one answer -/
theorem puts_both (s : St) (N : Nat) (A C : Option Addr) (l m : List UInt8) (c d : Nat) (hl : l.length ≤ 100) (hm : m.length ≤ 600) (hlc : l.length ≤ c) (hc : c ≤ 9223372036854775807) (hmd : m.length ≤ d) (hN : N ≤ 1125899906842624) (hmod : l.length = N % 64) :
    ∃ (s' : St) (N' : Nat) (l' : List UInt8), l'.length ≤ 100 ∧ N' ≤ 1125899906842624 ∧ l'.length % 64 = N' % 64 ∧
      (∀ w, Rd w w.heap.size A l → Rd w w.heap.size C m → Ks w → Calls Tryd.prog 23 #[hv s (N : Int) (.slice A l.length c), .slice C m.length d] w fun e w' => AnsH w' e s' (N' : Int) l' ∧ Below w.heap.size w w') ∧
      (∀ w, Rd w w.heap.size A l → Rd w w.heap.size C m → Calls Tryd.prog 24 #[hv s (N : Int) (.slice A l.length c), .slice C m.length d] w fun e w' => AnsH w' e s' (N' : Int) l' ∧ Below w.heap.size w w') := by
  by_cases h : N + m.length ≤ 1125899906842624
  · refine ⟨blks s (l ++ m), N + m.length, left (l ++ m), ?_, h, ?_, fun w h1 h2 h3 => put_any s N A C l m c d w (by omega) hlc hmd h1 h2 h3 h, fun w h1 h2 => refPut_any s N A C l m c d w (by omega) hlc hmd h1 h2 h⟩
    · rw [left_length]; omega
    · rw [left_length, List.length_append]; omega
  · exact ⟨s, N, l, hl, hN, by omega, fun w h1 _ _ => put_full s N A C l m c d w (by omega) hlc hmd h1 hN (by omega), fun w h1 _ => refPut_full s N A C l m c d w (by omega) hlc hc h1 hN (by omega)⟩
theorem same32 (P : List UInt8) (hP : P.length = 32) (A B : Option Addr) (c d : Nat) (w : World) (h1 : Rd w w.heap.size A P) (h2 : Rd w w.heap.size B P) :
    Calls Tryd.prog 11 #[.slice A 32 c, .slice B 32 d] w fun e w' => e = .returned (.bool true) ∧ w = w' := by
  have h := same_any A B P P c d w.heap.size w.heap.size w h1 h2
  rw [hP] at h
  simpa using h
theorem refSame_yes (s : St) (N : Int) (l : List UInt8) (n : Nat) (hn : n = l.length) (A B : Option Addr) (c d : Nat) (w : World) (h1 : Rd w w.heap.size A l) (h2 : Rd w w.heap.size B l) :
    Calls Tryd.prog 16 #[hv s N (.slice A n c), hv s N (.slice B n d)] w fun e w' => e = .returned (.bool true) ∧ Below w.heap.size w w' := by
  subst hn
  have h := refSame_any s s N N A B l l c d w h1 h2
  rw [show sameH s s N N l l = true by unfold sameH; simp] at h
  exact h
theorem sum_length (s : St) (l : List UInt8) (n : Nat) : (sumF s l n).length = 32 := bytes_length _
theorem rightB_yes {N : Int} {n : Nat} (h : rightB N n = true) : ∃ M : Nat, N = (M : Int) ∧ M ≤ 1125899906842624 ∧ n = M % 64 := by
  unfold rightB at h
  have h := of_decide_eq_true h
  exact ⟨N.toNat, by omega, by omega, by omega⟩

set_option maxRecDepth 100000 in
set_option maxHeartbeats 2000000 in
theorem shaPuts_easy (s : St) (N : Int) (A : Option Addr) (l : List UInt8) (c : Nat) (C : Option Addr) (k d : Nat) (W : World) (hk : Ks W)
    (hlc : l.length ≤ 9223372036854775807) (hh : 100 < l.length ∨ 600 < k ∨ rightB N l.length = false) :
    Calls Tryd.prog 5 #[hv s N (.slice A l.length c), .slice C k d] W fun e W' => e = .returned (.bool true) ∧ Below W.heap.size W W' := by
  obtain ⟨n, hn⟩ : ∃ n, n = l.length := ⟨_, rfl⟩
  rw [← hn] at hlc hh ⊢
  clear hn
  have R1 := Lib.hid (fun w => right_is s N A n c w hlc)
  have R2 := Lib.hid (fun w => refRight_is s N A n c w hlc)
  have KB := Lib.hid (fun w (h : Below W.heap.size W w) => Ks.call hk h)
  have q1 := heap_alloc_new W (.cells (hcells s N (.slice A n c)) 36)
  have q4 : Below W.heap.size W (W.alloc (.cells (hcells s N (.slice A n c)) 36)) := (Below.refl _ _).alloc (Nat.le_refl _) _
  have q3 : (W.alloc (.cells (hcells s N (.slice A n c)) 36)).heap.size = W.heap.size + 1 := World.size_alloc _ _
  clear hk
  go_enter Tryd.func5, Tryd.ntmps5
  go_upto_region 1 with (fail)
  change Code.wp _ _ _ _ (W.alloc (.cells (hcells s N (.slice A n c)) 36))
  generalize W.alloc (.cells (hcells s N (.slice A n c)) 36) = W0 at *
  have Q1 := Lib.hid q1
  have Q4 := Lib.hid q4
  clear q1 q4
  go_wp2_with fail
  refine (shown_any _ (KB.out _ Q4.out)).mono ?_
  rintro e W1 ⟨rfl, hb1⟩
  have HB1 := Lib.hid (bel_call Q4.out hb1 (by omega))
  have S1 := Lib.hid (old_below (g := W.heap.size) Q1.out hb1 (Nat.le_refl _))
  have z1 : W.heap.size < W1.heap.size := by have := hb1.size; omega
  obtain ⟨-, -, -, -, -, -, -, -, -, e9⟩ := cells10 S1.out
  clear hb1 Q1 Q4 q3
  dsimp only
  by_cases h100 : 100 < n
  · have h100i : (100 : Int) < (n : Int) := by omega
    clear hh
    go_wp2
    go_ret
    exact ⟨rfl, HB1.out⟩
  · have h100i : ¬ (100 : Int) < (n : Int) := by omega
    by_cases h600 : 600 < k
    · have h600i : (600 : Int) < (k : Int) := by omega
      clear hh
      go_wp2
      go_ret
      exact ⟨rfl, HB1.out⟩
    · have h600i : ¬ (600 : Int) < (k : Int) := by omega
      have hr : rightB N n = false := by
        rcases hh with h | h | h
        · exact absurd h h100
        · exact absurd h h600
        · exact h
      rw [hr] at R1 R2
      clear hh hr
      go_wp2_with (with_reducible refine at_list ?_; refine loadH W1 (.tmp 2) W.heap.size s N (.slice A n c) S1.out rfl rfl rfl ?_)
      refine (R2.out _).mono ?_
      rintro e W2 ⟨rfl, hb2⟩
      have HB2 := Lib.hid (bel_call HB1.out hb2 (by omega))
      have S2 := Lib.hid (old_below (g := W.heap.size) S1.out hb2 (Nat.le_refl _))
      have z2 : W.heap.size < W2.heap.size := by have := hb2.size; omega
      clear hb2 HB1 S1 e9
      dsimp only
      go_wp2_with (with_reducible refine at_list ?_; refine loadH W2 (.tmp 2) W.heap.size s N (.slice A n c) S2.out rfl rfl rfl ?_)
      refine (R1.out _).mono ?_
      rintro e W3 ⟨rfl, hb3⟩
      have HB3 := Lib.hid (bel_call HB2.out hb3 (by omega))
      clear hb3 HB2 S2
      go_wp2
      go_ret
      exact ⟨rfl, HB3.out⟩

set_option maxRecDepth 100000 in
set_option maxHeartbeats 4000000 in
theorem shaPuts_right (s : St) (N : Nat) (A : Option Addr) (l : List UInt8) (c : Nat) (C : Option Addr) (m : List UInt8) (d : Nat) (W : World)
    (hlc : l.length ≤ c) (hc : c ≤ 9223372036854775807) (hr : Rd W W.heap.size A l) (hmd : m.length ≤ d) (hs : Rd W W.heap.size C m) (hk : Ks W)
    (h100 : l.length ≤ 100) (h600 : m.length ≤ 600) (hN : N ≤ 1125899906842624) (hmod : l.length = N % 64) :
    Calls Tryd.prog 5 #[hv s (N : Int) (.slice A l.length c), .slice C m.length d] W fun e W' => e = .returned (.bool true) ∧ Below W.heap.size W W' := by
  obtain ⟨s', N', l', hl', hN', hmod', p1, p2⟩ := puts_both s N A C l m c d h100 h600 hlc hc hmd hN hmod
  have RB := Lib.hid (fun w (h : Below W.heap.size W w) => (hr.below h (Nat.le_refl _)).more h.size)
  have RC := Lib.hid (fun w (h : Below W.heap.size W w) => (hs.below h (Nat.le_refl _)).more h.size)
  have KB := Lib.hid (fun w (h : Below W.heap.size W w) => Ks.call hk h)
  have hright : rightB (N : Int) l.length = true := by unfold rightB; exact decide_eq_true (by omega)
  have r1 := fun w => right_is s N A l.length c w (by omega)
  have r2 := fun w => refRight_is s N A l.length c w (by omega)
  rw [hright] at r1 r2
  have R1 := Lib.hid r1
  have R2 := Lib.hid r2
  have sx := fun A' c' w h1 h2 h3 => sum_any s' N' A' l' c' w (by omega) h1 h2 h3 hN'
  have tx := fun A' c' w h1 h2 => refSum_any s' N' A' l' c' w (by omega) h1 h2 hN' hmod'
  have sh := fun w h2 h3 => sum_any s N A l c w (by omega) hlc h2 h3 hN
  have th := fun w h2 => refSum_any s N A l c w (by omega) hlc h2 hN (by omega)
  obtain ⟨Px, hPx⟩ : ∃ P, P = sumF s' l' N' := ⟨_, rfl⟩
  obtain ⟨Ph, hPh⟩ : ∃ P, P = sumF s l N := ⟨_, rfl⟩
  have CX := Lib.hid (same32 Px (by rw [hPx, sum_length]))
  have CH := Lib.hid (same32 Ph (by rw [hPh, sum_length]))
  rw [← hPx] at sx tx
  rw [← hPh] at sh th
  obtain ⟨r, hr'⟩ : ∃ r, r = l'.length := ⟨_, rfl⟩
  have CS := Lib.hid (fun A' B' c' d' w => refSame_yes s' N' l' r hr' A' B' c' d' w)
  have P1 := Lib.hid p1
  have P2 := Lib.hid p2
  have SX := Lib.hid sx
  have TX := Lib.hid tx
  have SH := Lib.hid sh
  have TH := Lib.hid th
  clear p1 p2 sx tx sh th r1 r2 hPx hPh hright
  obtain ⟨n, hn⟩ : ∃ n, n = l.length := ⟨_, rfl⟩
  obtain ⟨k, hk'⟩ : ∃ k, k = m.length := ⟨_, rfl⟩
  have HRL := Lib.hid hr'
  rw [← hr'] at SX TX
  rw [← hn] at hlc h100 R1 R2 P1 P2 SH TH ⊢
  rw [← hk'] at hmd h600 P1 P2 ⊢
  have h100i : ¬ (100 : Int) < (n : Int) := by omega
  have h600i : ¬ (600 : Int) < (k : Int) := by omega
  have q1 := heap_alloc_new W (.cells (hcells s N (.slice A n c)) 36)
  have q4 : Below W.heap.size W (W.alloc (.cells (hcells s N (.slice A n c)) 36)) := (Below.refl _ _).alloc (Nat.le_refl _) _
  have q3 : (W.alloc (.cells (hcells s N (.slice A n c)) 36)).heap.size = W.heap.size + 1 := World.size_alloc _ _
  clear hk hr hs hn hk' hr' hmod hmod' hN hN' hl'
  go_enter Tryd.func5, Tryd.ntmps5
  go_upto_region 1 with (fail)
  change Code.wp _ _ _ _ (W.alloc (.cells (hcells s N (.slice A n c)) 36))
  generalize W.alloc (.cells (hcells s N (.slice A n c)) 36) = W0 at *
  have Q1 := Lib.hid q1
  have Q4 := Lib.hid q4
  clear q1 q4
  go_wp2_with fail
  refine (shown_any _ (KB.out _ Q4.out)).mono ?_
  rintro e W1 ⟨rfl, hb1⟩
  have HB1 := Lib.hid (bel_call Q4.out hb1 (by omega))
  have S1 := Lib.hid (old_below (g := W.heap.size) Q1.out hb1 (Nat.le_refl _))
  have z1 : W.heap.size < W1.heap.size := by have := hb1.size; omega
  obtain ⟨-, -, -, -, -, -, -, -, -, e9⟩ := cells10 S1.out
  clear hb1 Q1 Q4 q3
  dsimp only
  go_wp2_with (with_reducible refine at_list ?_; refine loadH W1 (.tmp 2) W.heap.size s N (.slice A n c) S1.out rfl rfl rfl ?_)
  refine (R2.out _).mono ?_
  rintro e W2 ⟨rfl, hb2⟩
  have HB2 := Lib.hid (bel_call HB1.out hb2 (by omega))
  have S2 := Lib.hid (old_below (g := W.heap.size) S1.out hb2 (Nat.le_refl _))
  have z2 : W.heap.size < W2.heap.size := by have := hb2.size; omega
  clear hb2 HB1 S1 e9 z1
  dsimp only
  go_wp2_with (with_reducible refine at_list ?_; refine loadH W2 (.tmp 2) W.heap.size s N (.slice A n c) S2.out rfl rfl rfl ?_)
  refine (R1.out _).mono ?_
  rintro e W3 ⟨rfl, hb3⟩
  have HB3 := Lib.hid (bel_call HB2.out hb3 (by omega))
  have S3 := Lib.hid (old_below (g := W.heap.size) S2.out hb3 (Nat.le_refl _))
  have z3 : W.heap.size < W3.heap.size := by have := hb3.size; omega
  clear hb3 HB2 S2 z2
  dsimp only
  go_wp2_with (with_reducible refine at_list ?_; refine loadH W3 (.tmp 2) W.heap.size s N (.slice A n c) S3.out rfl rfl rfl ?_)
  refine (P1.out _ (RB.out _ HB3.out) (RC.out _ HB3.out) (KB.out _ HB3.out)).mono ?_
  rintro e W4 ⟨⟨A1, c1, rfl, x1, x2, x3⟩, hb4⟩
  rw [← HRL.out] at x1 ⊢
  have HB4 := bel_call HB3.out hb4 (by omega)
  have S4 := old_below (g := W.heap.size) S3.out hb4 (Nat.le_refl _)
  have z4 : W.heap.size < W4.heap.size := by have := hb4.size; omega
  have V1 := old_alloc S4 (.cells (hcells s' N' (.slice A1 r c1)) 36)
  have V2 := heap_alloc_new W4 (.cells (hcells s' N' (.slice A1 r c1)) 36)
  have V3 := HB4.alloc (Nat.le_of_lt z4) (.cells (hcells s' N' (.slice A1 r c1)) 36)
  have V4 := Rd.alloc x3 (.cells (hcells s' N' (.slice A1 r c1)) 36)
  have V5 : (W4.alloc (.cells (hcells s' N' (.slice A1 r c1)) 36)).heap.size = W4.heap.size + 1 := World.size_alloc _ _
  have HV1 := Lib.hid V1
  have HV2 := Lib.hid V2
  have HV3 := Lib.hid V3
  have HV4 := Lib.hid V4
  have HV5 := Lib.hid V5
  clear hb4 HB3 S3 z3 HB4 S4 V1 V2 V3 V4 V5 x3
  dsimp only
  go_wp2_with fail
  change Code.wp _ _ _ _ (W4.alloc (.cells (hcells s' N' (.slice A1 r c1)) 36))
  generalize W4.alloc (.cells (hcells s' N' (.slice A1 r c1)) 36) = V at *
  obtain ⟨gx, hgx⟩ : ∃ g, g = W4.heap.size := ⟨_, rfl⟩
  rw [← hgx] at HV2 ⊢
  have RBV := Lib.hid (fun w (h : Below V.heap.size V w) => RB.out w (HV3.out.trans (h.mono HV3.out.size)))
  have RCV := Lib.hid (fun w (h : Below V.heap.size V w) => RC.out w (HV3.out.trans (h.mono HV3.out.size)))
  have KBV := Lib.hid (fun w (h : Below V.heap.size V w) => KB.out w (HV3.out.trans (h.mono HV3.out.size)))
  have RXV := Lib.hid (fun w (h : Below V.heap.size V w) => (HV4.out.below h (Nat.le_refl _)).more h.size)
  have BB0 := Lib.hid ((Below.refl V.heap.size V).drew)
  have KEEP := Lib.hid (show ∀ w', Below V.heap.size V w' → (Below V.heap.size V w' ∧ w'.cell? ⟨W.heap.size, 0, none⟩ = some (wv s.a) ∧ w'.cell? ⟨W.heap.size, 1, none⟩ = some (wv s.b) ∧ w'.cell? ⟨W.heap.size, 2, none⟩ = some (wv s.c) ∧ w'.cell? ⟨W.heap.size, 3, none⟩ = some (wv s.d) ∧ w'.cell? ⟨W.heap.size, 4, none⟩ = some (wv s.e) ∧ w'.cell? ⟨W.heap.size, 5, none⟩ = some (wv s.f) ∧ w'.cell? ⟨W.heap.size, 6, none⟩ = some (wv s.g) ∧ w'.cell? ⟨W.heap.size, 7, none⟩ = some (wv s.h) ∧ w'.cell? ⟨W.heap.size, 8, none⟩ = some (.int .i64 (N : Int)) ∧ w'.cell? ⟨W.heap.size, 9, none⟩ = some (.slice A n c) ∧ w'.cell? ⟨gx, 0, none⟩ = some (wv s'.a) ∧ w'.cell? ⟨gx, 1, none⟩ = some (wv s'.b) ∧ w'.cell? ⟨gx, 2, none⟩ = some (wv s'.c) ∧ w'.cell? ⟨gx, 3, none⟩ = some (wv s'.d) ∧ w'.cell? ⟨gx, 4, none⟩ = some (wv s'.e) ∧ w'.cell? ⟨gx, 5, none⟩ = some (wv s'.f) ∧ w'.cell? ⟨gx, 6, none⟩ = some (wv s'.g) ∧ w'.cell? ⟨gx, 7, none⟩ = some (wv s'.h) ∧ w'.cell? ⟨gx, 8, none⟩ = some (.int .i64 (N' : Int)) ∧ w'.cell? ⟨gx, 9, none⟩ = some (.slice A1 r c1)) from fun w' h => by
    obtain ⟨e0, e1, e2, e3, e4, e5, e6, e7, e8, e9⟩ := cells10 (old_below HV1.out h (Nat.le_refl _))
    obtain ⟨f0, f1, f2, f3, f4, f5, f6, f7, f8, f9⟩ := cells10 (old_below HV2.out h (Nat.le_refl _))
    exact ⟨h, e0, e1, e2, e3, e4, e5, e6, e7, e8, e9, f0, f1, f2, f3, f4, f5, f6, f7, f8, f9⟩)
  clear hgx HV5 z4 RB RC KB
  go_region_held3 (fun w' => Below V.heap.size V w' ∧ w'.cell? ⟨W.heap.size, 0, none⟩ = some (wv s.a) ∧ w'.cell? ⟨W.heap.size, 1, none⟩ = some (wv s.b) ∧ w'.cell? ⟨W.heap.size, 2, none⟩ = some (wv s.c) ∧ w'.cell? ⟨W.heap.size, 3, none⟩ = some (wv s.d) ∧ w'.cell? ⟨W.heap.size, 4, none⟩ = some (wv s.e) ∧ w'.cell? ⟨W.heap.size, 5, none⟩ = some (wv s.f) ∧ w'.cell? ⟨W.heap.size, 6, none⟩ = some (wv s.g) ∧ w'.cell? ⟨W.heap.size, 7, none⟩ = some (wv s.h) ∧ w'.cell? ⟨W.heap.size, 8, none⟩ = some (.int .i64 (N : Int)) ∧ w'.cell? ⟨W.heap.size, 9, none⟩ = some (.slice A n c) ∧ w'.cell? ⟨gx, 0, none⟩ = some (wv s'.a) ∧ w'.cell? ⟨gx, 1, none⟩ = some (wv s'.b) ∧ w'.cell? ⟨gx, 2, none⟩ = some (wv s'.c) ∧ w'.cell? ⟨gx, 3, none⟩ = some (wv s'.d) ∧ w'.cell? ⟨gx, 4, none⟩ = some (wv s'.e) ∧ w'.cell? ⟨gx, 5, none⟩ = some (wv s'.f) ∧ w'.cell? ⟨gx, 6, none⟩ = some (wv s'.g) ∧ w'.cell? ⟨gx, 7, none⟩ = some (wv s'.h) ∧ w'.cell? ⟨gx, 8, none⟩ = some (.int .i64 (N' : Int)) ∧ w'.cell? ⟨gx, 9, none⟩ = some (.slice A1 r c1))
    (first | exact KEEP.out _ BB0.out | exact KEEP.out _ BBa.out | exact KEEP.out _ BBb.out | exact KEEP.out _ BBc.out | exact KEEP.out _ BBd.out | exact KEEP.out _ BBe.out | exact KEEP.out _ BBf.out)
    (first
    | (go_at_call 24; refine (P2.out _ (RBV.out _ BB0.out) (RCV.out _ BB0.out)).mono ?_; rintro e wa ⟨⟨A2, c2, rfl, a1, a2, a3⟩, hb⟩; have BBa := Lib.hid (bel_call BB0.out hb (by exact Nat.le_refl _)); have RA2 := Lib.hid a3; rw [← HRL.out]; clear hb a1 a2 a3)
    | (go_at_call 16; refine (CS.out A1 A2 c1 c2 _ (RXV.out _ BBa.out) RA2.out).mono ?_; rintro e wb ⟨rfl, hb⟩; have BBb := Lib.hid (bel_call BBa.out hb BBa.out.size); clear hb)
    | (go_at_call 25; (with_reducible refine (SX.out A1 c1 _ x1 ?_ ?_).mono ?_); (first | exact RXV.out _ BBb.out | exact RXV.out _ BBd.out); (first | exact KBV.out _ BBb.out | exact KBV.out _ BBd.out); rintro e wc ⟨⟨A3, c3, rfl, a1, a2, a3⟩, hb⟩; have BBc := Lib.hid (by first | exact bel_call BBb.out hb BBb.out.size | exact bel_call BBd.out hb BBd.out.size); have RA3 := Lib.hid a3; (try (have RA4' := Lib.hid ((RA4.out.below hb (Nat.le_refl _)).more hb.size))); clear hb a1 a2 a3)
    | (go_at_call 26; (with_reducible refine (TX.out A1 c1 _ x1 ?_).mono ?_); (first | exact RXV.out _ BBb.out | exact RXV.out _ BBc.out); rintro e wd ⟨⟨A4, c4, rfl, a1, a2, a3⟩, hb⟩; have BBd := Lib.hid (by first | exact bel_call BBb.out hb BBb.out.size | exact bel_call BBc.out hb BBc.out.size); have RA4 := Lib.hid a3; (try (have RA3' := Lib.hid ((RA3.out.below hb (Nat.le_refl _)).more hb.size))); clear hb a1 a2 a3)
    | (go_at_call 11; (with_reducible refine (CX.out A3 A4 c3 c4 _ ?_ ?_).mono ?_); (first | exact RA3.out | exact RA3'.out); (first | exact RA4.out | exact RA4'.out); rintro e w1 ⟨rfl, rfl⟩)
    | (go_at_call 25; (with_reducible refine (SH.out _ ?_ ?_).mono ?_); (first | exact RBV.out _ BBc.out | exact RBV.out _ BBd.out | exact RBV.out _ BBf.out); (first | exact KBV.out _ BBc.out | exact KBV.out _ BBd.out | exact KBV.out _ BBf.out); rintro e we ⟨⟨A5, c5, rfl, a1, a2, a3⟩, hb⟩; have BBe := Lib.hid (by first | exact bel_call BBf.out hb BBf.out.size | exact bel_call BBc.out hb BBc.out.size | exact bel_call BBd.out hb BBd.out.size); have RA5 := Lib.hid a3; (try (have RA6' := Lib.hid ((RA6.out.below hb (Nat.le_refl _)).more hb.size))); clear hb a1 a2 a3)
    | (go_at_call 26; (with_reducible refine (TH.out _ ?_).mono ?_); (first | exact RBV.out _ BBc.out | exact RBV.out _ BBd.out | exact RBV.out _ BBe.out); rintro e wf ⟨⟨A6, c6, rfl, a1, a2, a3⟩, hb⟩; have BBf := Lib.hid (by first | exact bel_call BBe.out hb BBe.out.size | exact bel_call BBc.out hb BBc.out.size | exact bel_call BBd.out hb BBd.out.size); have RA6 := Lib.hid a3; (try (have RA5' := Lib.hid ((RA5.out.below hb (Nat.le_refl _)).more hb.size))); clear hb a1 a2 a3)
    | (go_at_call 11; (with_reducible refine (CH.out A5 A6 c5 c6 _ ?_ ?_).mono ?_); (first | exact RA5.out | exact RA5'.out); (first | exact RA6.out | exact RA6'.out); rintro e w1 ⟨rfl, rfl⟩))
  all_goals
    go_wp2_with fail
    go_ret
    first
    | exact ⟨rfl, HV3.out.trans (BBe.out.mono HV3.out.size)⟩
    | exact ⟨rfl, HV3.out.trans (BBf.out.mono HV3.out.size)⟩

theorem shaPuts_walk (s : St) (N : Int) (A : Option Addr) (l : List UInt8) (c : Nat) (C : Option Addr) (m : List UInt8) (d : Nat) (W : World) (_hN : -9223372036854775808 ≤ N ∧ N ≤ 9223372036854775807)
    (hlc : l.length ≤ c) (hc : c ≤ 9223372036854775807) (hr : Rd W W.heap.size A l) (hmd : m.length ≤ d) (hs : Rd W W.heap.size C m) (hk : Ks W) :
    Calls Tryd.prog 5 #[hv s N (.slice A l.length c), .slice C m.length d] W fun e W' => e = .returned (.bool true) ∧ Below W.heap.size W W' := by
  by_cases h : 100 < l.length ∨ 600 < m.length ∨ rightB N l.length = false
  · exact shaPuts_easy s N A l c C m.length d W hk (by omega) h
  · have hr' : rightB N l.length = true := by
      cases hx : rightB N l.length
      · exact absurd (.inr (.inr hx)) h
      · rfl
    obtain ⟨M, rfl, h1, h2⟩ := rightB_yes hr'
    exact shaPuts_right s M A l c C m d W hlc hc hr hmd hs hk (by omega) (by omega) h1 h2
end Go.Proofs.YtggbcjfcnphenaaDoor
