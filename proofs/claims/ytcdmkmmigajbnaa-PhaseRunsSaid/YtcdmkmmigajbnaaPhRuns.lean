
/- PhaseRuns' walk. -/
import Derived.Test.YtcdmkmmigajbnaaJ07
namespace Go.Proofs.Ytcdmkmmigajbnaa
open Go.RowKit

set_option maxRecDepth 100000 in
set_option maxHeartbeats 4000000 in
theorem phaseRuns_walk (p : Int) (A : Option Addr) (l : List Int) (c : Nat) (t : Int) (W : World) (hp : B64p p) (h1 : l.length ≤ c) (h2 : c ≤ 9223372036854775807) (hz : I64s l) (hr : RdI W W.heap.size A l) (ht : 0 ≤ t ∧ t ≤ 255) (hT : Tph W) :
    Calls Try.prog 4 #[.int .i64 p, .slice A l.length c, .int .u8 t] W fun e W' => e = .returned (.bool true) ∧ Below W.heap.size W W' := by
  have HT := Lib.hid hT
  clear hT
  obtain ⟨n, hn⟩ : ∃ n, n = l.length := ⟨_, rfl⟩
  have HN := Lib.hid hn
  by_cases h60 : 60 < n
  · have h60i : (60 : Int) < (n : Int) := by omega
    rw [← hn]
    clear hn hr hz hp
    have HB := Lib.hid (Below.refl W.heap.size W)
    go_enter Try.func4, Try.ntmps4
    go_wp2_with fail
    refine (shown14_any _ (HT.out.below HB.out)).mono ?_
    rintro e w1 ⟨rfl, hb⟩
    have nHB := Lib.hid (belG HB.out hb HB.out.size)
    clear hb
    clear HB 
    have HB := nHB
    clear nHB 
    go_wp2_with fail
    go_ret
    exact ⟨by first | rfl | (simp; done), HB.out⟩
  have h60i : ¬ (60 : Int) < (n : Int) := by omega
  obtain ⟨tn, rfl⟩ := Int.eq_ofNat_of_zero_le ht.1
  have ht2 := ht.2
  obtain ⟨M, hM⟩ : ∃ M, M = n + 1 := ⟨_, rfl⟩
  have hMi : (n : Int) + 1 = (M : Int) := by omega
  have hM0 : (0 : Int) < (M : Int) := by omega
  have hM9 : (M : Int) ≤ 61 := by omega
  obtain ⟨k, hk⟩ : ∃ k, k = tn % M := ⟨_, rfl⟩
  have hkM : k < M := by rw [hk]; exact Nat.mod_lt _ (by omega)
  have hkn : k ≤ n := by omega
  have i4 : (tn : Int).tmod (M : Int) = (k : Int) := by rw [Int.tmod_eq_emod_of_nonneg (by omega), hk]; push_cast; rfl
  have i5 : (tn : Int) % (M : Int) = (k : Int) := by rw [hk]; push_cast; rfl
  have hk0 : (0 : Int) ≤ (k : Int) := Int.natCast_nonneg _
  have hkni : (k : Int) ≤ (n : Int) := by omega
  have hkci : (k : Int) ≤ (c : Int) := by omega
  have hnci : (n : Int) ≤ (c : Int) := by omega
  have CR := Lib.hid (fun w hT h => pRun_any p A l c w hT hp (by omega) h1 hz h)
  have CD := Lib.hid (fun w h => run14_any p A l c w (by omega) h)
  have HX := Lib.hid (run_64 hp (l.take k))
  have C1 := Lib.hid (fun B w hT h => pRun_any p B (l.take k) c w hT hp (by rw [List.length_take]; omega) (by rw [List.length_take]; omega) (fun z hz2 => hz z (List.mem_of_mem_take hz2)) h)
  have C2 := Lib.hid (fun B w hT h => pRun_any (runP p (l.take k)).1 B (l.drop k) (c - k) w hT HX.out (by rw [List.length_drop]; omega) (by rw [List.length_drop]; omega) (fun z hz2 => hz z (List.mem_of_mem_drop hz2)) h)
  rw [show (l.take k).length = k from by rw [List.length_take]; omega] at C1
  rw [show (l.drop k).length = n - k from by rw [List.length_drop]; omega] at C2
  have hap := run_append p (l.take k) (l.drop k)
  rw [List.take_append_drop] at hap
  have k1 := run_count p (l.take k)
  have k2 := run_count (runP p (l.take k)).1 (l.drop k)
  have k3 : ((l.take k).length : Int) ≤ 60 := by rw [List.length_take]; omega
  have k4 : ((l.drop k).length : Int) ≤ 60 := by rw [List.length_drop]; omega
  rw [hap] at CR CD
  obtain ⟨X, hX⟩ : ∃ x, x = (runP p (l.take k)).1 := ⟨_, rfl⟩
  rw [← hX] at CR CD C1 C2 k2
  obtain ⟨a, ha⟩ : ∃ x, x = (runP p (l.take k)).2 := ⟨_, rfl⟩
  rw [← ha] at CR CD C1 k1
  obtain ⟨Q, hQ⟩ : ∃ x, x = (runP X (l.drop k)).1 := ⟨_, rfl⟩
  obtain ⟨bb, hbb⟩ : ∃ x, x = (runP X (l.drop k)).2 := ⟨_, rfl⟩
  rw [← hQ, ← hbb] at CR CD C2
  rw [← hbb] at k2
  have a0 : 0 ≤ a := k1.1
  have a1 : a ≤ 60 := by omega
  have b0 : 0 ≤ bb := k2.1
  have b1 : bb ≤ 60 := by omega
  obtain ⟨S, hS⟩ : ∃ s, s = a + bb := ⟨_, rfl⟩
  have hSi : a + bb = S := hS.symm
  have s0 : 0 ≤ S := by omega
  have s1 : S ≤ 120 := by omega
  rw [hSi] at CR CD
  have q1 : (Q == Q) = true := by simp
  have q2 : (S == S) = true := by simp
  rw [← hn] at CR CD ⊢
  have RL := Lib.hid hr
  have RT := Lib.hid (hr.takeP k)
  have hnil : A = none → l.drop k = [] := fun e => by
    have : l.length = 0 := by
      by_cases h0 : 0 < l.length
      · obtain ⟨b, o, e2, _⟩ := hr h0; rw [e] at e2; cases e2
      · omega
    rw [List.length_eq_zero_iff.1 this]; simp
  have hcn : c = k → l.drop k = [] := fun e => List.drop_eq_nil_of_le (by omega)
  have HDR := Lib.hid (fun b o (e : A = some ⟨b, o, none⟩) => show RdI W W.heap.size (some ⟨b, o + k, none⟩) (l.drop k) from by rw [e] at hr; exact hr.dropP k)
  have hA0 : A = none → n = 0 := fun e => by
    by_cases h0 : 0 < l.length
    · obtain ⟨b, o, e2, _⟩ := hr h0; rw [e] at e2; cases e2
    · omega
  have hAf : ∀ ad, A = some ad → 0 < l.length → ∃ b o, ad = ⟨b, o, none⟩ := fun ad e h0 => by
    obtain ⟨b, o, e2, _⟩ := hr h0
    rw [e] at e2
    exact ⟨b, o, Option.some.inj e2⟩
  have hcnn : k = n → l.drop k = [] := fun e => List.drop_eq_nil_of_le (by omega)
  have hlp : k < n → 0 < l.length := fun h => by omega
  clear hn hr hz hp hX ha hQ hbb hk hap k1 k2 k3 k4 ht hS hM hkM h60
  cases A with
  | none =>
    obtain rfl : n = 0 := hA0 rfl
    obtain rfl : k = 0 := by omega
    have hd := hnil rfl
    rw [hd] at C2
    clear hnil hcn hcnn hlp hA0 hAf HDR
    have HB := Lib.hid (Below.refl W.heap.size W)
    go_enter Try.func4, Try.ntmps4
    go_wp2_with fail
    refine (shown14_any _ (HT.out.below HB.out)).mono ?_
    rintro e w1 ⟨rfl, hb⟩
    have nHB := Lib.hid (belG HB.out hb HB.out.size)
    have nRL := Lib.hid ((RL.out.below hb (Nat.le_refl _)).more hb.size)
    have nRT := Lib.hid ((RT.out.below hb (Nat.le_refl _)).more hb.size)
    clear hb
    clear HB RL RT
    have HB := nHB
    have RL := nRL
    have RT := nRT
    clear nHB nRL nRT
    go_wp2_with fail
    refine (CR.out _ (HT.out.below HB.out) RL.out).mono ?_
    rintro e w2 ⟨rfl, hb⟩
    have nHB := Lib.hid (belG HB.out hb HB.out.size)
    have nRL := Lib.hid ((RL.out.below hb (Nat.le_refl _)).more hb.size)
    have nRT := Lib.hid ((RT.out.below hb (Nat.le_refl _)).more hb.size)
    clear hb
    clear HB RL RT
    have HB := nHB
    have RL := nRL
    have RT := nRT
    clear nHB nRL nRT
    go_wp2_with fail
    refine (CD.out _ RL.out).mono ?_
    rintro e w3 ⟨rfl, hb⟩
    have nHB := Lib.hid (belG HB.out hb HB.out.size)
    have nRL := Lib.hid ((RL.out.below hb (Nat.le_refl _)).more hb.size)
    have nRT := Lib.hid ((RT.out.below hb (Nat.le_refl _)).more hb.size)
    clear hb
    clear HB RL RT
    have HB := nHB
    have RL := nRL
    have RT := nRT
    clear nHB nRL nRT
    go_wp2_with fail
    refine (C1.out _ _ (HT.out.below HB.out) RT.out).mono ?_
    rintro e w4 ⟨rfl, hb⟩
    have nHB := Lib.hid (belG HB.out hb HB.out.size)
    have nRL := Lib.hid ((RL.out.below hb (Nat.le_refl _)).more hb.size)
    have nRT := Lib.hid ((RT.out.below hb (Nat.le_refl _)).more hb.size)
    clear hb
    clear HB RL RT
    have HB := nHB
    have RL := nRL
    have RT := nRT
    clear nHB nRL nRT
    go_wp2_with fail
    refine (C2.out _ _ (HT.out.below HB.out) RdI.nil).mono ?_
    rintro e w5 ⟨rfl, hb⟩
    have nHB := Lib.hid (belG HB.out hb HB.out.size)
    have nRL := Lib.hid ((RL.out.below hb (Nat.le_refl _)).more hb.size)
    have nRT := Lib.hid ((RT.out.below hb (Nat.le_refl _)).more hb.size)
    clear hb
    clear HB RL RT
    have HB := nHB
    have RL := nRL
    have RT := nRT
    clear nHB nRL nRT
    go_wp2_with fail
    go_ret
    exact ⟨by first | rfl | (simp; done), HB.out⟩
  | some ad =>
    by_cases hkn2 : k = n
    · have hd := hcnn hkn2
      rw [hd] at C2
      clear hnil hcn hcnn hlp hA0 hAf HDR
      by_cases hck : c = k
      · subst hkn2
        subst hck
        simp only [Nat.sub_self] at C2
        have HB := Lib.hid (Below.refl W.heap.size W)
        go_enter Try.func4, Try.ntmps4
        go_wp2_with fail
        refine (shown14_any _ (HT.out.below HB.out)).mono ?_
        rintro e w1 ⟨rfl, hb⟩
        have nHB := Lib.hid (belG HB.out hb HB.out.size)
        have nRL := Lib.hid ((RL.out.below hb (Nat.le_refl _)).more hb.size)
        have nRT := Lib.hid ((RT.out.below hb (Nat.le_refl _)).more hb.size)
        clear hb
        clear HB RL RT
        have HB := nHB
        have RL := nRL
        have RT := nRT
        clear nHB nRL nRT
        go_wp2_with fail
        refine (CR.out _ (HT.out.below HB.out) RL.out).mono ?_
        rintro e w2 ⟨rfl, hb⟩
        have nHB := Lib.hid (belG HB.out hb HB.out.size)
        have nRL := Lib.hid ((RL.out.below hb (Nat.le_refl _)).more hb.size)
        have nRT := Lib.hid ((RT.out.below hb (Nat.le_refl _)).more hb.size)
        clear hb
        clear HB RL RT
        have HB := nHB
        have RL := nRL
        have RT := nRT
        clear nHB nRL nRT
        go_wp2_with fail
        refine (CD.out _ RL.out).mono ?_
        rintro e w3 ⟨rfl, hb⟩
        have nHB := Lib.hid (belG HB.out hb HB.out.size)
        have nRL := Lib.hid ((RL.out.below hb (Nat.le_refl _)).more hb.size)
        have nRT := Lib.hid ((RT.out.below hb (Nat.le_refl _)).more hb.size)
        clear hb
        clear HB RL RT
        have HB := nHB
        have RL := nRL
        have RT := nRT
        clear nHB nRL nRT
        go_wp2_with fail
        refine (C1.out _ _ (HT.out.below HB.out) RT.out).mono ?_
        rintro e w4 ⟨rfl, hb⟩
        have nHB := Lib.hid (belG HB.out hb HB.out.size)
        have nRL := Lib.hid ((RL.out.below hb (Nat.le_refl _)).more hb.size)
        have nRT := Lib.hid ((RT.out.below hb (Nat.le_refl _)).more hb.size)
        clear hb
        clear HB RL RT
        have HB := nHB
        have RL := nRL
        have RT := nRT
        clear nHB nRL nRT
        go_wp2_with fail
        refine (C2.out _ _ (HT.out.below HB.out) RdI.nil).mono ?_
        rintro e w5 ⟨rfl, hb⟩
        have nHB := Lib.hid (belG HB.out hb HB.out.size)
        have nRL := Lib.hid ((RL.out.below hb (Nat.le_refl _)).more hb.size)
        have nRT := Lib.hid ((RT.out.below hb (Nat.le_refl _)).more hb.size)
        clear hb
        clear HB RL RT
        have HB := nHB
        have RL := nRL
        have RT := nRT
        clear nHB nRL nRT
        go_wp2_with fail
        go_ret
        exact ⟨by first | rfl | (simp; done), HB.out⟩
      · subst hkn2
        simp only [Nat.sub_self] at C2
        have HB := Lib.hid (Below.refl W.heap.size W)
        go_enter Try.func4, Try.ntmps4
        go_wp2_with fail
        refine (shown14_any _ (HT.out.below HB.out)).mono ?_
        rintro e w1 ⟨rfl, hb⟩
        have nHB := Lib.hid (belG HB.out hb HB.out.size)
        have nRL := Lib.hid ((RL.out.below hb (Nat.le_refl _)).more hb.size)
        have nRT := Lib.hid ((RT.out.below hb (Nat.le_refl _)).more hb.size)
        clear hb
        clear HB RL RT
        have HB := nHB
        have RL := nRL
        have RT := nRT
        clear nHB nRL nRT
        go_wp2_with fail
        refine (CR.out _ (HT.out.below HB.out) RL.out).mono ?_
        rintro e w2 ⟨rfl, hb⟩
        have nHB := Lib.hid (belG HB.out hb HB.out.size)
        have nRL := Lib.hid ((RL.out.below hb (Nat.le_refl _)).more hb.size)
        have nRT := Lib.hid ((RT.out.below hb (Nat.le_refl _)).more hb.size)
        clear hb
        clear HB RL RT
        have HB := nHB
        have RL := nRL
        have RT := nRT
        clear nHB nRL nRT
        go_wp2_with fail
        refine (CD.out _ RL.out).mono ?_
        rintro e w3 ⟨rfl, hb⟩
        have nHB := Lib.hid (belG HB.out hb HB.out.size)
        have nRL := Lib.hid ((RL.out.below hb (Nat.le_refl _)).more hb.size)
        have nRT := Lib.hid ((RT.out.below hb (Nat.le_refl _)).more hb.size)
        clear hb
        clear HB RL RT
        have HB := nHB
        have RL := nRL
        have RT := nRT
        clear nHB nRL nRT
        go_wp2_with fail
        refine (C1.out _ _ (HT.out.below HB.out) RT.out).mono ?_
        rintro e w4 ⟨rfl, hb⟩
        have nHB := Lib.hid (belG HB.out hb HB.out.size)
        have nRL := Lib.hid ((RL.out.below hb (Nat.le_refl _)).more hb.size)
        have nRT := Lib.hid ((RT.out.below hb (Nat.le_refl _)).more hb.size)
        clear hb
        clear HB RL RT
        have HB := nHB
        have RL := nRL
        have RT := nRT
        clear nHB nRL nRT
        go_wp2_with fail
        refine (C2.out _ _ (HT.out.below HB.out) RdI.nil).mono ?_
        rintro e w5 ⟨rfl, hb⟩
        have nHB := Lib.hid (belG HB.out hb HB.out.size)
        have nRL := Lib.hid ((RL.out.below hb (Nat.le_refl _)).more hb.size)
        have nRT := Lib.hid ((RT.out.below hb (Nat.le_refl _)).more hb.size)
        clear hb
        clear HB RL RT
        have HB := nHB
        have RL := nRL
        have RT := nRT
        clear nHB nRL nRT
        go_wp2_with fail
        go_ret
        exact ⟨by first | rfl | (simp; done), HB.out⟩
    · obtain ⟨b, o, rfl⟩ := hAf ad rfl (hlp (by omega))
      have hck : ¬ c = k := by omega
      have RD := Lib.hid (HDR.out b o rfl)
      have hck2 : ¬ k = c := fun e => hck e.symm
      clear hnil hcn hcnn hlp hA0 hAf HDR hkn2
      have HB := Lib.hid (Below.refl W.heap.size W)
      go_enter Try.func4, Try.ntmps4
      go_wp2_with fail
      refine (shown14_any _ (HT.out.below HB.out)).mono ?_
      rintro e w1 ⟨rfl, hb⟩
      have nHB := Lib.hid (belG HB.out hb HB.out.size)
      have nRL := Lib.hid ((RL.out.below hb (Nat.le_refl _)).more hb.size)
      have nRT := Lib.hid ((RT.out.below hb (Nat.le_refl _)).more hb.size)
      have nRD := Lib.hid ((RD.out.below hb (Nat.le_refl _)).more hb.size)
      clear hb
      clear HB RL RT RD
      have HB := nHB
      have RL := nRL
      have RT := nRT
      have RD := nRD
      clear nHB nRL nRT nRD
      go_wp2_with fail
      refine (CR.out _ (HT.out.below HB.out) RL.out).mono ?_
      rintro e w2 ⟨rfl, hb⟩
      have nHB := Lib.hid (belG HB.out hb HB.out.size)
      have nRL := Lib.hid ((RL.out.below hb (Nat.le_refl _)).more hb.size)
      have nRT := Lib.hid ((RT.out.below hb (Nat.le_refl _)).more hb.size)
      have nRD := Lib.hid ((RD.out.below hb (Nat.le_refl _)).more hb.size)
      clear hb
      clear HB RL RT RD
      have HB := nHB
      have RL := nRL
      have RT := nRT
      have RD := nRD
      clear nHB nRL nRT nRD
      go_wp2_with fail
      refine (CD.out _ RL.out).mono ?_
      rintro e w3 ⟨rfl, hb⟩
      have nHB := Lib.hid (belG HB.out hb HB.out.size)
      have nRL := Lib.hid ((RL.out.below hb (Nat.le_refl _)).more hb.size)
      have nRT := Lib.hid ((RT.out.below hb (Nat.le_refl _)).more hb.size)
      have nRD := Lib.hid ((RD.out.below hb (Nat.le_refl _)).more hb.size)
      clear hb
      clear HB RL RT RD
      have HB := nHB
      have RL := nRL
      have RT := nRT
      have RD := nRD
      clear nHB nRL nRT nRD
      go_wp2_with fail
      refine (C1.out _ _ (HT.out.below HB.out) RT.out).mono ?_
      rintro e w4 ⟨rfl, hb⟩
      have nHB := Lib.hid (belG HB.out hb HB.out.size)
      have nRL := Lib.hid ((RL.out.below hb (Nat.le_refl _)).more hb.size)
      have nRT := Lib.hid ((RT.out.below hb (Nat.le_refl _)).more hb.size)
      have nRD := Lib.hid ((RD.out.below hb (Nat.le_refl _)).more hb.size)
      clear hb
      clear HB RL RT RD
      have HB := nHB
      have RL := nRL
      have RT := nRT
      have RD := nRD
      clear nHB nRL nRT nRD
      go_wp2_with fail
      refine (C2.out _ _ (HT.out.below HB.out) RD.out).mono ?_
      rintro e w5 ⟨rfl, hb⟩
      have nHB := Lib.hid (belG HB.out hb HB.out.size)
      have nRL := Lib.hid ((RL.out.below hb (Nat.le_refl _)).more hb.size)
      have nRT := Lib.hid ((RT.out.below hb (Nat.le_refl _)).more hb.size)
      have nRD := Lib.hid ((RD.out.below hb (Nat.le_refl _)).more hb.size)
      clear hb
      clear HB RL RT RD
      have HB := nHB
      have RL := nRL
      have RT := nRT
      have RD := nRD
      clear nHB nRL nRT nRD
      go_wp2_with fail
      go_ret
      exact ⟨by first | rfl | (simp; done), HB.out⟩
end Go.Proofs.Ytcdmkmmigajbnaa
