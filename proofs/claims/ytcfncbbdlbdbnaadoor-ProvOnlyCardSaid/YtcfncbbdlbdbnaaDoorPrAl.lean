
/- ProvAlike's walk. -/
import Derived.Test.YtcfncbbdlbdbnaaDoorAskB
import Derived.Test.YtcfncbbdlbdbnaaDoorRows2
import Derived.Test.YtcfncbbdlbdbnaaDoorPrS
namespace Go.Proofs.YtcfncbbdlbdbnaaDoor
open Go.RowKit

theorem Mat.al {W : World} {A : Option Addr} {gs : List (List UInt8)} (h : Mat W W.heap.size A gs) (o : Obj) : Mat (W.alloc o) (W.alloc o).heap.size A gs := by
  have b := (Below.refl W.heap.size W).alloc (Nat.le_refl _) o
  exact (h.below b (Nat.le_refl _)).more b.size
theorem Mat.put {W : World} {g : Nat} {A X : Option Addr} {gs : List (List UInt8)} {i f : Bool} {n c : Nat} {t : TypeId} {fr : Nat × Nat} (h : Mat W W.heap.size A gs) (hg : W.heap[g]? = some (.cells (pcs i X n c f) t fr)) (hne : ∀ p, A = some p → p.block ≠ g) (x y z : Value) : Mat (Go.Proofs.YtcfncbbdlbdbnaaDoor.set3 W g x y z) (Go.Proofs.YtcfncbbdlbdbnaaDoor.set3 W g x y z).heap.size A gs := by
  rw [set3_size]
  exact h.set3 hg hne x y z
theorem gblock {G G1 : Option Addr} {B0 S1 V g4 g5 : Nat} (h : ∀ p, G1 = some p → (G = some p ∨ (B0 ≤ p.block ∧ p.block < S1))) (hi : ∀ p, G = some p → p.block < V ∧ p.block ≠ g4 ∧ p.block ≠ g5) (h4 : g4 < V) (h5 : g5 < V) (hB : V ≤ B0) (hS : V ≤ S1) :
    ∀ p, G1 = some p → p.block < S1 ∧ p.block ≠ g4 ∧ p.block ≠ g5 := by
  intro p hp
  rcases h p hp with h1 | ⟨h1, h2⟩
  · obtain ⟨a, b, c⟩ := hi p h1
    exact ⟨by omega, b, c⟩
  · exact ⟨h2, by omega, by omega⟩
theorem gblock_z {G G1 : Option Addr} {B0 S1 V g4 g5 : Nat} (h : ∀ p, G1 = some p → (G = some p ∨ (B0 ≤ p.block ∧ p.block < S1))) (hi : ∀ p, G = some p → p.block < V ∧ p.block ≠ g4 ∧ p.block ≠ g5) (hB : V < B0) : ∀ p, G1 = some p → p.block ≠ V := by
  intro p hp
  rcases h p hp with h1 | ⟨h1, h2⟩
  · obtain ⟨a, b, c⟩ := hi p h1
    omega
  · omega
theorem q_alike (l : List Pr) (f : Bool) (gs : List (List UInt8)) (q : Qn) (h : qF l f gs q = false) : qY true l gs q = qY false l gs q := by
  unfold qF at h
  unfold qY
  by_cases h0 : q.kd.toNat % 4 = 0
  · rw [if_pos h0, if_pos h0]
  · rw [if_neg h0] at h
    rw [if_neg h0, if_neg h0]
    cases hr : decide (qT gs q = cutF (qK q) (qB q)) <;> cases hh : decide ((qK q, qB q) ∈ l) <;> simp_all
theorem qL_len (l : List Pr) (q : Qn) : (qL l q).length ≤ l.length + 1 := by
  unfold qL tabF
  split
  · split <;> simp
  · omega
theorem qG_len (gs : List (List UInt8)) (q : Qn) : (qG gs q).length ≤ gs.length + 1 := by
  unfold qG
  split <;> simp
theorem qG_60 (gs : List (List UInt8)) (q : Qn) (h : ∀ g ∈ gs, g.length ≤ 60) : ∀ g ∈ qG gs q, g.length ≤ 60 := by
  unfold qG
  split
  · intro g hg
    rcases List.mem_append.1 hg with h1 | h1
    · exact h g h1
    · simp only [List.mem_cons, List.not_mem_nil, or_false] at h1
      rw [h1, cutF_length]
      omega
  · exact h

/-- what holds between two questions -/
def InvA (W wr : World) (g4 g5 j : Nat) (l : List Pr) (f : Bool) (gs : List (List UInt8)) (A : Option Addr) (n c : Nat) (C : Option Addr) (cc : Nat) (G : Option Addr) (m d : Nat) (Hh : Option Addr) (e : Nat) : Prop :=
  Below W.heap.size W wr ∧ wr.heap[g4]? = some (.cells (pcs true A n c f) 24 (0, 0)) ∧ wr.heap[g5]? = some (.cells (pcs false C n cc f) 24 (0, 0)) ∧ n = l.length ∧ (n ≤ c ∧ c ≤ 9223372036854775807) ∧ (n ≤ cc ∧ cc ≤ 9223372036854775807) ∧ Tab wr wr.heap.size A l ∧ Tab wr wr.heap.size C l ∧
  m = gs.length ∧ (m ≤ d ∧ d ≤ 9223372036854775807) ∧ (m ≤ e ∧ e ≤ 9223372036854775807) ∧ Mat wr wr.heap.size G gs ∧ Mat wr wr.heap.size Hh gs ∧ (∀ p, G = some p → p.block < wr.heap.size ∧ p.block ≠ g4 ∧ p.block ≠ g5) ∧ (∀ p, Hh = some p → p.block < wr.heap.size ∧ p.block ≠ g4 ∧ p.block ≠ g5) ∧ n ≤ j ∧ m ≤ j ∧ (∀ g ∈ gs, g.length ≤ 60) ∧ W.heap.size ≤ g4 ∧ W.heap.size ≤ g5 ∧ g4 ≠ g5

set_option maxRecDepth 100000 in
set_option maxHeartbeats 8000000 in
theorem provAlike_walk (L : Option Addr) (ls : List Qn) (lc : Nat) (W : World) (hlc : ls.length ≤ lc) (hlm : lc ≤ 9223372036854775807) (hA : Asks W W.heap.size L ls) (hK : Ks W) :
    Calls Tryd.prog 4 #[.slice L ls.length lc] W fun e W' => e = .returned (.bool true) ∧ Below W.heap.size W W' := by
  have hf3 := fold3
  have KB := Lib.hid (fun w (h : Below W.heap.size W w) => Ks.call hK h)
  obtain ⟨N, hN⟩ : ∃ n, n = ls.length := ⟨_, rfl⟩
  have HN := Lib.hid hN
  have hN63 : N ≤ 9223372036854775807 := by omega
  rw [← hN]
  have HA := Lib.hid hA
  clear hK hA hN hlc hlm
  by_cases h20 : 20 < N
  · have hi : (20 : Int) < (N : Int) := by omega
    go_enter Tryd.func4, Tryd.ntmps4
    go_wp2_with fail
    refine (shown4_any _ (KB.out _ (Below.refl _ _))).mono ?_
    rintro e w1 ⟨rfl, hb1⟩
    have HB := Lib.hid hb1
    clear hb1
    go_wp2_with fail
    go_ret
    exact ⟨rfl, HB.out⟩
  have hi : ¬ (20 : Int) < (N : Int) := by omega
  go_enter Tryd.func4, Tryd.ntmps4
  go_wp2_with fail
  refine (shown4_any _ (KB.out _ (Below.refl _ _))).mono ?_
  rintro e w1 ⟨rfl, hb1⟩
  have HB1 := Lib.hid hb1
  clear hb1
  go_wp2_with fail
  refine (new4_any true _).mono ?_
  rintro e w2 ⟨rfl, hb2⟩
  have HB2 := Lib.hid (bel_call HB1.out hb2 HB1.out.size)
  clear hb2 HB1
  go_wp2_with fail
  refine (new4_any false _).mono ?_
  rintro e w3 ⟨rfl, hb3⟩
  have p1 := old_below (heap_alloc_new w2 (.cells (pcs true none 0 0 false) 24)) hb3 (Nat.le_refl _)
  have b1 := bel_call (HB2.out.alloc HB2.out.size (.cells (pcs true none 0 0 false) 24)) hb3 (HB2.out.alloc HB2.out.size (.cells (pcs true none 0 0 false) 24)).size
  have hlt : w2.heap.size < w3.heap.size := (Array.getElem?_eq_some_iff.1 p1).1
  obtain ⟨-, q2, q3, q4, q5⟩ := alloc3 w3 (.cells (pcs false none 0 0 false) 24) (.cells #[] 25) (.cells #[] 25)
  obtain ⟨q1, -, -, -, -⟩ := alloc3 w3 (.cells (pcs false none 0 0 false) 24) (.cells #[] 25) (.cells #[] 25)
  have p4 := old_below p1 q5 (Nat.le_refl _)
  have b4 := bel_call b1 q5 b1.size
  obtain ⟨V, hV⟩ : ∃ V, V = ((w3.alloc (.cells (pcs false none 0 0 false) 24)).alloc (.cells #[] 25)).alloc (.cells #[] 25) := ⟨_, rfl⟩
  rw [← hV] at q1 q2 q3 q4 p4 b4
  obtain ⟨g4, hg4⟩ : ∃ g, g = w2.heap.size := ⟨_, rfl⟩
  obtain ⟨g5, hg5⟩ : ∃ g, g = w3.heap.size := ⟨_, rfl⟩
  have HI0 := Lib.hid (show InvA W V g4 g5 0 [] false [] none 0 0 none 0 (some ⟨g5 + 1, 0, none⟩) 0 0 (some ⟨g5 + 1 + 1, 0, none⟩) 0 from by
    rw [← hg4] at p4
    rw [← hg5] at q1 q4
    exact ⟨b4, p4, q1, rfl, ⟨by omega, by omega⟩, ⟨by omega, by omega⟩, Tab.nil, Tab.nil, rfl, ⟨by omega, by omega⟩, ⟨by omega, by omega⟩, fun h => absurd h (by simp), fun h => absurd h (by simp), fun p hp => by cases hp; exact ⟨by show g5 + 1 < _; omega, by show g5 + 1 ≠ _; omega, by show g5 + 1 ≠ _; omega⟩, fun p hp => by cases hp; exact ⟨by show g5 + 1 + 1 < _; omega, by show g5 + 1 + 1 ≠ _; omega, by show g5 + 1 + 1 ≠ _; omega⟩, by omega, by omega, by simp, by have := HB2.out.size; omega, by have := b1.size; omega, by omega⟩)
  have HV := Lib.hid hV
  have HG4 := Lib.hid hg4
  have HG5 := Lib.hid hg5
  clear p1 b1 hlt q1 q2 q3 q4 q5 p4 b4 hV hg4 hg5 hb3 HB2
  go_wp2_with fail
  rw [← HV.out, ← HG5.out, ← HG4.out]
  clear HV HG4 HG5
  go_loopw [6, 7, 8] (fun u v iv wr => ∃ (j : Nat) (l : List Pr) (f : Bool) (gs : List (List UInt8)) (A : Option Addr) (n c : Nat) (C : Option Addr) (cc : Nat) (G : Option Addr) (m d : Nat) (Hh : Option Addr) (e : Nat), j ≤ N ∧ iv = .int .i64 j ∧ u = .slice G m d ∧ v = .slice Hh m e ∧ Hid (InvA W wr g4 g5 j l f gs A n c C cc G m d Hh e)) (fun _ _ iv _ => N - (intOf iv).toNat)
  case atStart => exact ⟨0, [], false, [], none, 0, 0, none, 0, _, 0, 0, _, 0, by omega, rfl, rfl, rfl, HI0⟩
  case round =>
    clear HI0
    obtain ⟨j, l, f, gs, A, n, c, C, cc, G, m, d, Hh, e, hj, rfl, rfl, rfl, HI⟩ := hrel
    obtain ⟨hB, h4, h5, hnl, ⟨hc1, hc2⟩, ⟨hcc1, hcc2⟩, hTA, hTC, hml, ⟨hd1, hd2⟩, ⟨he1, he2⟩, hMG, hMH, hG, hH, hnj, hmj, h60, hW4, hW5, h45⟩ := HI.out
    have BW := Lib.hid hB
    by_cases hlt : j < N
    · skip
      have hjl : j < ls.length := by have := HN.out; omega
      obtain ⟨bq, oq, rfl, hbq, hrow⟩ := HA.out (by omega)
      obtain ⟨T, tc, k0, k1, k2, k3, t1, t2, t3⟩ := hrow j hjl
      obtain ⟨q, hq⟩ : ∃ q, q = ls[j] := ⟨_, rfl⟩
      rw [← hq] at k0 k1 k2 k3 t1 t3
      have RQ := Lib.hid (fun w (h : Below W.heap.size W w) => (⟨(h.cell (p := ⟨bq, oq + j * 4, none⟩) hbq).trans k0, (h.cell (p := ⟨bq, oq + j * 4 + 1, none⟩) hbq).trans k1, (h.cell (p := ⟨bq, oq + j * 4 + 2, none⟩) hbq).trans k2, (h.cell (p := ⟨bq, oq + j * 4 + 3, none⟩) hbq).trans k3⟩ : w.cell? ⟨bq, oq + j * 4, none⟩ = some (.int .u8 (q.kd.toNat : Int)) ∧ w.cell? ⟨bq, oq + j * 4 + 1, none⟩ = some (.int .u8 (q.ky.toNat : Int)) ∧ w.cell? ⟨bq, oq + j * 4 + 2, none⟩ = some (.int .u8 (q.bb.toNat : Int)) ∧ w.cell? ⟨bq, oq + j * 4 + 3, none⟩ = some (.slice T q.tag.length tc)))
      have RT := Lib.hid (fun w (h : Below W.heap.size W w) => (t3.below h (Nat.le_refl _)).more h.size)
      obtain ⟨tn, htn⟩ : ∃ n, n = q.tag.length := ⟨_, rfl⟩
      rw [← htn] at RQ
      have HTN := Lib.hid htn
      have hji : (j : Int) < (N : Int) := by omega
      have hj0 : (0 : Int) ≤ (j : Int) := Int.natCast_nonneg _
      obtain ⟨s0, s1, s2, s3⟩ := RQ.out _ BW.out
      have htn63 : tn ≤ 9223372036854775807 := by omega
      clear k0 k1 k2 k3 hrow hq hjl
      by_cases h6 : 60 < tn
      · have i6 : (60 : Int) < (tn : Int) := by omega
        clear h4 h5 hTA hTC hMG hMH hG hH HI hB t1 t3 htn
        go_wp2_with fail
        go_ret
        exact ⟨rfl, BW.out⟩
      have i6 : ¬ (60 : Int) < (tn : Int) := by omega
      obtain ⟨L1, hL1⟩ : ∃ x, x = qL l q := ⟨_, rfl⟩
      obtain ⟨F1, hF1⟩ : ∃ x, x = qF l f gs q := ⟨_, rfl⟩
      obtain ⟨Ya, hYa⟩ : ∃ x, x = qY true l gs q := ⟨_, rfl⟩
      obtain ⟨Yb, hYb⟩ : ∃ x, x = qY false l gs q := ⟨_, rfl⟩
      obtain ⟨GS, hGS⟩ : ∃ x, x = qG gs q := ⟨_, rfl⟩
      obtain ⟨N1, hN1⟩ : ∃ x, x = L1.length := ⟨_, rfl⟩
      obtain ⟨M1, hM1⟩ : ∃ x, x = GS.length := ⟨_, rfl⟩
      have hYY : F1 = false → Ya = Yb := by rw [hF1, hYa, hYb]; exact q_alike l f gs q
      have HNJ := Lib.hid (show N1 ≤ j + 1 by have := qL_len l q; rw [hN1, hL1]; omega)
      have HMJ := Lib.hid (show M1 ≤ j + 1 by have := qG_len gs q; rw [hM1, hGS]; omega)
      have H60 := Lib.hid (show ∀ g ∈ GS, g.length ≤ 60 by rw [hGS]; exact qG_60 gs q h60)
      have CA := Lib.hid (fun w (h : Below wr.heap.size wr w) => show Calls Tryd.prog 22 #[.agg #[.bool true, .slice A n c, .bool f], .agg #[.int .u8 (q.kd.toNat : Int), .int .u8 (q.ky.toNat : Int), .int .u8 (q.bb.toNat : Int), .slice T tn tc], .slice G m d] w fun e W' => AnsA G w.heap.size W' e true L1 F1 Ya GS ∧ Below w.heap.size w W' from by
        have hw := bel_call BW.out h BW.out.size
        rw [hL1, hF1, hYa, hGS, hnl, hml, HTN.out]
        exact asked_any true f A l c q T tc G gs d w (by omega) hc2 (by omega) (by omega) t1 t2 (by omega) h60 (by omega) hd2 ((hTA.below h (Nat.le_refl _)).more h.size) (RT.out w hw) ((hMG.below h (Nat.le_refl _)).more h.size) (KB.out w hw))
      have CB := Lib.hid (fun w (h : Below wr.heap.size wr w) => show Calls Tryd.prog 22 #[.agg #[.bool false, .slice C n cc, .bool f], .agg #[.int .u8 (q.kd.toNat : Int), .int .u8 (q.ky.toNat : Int), .int .u8 (q.bb.toNat : Int), .slice T tn tc], .slice Hh m e] w fun e' W' => AnsA Hh w.heap.size W' e' false L1 F1 Yb GS ∧ Below w.heap.size w W' from by
        have hw := bel_call BW.out h BW.out.size
        rw [hL1, hF1, hYb, hGS, hnl, hml, HTN.out]
        exact asked_any false f C l cc q T tc Hh gs e w (by omega) hcc2 (by omega) (by omega) t1 t2 (by omega) h60 (by omega) he2 ((hTC.below h (Nat.le_refl _)).more h.size) (RT.out w hw) ((hMH.below h (Nat.le_refl _)).more h.size) (KB.out w hw))
      have HN1 := Lib.hid hN1
      have HM1 := Lib.hid hM1
      have GP4 := Lib.hid h4
      have GP5 := Lib.hid h5
      have HG := Lib.hid hG
      have HH := Lib.hid hH
      have l4 : g4 < wr.heap.size := (Array.getElem?_eq_some_iff.1 h4).1
      have l5 : g5 < wr.heap.size := (Array.getElem?_eq_some_iff.1 h5).1
      clear h4 h5 hTA hTC hMG hMH hG hH HI hB t1 t3 htn hL1 hF1 hYa hYb hGS hN1 hM1 hnl hml h60
      go_wp2_with fail
      clear s0 s1 s2 s3
      obtain ⟨V0, hV0⟩ : ∃ x, x = wr := ⟨_, rfl⟩
      rw [← hV0] at BW CA CB GP4 GP5 HG HH l4 l5
      rw [← hV0]
      clear hV0
      have HBZ := Lib.hid (show V0.heap.size < (V0.alloc (.cells #[.bool false, .slice none 0 0, .bool false] 24)).drew.heap.size from by show _ < (V0.alloc _).heap.size; rw [World.size_alloc]; omega)
      have F0 := Lib.hid (fun w (h : Below V0.heap.size V0 w) => bel_call BW.out h BW.out.size)
      have FC := Lib.hid (fun w (h : Below V0.heap.size V0 w) => h)
      have BB0 := Lib.hid ((Below.refl V0.heap.size V0).drew)
      have BA := Lib.hid (((Below.refl V0.heap.size V0).alloc (Nat.le_refl _) (.cells #[.bool false, .slice none 0 0, .bool false] 24)).drew)
      have KEEP := Lib.hid (show ∀ w', Below V0.heap.size V0 w' → (Below V0.heap.size V0 w' ∧ w'.cell? ⟨g4, 0, none⟩ = some (.bool true) ∧ w'.cell? ⟨g4, 1, none⟩ = some (.slice A n c) ∧ w'.cell? ⟨g4, 2, none⟩ = some (.bool f) ∧ w'.cell? ⟨bq, oq + j * 4, none⟩ = some (.int .u8 (q.kd.toNat : Int)) ∧ w'.cell? ⟨bq, oq + j * 4 + 1, none⟩ = some (.int .u8 (q.ky.toNat : Int)) ∧ w'.cell? ⟨bq, oq + j * 4 + 2, none⟩ = some (.int .u8 (q.bb.toNat : Int)) ∧ w'.cell? ⟨bq, oq + j * 4 + 3, none⟩ = some (.slice T tn tc)) from fun w' h => by
        obtain ⟨a0, a1', a2'⟩ := cells3 (old_below GP4.out h (Nat.le_refl _))
        exact ⟨h, a0, a1', a2', RQ.out _ (F0.out _ h)⟩)
      go_cut [9, 10, 11] (fun v u s wx => ∃ g A1 c1 G1 d1, v = .pointer (some ⟨g, 0, none⟩) ∧ u = .bool Ya ∧ s = .slice G1 M1 d1 ∧ wx.heap[g]? = some (.cells (pcs true A1 N1 c1 F1) 24 (0, 0)) ∧ V0.heap.size ≤ g ∧ (N1 ≤ c1 ∧ c1 ≤ 9223372036854775807) ∧ (M1 ≤ d1 ∧ d1 ≤ 9223372036854775807) ∧ Tab wx wx.heap.size A1 L1 ∧ Mat wx wx.heap.size G1 GS ∧ (∀ p, G1 = some p → p.block < wx.heap.size ∧ p.block ≠ g4 ∧ p.block ≠ g5) ∧ Below V0.heap.size V0 wx)
      case first =>
        go_region_held3 (fun w' => Below V0.heap.size V0 w' ∧ w'.cell? ⟨g4, 0, none⟩ = some (.bool true) ∧ w'.cell? ⟨g4, 1, none⟩ = some (.slice A n c) ∧ w'.cell? ⟨g4, 2, none⟩ = some (.bool f) ∧ w'.cell? ⟨bq, oq + j * 4, none⟩ = some (.int .u8 (q.kd.toNat : Int)) ∧ w'.cell? ⟨bq, oq + j * 4 + 1, none⟩ = some (.int .u8 (q.ky.toNat : Int)) ∧ w'.cell? ⟨bq, oq + j * 4 + 2, none⟩ = some (.int .u8 (q.bb.toNat : Int)) ∧ w'.cell? ⟨bq, oq + j * 4 + 3, none⟩ = some (.slice T tn tc))
          (first | with_reducible exact KEEP.out _ BB0.out | with_reducible exact KEEP.out _ BA.out | with_reducible exact KEEP.out _ BB1.out | with_reducible exact KEEP.out _ (BB1.out.alloc hs1 _) | exact KEEP.out _ (Below.set3 BB1.out (Nat.le_refl _) _ _ _))
          (first
          | (go_at_call 22; (with_reducible refine (CA.out _ ?_).mono ?_); (first | with_reducible exact FC.out _ BB0.out | with_reducible exact FC.out _ BA.out); rintro e ww1 ⟨⟨n1, A1, c1, m1, G1, d1, rfl, hn1, q1, q2, hm1, q3, q4, hT1, hM1, hG1⟩, hb⟩; have BB1 := Lib.hid (by first | with_reducible exact bel_call BB0.out hb BB0.out.size | with_reducible exact bel_call BA.out hb BA.out.size); have hs1 : V0.heap.size ≤ ww1.heap.size := BB1.out.size; (first | (have hz := old_below (g := V0.heap.size) (by exact heap_alloc_new V0 (.cells #[.bool false, .slice none 0 0, .bool false] 24)) hb (Nat.le_refl _); have ZZ1 := Lib.hid hz; obtain ⟨z0, z1, z2⟩ := cells3 hz; obtain ⟨y0, y1, y2⟩ := frozen3 hz; clear hz) | skip); have h9 : N1 = n1 := (hn1.trans HN1.out.symm).symm; clear hn1; subst h9; have h9 : M1 = m1 := (hm1.trans HM1.out.symm).symm; clear hm1; subst h9; have HT := Lib.hid hT1; have HM := Lib.hid hM1; have HGa := Lib.hid (gblock hG1 HG.out l4 l5 (by first | with_reducible exact BB0.out.size | with_reducible exact BA.out.size) hs1); (first | (have hz9 := gblock_z hG1 HG.out HBZ.out; have HGz := Lib.hid hz9; clear hz9) | skip); clear hT1 hM1 hG1; clear hb))
        all_goals
          go_wp2_with fail
          go_meet
          case rel => first
            | (refine ⟨ww1.heap.size, A1, c1, G1, d1, by with_reducible rfl, by with_reducible rfl, by with_reducible rfl, heap_alloc_new ww1 _, hs1, ⟨q1, q2⟩, ⟨q3, q4⟩, HT.out.al _, HM.out.al _, fun p hp => ⟨by rw [World.size_alloc]; have := (HGa.out p hp).1; omega, (HGa.out p hp).2⟩, BB1.out.alloc hs1 _⟩)
            | (refine ⟨V0.heap.size, A1, c1, G1, d1, by with_reducible rfl, by with_reducible rfl, by with_reducible rfl, set3_same (.bool true) (.slice A1 N1 c1) (.bool F1) ZZ1.out, (Nat.le_refl _), ⟨q1, q2⟩, ⟨q3, q4⟩, HT.out.put ZZ1.out (.bool true) (.slice A1 N1 c1) (.bool F1), HM.out.put ZZ1.out HGz.out (.bool true) (.slice A1 N1 c1) (.bool F1), fun p hp => ⟨Nat.lt_of_lt_of_eq (HGa.out p hp).1 (set3_size ww1 _ (.bool true) (.slice A1 N1 c1) (.bool F1)).symm, (HGa.out p hp).2⟩, Below.set3 BB1.out (Nat.le_refl _) (.bool true) (.slice A1 N1 c1) (.bool F1)⟩)
      case rest =>
      obtain ⟨g9, A1, c1, G1, d1, rfl, rfl, rfl, hg, hgl, ⟨e1, e2⟩, ⟨e3, e4⟩, hT, hM, hGb, hB⟩ := hcut
      obtain ⟨V1, hV1⟩ : ∃ x, x = wc := ⟨_, rfl⟩
      rw [← hV1] at hg hT hM hGb hB
      rw [← hV1]
      have nGP4 := Lib.hid (old_below GP4.out hB (Nat.le_refl _))
      have nGP5 := Lib.hid (old_below GP5.out hB (Nat.le_refl _))
      have nBW := Lib.hid (bel_call BW.out hB BW.out.size)
      have B01 := Lib.hid hB
      have nHH := Lib.hid (show ∀ p, Hh = some p → p.block < V1.heap.size ∧ p.block ≠ g4 ∧ p.block ≠ g5 from fun p hp => ⟨Nat.lt_of_lt_of_le (HH.out p hp).1 hB.size, (HH.out p hp).2⟩)
      have G9 := Lib.hid hg
      have HT1 := Lib.hid hT
      have HM1' := Lib.hid hM
      have HGb := Lib.hid hGb
      have n94 : g9 ≠ g4 := by omega
      have n95 : g9 ≠ g5 := by omega
      have L4 : g4 < V1.heap.size := by have := hB.size; omega
      have L5 : g5 < V1.heap.size := by have := hB.size; omega
      clear hV1 hg hgl hT hM hGb hB BB0 BA KEEP F0 FC GP4 GP5 BW HH HBZ l4 l5
      have l4 := L4
      have l5 := L5
      have GP4 := nGP4
      have GP5 := nGP5
      have BW := nBW
      have HH := nHH
      clear nGP4 nGP5 nBW nHH L4 L5 CA HG
      go_wp2_with fail
      have HBZ := Lib.hid (show V1.heap.size < (V1.alloc (.cells #[.bool false, .slice none 0 0, .bool false] 24)).drew.heap.size from by show _ < (V1.alloc _).heap.size; rw [World.size_alloc]; omega)
      have F0 := Lib.hid (fun w (h : Below V1.heap.size V1 w) => bel_call BW.out h BW.out.size)
      have FC := Lib.hid (fun w (h : Below V1.heap.size V1 w) => bel_call B01.out h B01.out.size)
      have BB0 := Lib.hid ((Below.refl V1.heap.size V1).drew)
      have BA := Lib.hid (((Below.refl V1.heap.size V1).alloc (Nat.le_refl _) (.cells #[.bool false, .slice none 0 0, .bool false] 24)).drew)
      have KEEP := Lib.hid (show ∀ w', Below V1.heap.size V1 w' → (Below V1.heap.size V1 w' ∧ w'.cell? ⟨g5, 0, none⟩ = some (.bool false) ∧ w'.cell? ⟨g5, 1, none⟩ = some (.slice C n cc) ∧ w'.cell? ⟨g5, 2, none⟩ = some (.bool f) ∧ w'.cell? ⟨bq, oq + j * 4, none⟩ = some (.int .u8 (q.kd.toNat : Int)) ∧ w'.cell? ⟨bq, oq + j * 4 + 1, none⟩ = some (.int .u8 (q.ky.toNat : Int)) ∧ w'.cell? ⟨bq, oq + j * 4 + 2, none⟩ = some (.int .u8 (q.bb.toNat : Int)) ∧ w'.cell? ⟨bq, oq + j * 4 + 3, none⟩ = some (.slice T tn tc)) from fun w' h => by
        obtain ⟨a0, a1', a2'⟩ := cells3 (old_below GP5.out h (Nat.le_refl _))
        exact ⟨h, a0, a1', a2', RQ.out _ (F0.out _ h)⟩)
      go_cut [12, 13, 14] (fun v u s wx => ∃ g A1 c1 G1 d1, v = .pointer (some ⟨g, 0, none⟩) ∧ u = .bool Yb ∧ s = .slice G1 M1 d1 ∧ wx.heap[g]? = some (.cells (pcs false A1 N1 c1 F1) 24 (0, 0)) ∧ V1.heap.size ≤ g ∧ (N1 ≤ c1 ∧ c1 ≤ 9223372036854775807) ∧ (M1 ≤ d1 ∧ d1 ≤ 9223372036854775807) ∧ Tab wx wx.heap.size A1 L1 ∧ Mat wx wx.heap.size G1 GS ∧ (∀ p, G1 = some p → p.block < wx.heap.size ∧ p.block ≠ g4 ∧ p.block ≠ g5) ∧ Below V1.heap.size V1 wx)
      case first =>
        go_region_held3 (fun w' => Below V1.heap.size V1 w' ∧ w'.cell? ⟨g5, 0, none⟩ = some (.bool false) ∧ w'.cell? ⟨g5, 1, none⟩ = some (.slice C n cc) ∧ w'.cell? ⟨g5, 2, none⟩ = some (.bool f) ∧ w'.cell? ⟨bq, oq + j * 4, none⟩ = some (.int .u8 (q.kd.toNat : Int)) ∧ w'.cell? ⟨bq, oq + j * 4 + 1, none⟩ = some (.int .u8 (q.ky.toNat : Int)) ∧ w'.cell? ⟨bq, oq + j * 4 + 2, none⟩ = some (.int .u8 (q.bb.toNat : Int)) ∧ w'.cell? ⟨bq, oq + j * 4 + 3, none⟩ = some (.slice T tn tc))
          (first | with_reducible exact KEEP.out _ BB0.out | with_reducible exact KEEP.out _ BA.out | with_reducible exact KEEP.out _ BB1.out | with_reducible exact KEEP.out _ (BB1.out.alloc hs1 _) | exact KEEP.out _ (Below.set3 BB1.out (Nat.le_refl _) _ _ _))
          (first
          | (go_at_call 22; (with_reducible refine (CB.out _ ?_).mono ?_); (first | with_reducible exact FC.out _ BB0.out | with_reducible exact FC.out _ BA.out); rintro e ww1 ⟨⟨n1, A1, c1, m1, G1, d1, rfl, hn1, q1, q2, hm1, q3, q4, hT1, hM1, hG1⟩, hb⟩; have BB1 := Lib.hid (by first | with_reducible exact bel_call BB0.out hb BB0.out.size | with_reducible exact bel_call BA.out hb BA.out.size); have hs1 : V1.heap.size ≤ ww1.heap.size := BB1.out.size; (first | (have hz := old_below (g := V1.heap.size) (by exact heap_alloc_new V1 (.cells #[.bool false, .slice none 0 0, .bool false] 24)) hb (Nat.le_refl _); have ZZ1 := Lib.hid hz; obtain ⟨z0, z1, z2⟩ := cells3 hz; obtain ⟨y0, y1, y2⟩ := frozen3 hz; clear hz) | skip); have h9 : N1 = n1 := (hn1.trans HN1.out.symm).symm; clear hn1; subst h9; have h9 : M1 = m1 := (hm1.trans HM1.out.symm).symm; clear hm1; subst h9; have HT := Lib.hid hT1; have HM := Lib.hid hM1; have HGa := Lib.hid (gblock hG1 HH.out l4 l5 (by first | with_reducible exact BB0.out.size | with_reducible exact BA.out.size) hs1); (first | (have hz9 := gblock_z hG1 HH.out HBZ.out; have HGz := Lib.hid hz9; clear hz9) | skip); clear hT1 hM1 hG1; clear hb))
        all_goals
          go_wp2_with fail
          go_meet
          case rel => first
            | (refine ⟨ww1.heap.size, A1, c1, G1, d1, by with_reducible rfl, by with_reducible rfl, by with_reducible rfl, heap_alloc_new ww1 _, hs1, ⟨q1, q2⟩, ⟨q3, q4⟩, HT.out.al _, HM.out.al _, fun p hp => ⟨by rw [World.size_alloc]; have := (HGa.out p hp).1; omega, (HGa.out p hp).2⟩, BB1.out.alloc hs1 _⟩)
            | (refine ⟨V1.heap.size, A1, c1, G1, d1, by with_reducible rfl, by with_reducible rfl, by with_reducible rfl, set3_same (.bool false) (.slice A1 N1 c1) (.bool F1) ZZ1.out, (Nat.le_refl _), ⟨q1, q2⟩, ⟨q3, q4⟩, HT.out.put ZZ1.out (.bool false) (.slice A1 N1 c1) (.bool F1), HM.out.put ZZ1.out HGz.out (.bool false) (.slice A1 N1 c1) (.bool F1), fun p hp => ⟨Nat.lt_of_lt_of_eq (HGa.out p hp).1 (set3_size ww1 _ (.bool false) (.slice A1 N1 c1) (.bool F1)).symm, (HGa.out p hp).2⟩, Below.set3 BB1.out (Nat.le_refl _) (.bool false) (.slice A1 N1 c1) (.bool F1)⟩)
      case rest =>
      obtain ⟨g12, A2, c2, G2, d2, rfl, rfl, rfl, hg, hgl, ⟨e5, e6⟩, ⟨e7, e8⟩, hT, hM, hGb2, hB⟩ := hcut
      obtain ⟨V2, hV2⟩ : ∃ x, x = wc := ⟨_, rfl⟩
      rw [← hV2] at hg hT hM hGb2 hB
      rw [← hV2]
      have n129 : g12 ≠ g9 := by have := (Array.getElem?_eq_some_iff.1 G9.out).1; omega
      have n124 : g12 ≠ g4 := by omega
      have n125 : g12 ≠ g5 := by omega
      have nGP4 := Lib.hid (old_below GP4.out hB (Nat.le_refl _))
      have nGP5 := Lib.hid (old_below GP5.out hB (Nat.le_refl _))
      have nG9 := Lib.hid (old_below G9.out hB (Nat.le_refl _))
      have nBW := Lib.hid (bel_call BW.out hB BW.out.size)
      have nHT1 := Lib.hid ((HT1.out.below hB (Nat.le_refl _)).more hB.size)
      have nHM1 := Lib.hid ((HM1'.out.below hB (Nat.le_refl _)).more hB.size)
      have nHGb := Lib.hid (show ∀ p, G1 = some p → p.block < V2.heap.size ∧ p.block ≠ g4 ∧ p.block ≠ g5 from fun p hp => ⟨Nat.lt_of_lt_of_le (HGb.out p hp).1 hB.size, (HGb.out p hp).2⟩)
      have G12 := Lib.hid hg
      have HT2 := Lib.hid hT
      have HM2 := Lib.hid hM
      have HGb2 := Lib.hid hGb2
      clear hV2 hg hgl hT hM hGb2 hB BB0 BA KEEP F0 FC GP4 GP5 G9 BW HT1 HM1' HGb HBZ CB HH B01
      obtain ⟨x0, x1, x2⟩ := cells3 nG9.out
      obtain ⟨y0, y1, y2⟩ := cells3 G12.out
      have hM20 : M1 ≤ 1000 := by have := HMJ.out; omega
      have CR := Lib.hid (fun w (h1 : Mat w w.heap.size G1 GS) (h2 : Mat w w.heap.size G2 GS) => show Calls Tryd.prog 23 #[.slice G1 M1 d1, .slice G2 M1 d2] w fun e w' => e = .returned (.bool true) ∧ Below w.heap.size w w' from by
        have h3 := rows2_any G1 G2 GS GS d1 d2 w h1 h2 (by rw [← HM1.out]; exact hM20) (by rw [← HM1.out]; exact hM20)
        rw [decide_eq_true rfl, ← HM1.out] at h3
        exact h3)
      have HYY := Lib.hid hYY
      clear hYY
      cases F1
      · obtain rfl : Ya = Yb := HYY.out rfl
        clear HYY
        go_wp2_with fail
        with_reducible refine (CR.out _ nHM1.out HM2.out).mono ?_
        rintro e' w8 ⟨rfl, hb8⟩
        have p9 := old_below nG9.out hb8 (Nat.le_refl _)
        have p12 := old_below G12.out hb8 (Nat.le_refl _)
        have p4 := old_below nGP4.out hb8 (Nat.le_refl _)
        have p5 := old_below nGP5.out hb8 (Nat.le_refl _)
        have bw := bel_call nBW.out hb8 nBW.out.size
        have ta := (nHT1.out.below hb8 (Nat.le_refl _)).more hb8.size
        have tb := (HT2.out.below hb8 (Nat.le_refl _)).more hb8.size
        have ma := (nHM1.out.below hb8 (Nat.le_refl _)).more hb8.size
        have mb := (HM2.out.below hb8 (Nat.le_refl _)).more hb8.size
        obtain ⟨u0, u1, u2⟩ := cells3 p9
        obtain ⟨v0, v1, v2⟩ := cells3 p12
        obtain ⟨r0, r1, r2⟩ := cells3 p4
        obtain ⟨z0, z1, z2⟩ := frozen3 p4
        obtain ⟨a0, a1', a2'⟩ := cells3 p5
        obtain ⟨b0, b1', b2'⟩ := frozen3 p5
        -- the first store
        have s4 := set3_same (.bool true) (.slice A1 N1 c1) (.bool false) p4
        have s5 := (set3_other (w := w8) (g := g4) (.bool true) (.slice A1 N1 c1) (.bool false) h45.symm).trans p5
        have s12 := (set3_other (w := w8) (g := g4) (.bool true) (.slice A1 N1 c1) (.bool false) n124).trans p12
        have sta := ta.put p4 (.bool true) (.slice A1 N1 c1) (.bool false)
        have stb := tb.put p4 (.bool true) (.slice A1 N1 c1) (.bool false)
        have sma := ma.put p4 (fun p hp => (nHGb.out p hp).2.1) (.bool true) (.slice A1 N1 c1) (.bool false)
        have smb := mb.put p4 (fun p hp => (HGb2.out p hp).2.1) (.bool true) (.slice A1 N1 c1) (.bool false)
        have sbw := Below.set3 bw hW4 (.bool true) (.slice A1 N1 c1) (.bool false)
        have ssz := set3_size w8 g4 (.bool true) (.slice A1 N1 c1) (.bool false)
        -- the second one
        have e4' := (set3_other (w := set3 w8 g4 (.bool true) (.slice A1 N1 c1) (.bool false)) (g := g5) (.bool false) (.slice A2 N1 c2) (.bool false) h45).trans s4
        have e5' := set3_same (.bool false) (.slice A2 N1 c2) (.bool false) s5
        have eta := sta.put s5 (.bool false) (.slice A2 N1 c2) (.bool false)
        have etb := stb.put s5 (.bool false) (.slice A2 N1 c2) (.bool false)
        have ema := sma.put s5 (fun p hp => (nHGb.out p hp).2.2) (.bool false) (.slice A2 N1 c2) (.bool false)
        have emb := smb.put s5 (fun p hp => (HGb2.out p hp).2.2) (.bool false) (.slice A2 N1 c2) (.bool false)
        have ebw := Below.set3 sbw hW5 (.bool false) (.slice A2 N1 c2) (.bool false)
        have esz := set3_size (set3 w8 g4 (.bool true) (.slice A1 N1 c1) (.bool false)) g5 (.bool false) (.slice A2 N1 c2) (.bool false)
        have HEND := Lib.hid (show InvA W (set3 (set3 w8 g4 (.bool true) (.slice A1 N1 c1) (.bool false)) g5 (.bool false) (.slice A2 N1 c2) (.bool false)) g4 g5 (j + 1) L1 false GS A1 N1 c1 A2 c2 G1 M1 d1 G2 d2 from
          ⟨ebw, e4', e5', HN1.out, ⟨e1, e2⟩, ⟨e5, e6⟩, eta, etb, HM1.out, ⟨e3, e4⟩, ⟨e7, e8⟩, ema, emb, fun p hp => ⟨by rw [esz, ssz]; exact Nat.lt_of_lt_of_le (nHGb.out p hp).1 hb8.size, (nHGb.out p hp).2⟩, fun p hp => ⟨by rw [esz, ssz]; exact Nat.lt_of_lt_of_le (HGb2.out p hp).1 hb8.size, (HGb2.out p hp).2⟩, HNJ.out, HMJ.out, H60.out, hW4, hW5, h45⟩)
        obtain ⟨f0, f1, f2⟩ := cells3 s12
        obtain ⟨c0, c1', c2'⟩ := cells3 s5
        obtain ⟨d0, d1', d2'⟩ := frozen3 s5
        unfold set3 at f0 f1 f2 c0 c1' c2' d0 d1' d2'
        clear hb8 p9 p12 p4 p5 bw ta tb ma mb s4 s5 s12 sta stb sma smb sbw ssz e4' e5' eta etb ema emb ebw esz x0 x1 x2 y0 y1 y2
        go_wp2_with fail
        go_roundw
        case rel => exact ⟨j + 1, L1, false, GS, A1, N1, c1, A2, c2, G1, M1, d1, G2, d2, by omega, by go_num, rfl, rfl, HEND⟩
        case measure => simp [intOf]; omega
      · clear HYY
        go_wp2_with fail
        with_reducible refine (CR.out _ nHM1.out HM2.out).mono ?_
        rintro e' w8 ⟨rfl, hb8⟩
        have p9 := old_below nG9.out hb8 (Nat.le_refl _)
        have p12 := old_below G12.out hb8 (Nat.le_refl _)
        have p4 := old_below nGP4.out hb8 (Nat.le_refl _)
        have p5 := old_below nGP5.out hb8 (Nat.le_refl _)
        have bw := bel_call nBW.out hb8 nBW.out.size
        have ta := (nHT1.out.below hb8 (Nat.le_refl _)).more hb8.size
        have tb := (HT2.out.below hb8 (Nat.le_refl _)).more hb8.size
        have ma := (nHM1.out.below hb8 (Nat.le_refl _)).more hb8.size
        have mb := (HM2.out.below hb8 (Nat.le_refl _)).more hb8.size
        obtain ⟨u0, u1, u2⟩ := cells3 p9
        obtain ⟨v0, v1, v2⟩ := cells3 p12
        obtain ⟨r0, r1, r2⟩ := cells3 p4
        obtain ⟨z0, z1, z2⟩ := frozen3 p4
        obtain ⟨a0, a1', a2'⟩ := cells3 p5
        obtain ⟨b0, b1', b2'⟩ := frozen3 p5
        -- the first store
        have s4 := set3_same (.bool true) (.slice A1 N1 c1) (.bool true) p4
        have s5 := (set3_other (w := w8) (g := g4) (.bool true) (.slice A1 N1 c1) (.bool true) h45.symm).trans p5
        have s12 := (set3_other (w := w8) (g := g4) (.bool true) (.slice A1 N1 c1) (.bool true) n124).trans p12
        have sta := ta.put p4 (.bool true) (.slice A1 N1 c1) (.bool true)
        have stb := tb.put p4 (.bool true) (.slice A1 N1 c1) (.bool true)
        have sma := ma.put p4 (fun p hp => (nHGb.out p hp).2.1) (.bool true) (.slice A1 N1 c1) (.bool true)
        have smb := mb.put p4 (fun p hp => (HGb2.out p hp).2.1) (.bool true) (.slice A1 N1 c1) (.bool true)
        have sbw := Below.set3 bw hW4 (.bool true) (.slice A1 N1 c1) (.bool true)
        have ssz := set3_size w8 g4 (.bool true) (.slice A1 N1 c1) (.bool true)
        -- the second one
        have e4' := (set3_other (w := set3 w8 g4 (.bool true) (.slice A1 N1 c1) (.bool true)) (g := g5) (.bool false) (.slice A2 N1 c2) (.bool true) h45).trans s4
        have e5' := set3_same (.bool false) (.slice A2 N1 c2) (.bool true) s5
        have eta := sta.put s5 (.bool false) (.slice A2 N1 c2) (.bool true)
        have etb := stb.put s5 (.bool false) (.slice A2 N1 c2) (.bool true)
        have ema := sma.put s5 (fun p hp => (nHGb.out p hp).2.2) (.bool false) (.slice A2 N1 c2) (.bool true)
        have emb := smb.put s5 (fun p hp => (HGb2.out p hp).2.2) (.bool false) (.slice A2 N1 c2) (.bool true)
        have ebw := Below.set3 sbw hW5 (.bool false) (.slice A2 N1 c2) (.bool true)
        have esz := set3_size (set3 w8 g4 (.bool true) (.slice A1 N1 c1) (.bool true)) g5 (.bool false) (.slice A2 N1 c2) (.bool true)
        have HEND := Lib.hid (show InvA W (set3 (set3 w8 g4 (.bool true) (.slice A1 N1 c1) (.bool true)) g5 (.bool false) (.slice A2 N1 c2) (.bool true)) g4 g5 (j + 1) L1 true GS A1 N1 c1 A2 c2 G1 M1 d1 G2 d2 from
          ⟨ebw, e4', e5', HN1.out, ⟨e1, e2⟩, ⟨e5, e6⟩, eta, etb, HM1.out, ⟨e3, e4⟩, ⟨e7, e8⟩, ema, emb, fun p hp => ⟨by rw [esz, ssz]; exact Nat.lt_of_lt_of_le (nHGb.out p hp).1 hb8.size, (nHGb.out p hp).2⟩, fun p hp => ⟨by rw [esz, ssz]; exact Nat.lt_of_lt_of_le (HGb2.out p hp).1 hb8.size, (HGb2.out p hp).2⟩, HNJ.out, HMJ.out, H60.out, hW4, hW5, h45⟩)
        obtain ⟨f0, f1, f2⟩ := cells3 s12
        obtain ⟨c0, c1', c2'⟩ := cells3 s5
        obtain ⟨d0, d1', d2'⟩ := frozen3 s5
        unfold set3 at f0 f1 f2 c0 c1' c2' d0 d1' d2'
        clear hb8 p9 p12 p4 p5 bw ta tb ma mb s4 s5 s12 sta stb sma smb sbw ssz e4' e5' eta etb ema emb ebw esz x0 x1 x2 y0 y1 y2
        go_wp2_with fail
        go_roundw
        case rel => exact ⟨j + 1, L1, true, GS, A1, N1, c1, A2, c2, G1, M1, d1, G2, d2, by omega, by go_num, rfl, rfl, HEND⟩
        case measure => simp [intOf]; omega
    · have hji : ¬ (j : Int) < (N : Int) := by omega
      clear h4 h5 hTA hTC hMG hMH hG hH HI hB
      go_wp2_with fail
      go_ret
      exact ⟨rfl, BW.out⟩
end Go.Proofs.YtcfncbbdlbdbnaaDoor
