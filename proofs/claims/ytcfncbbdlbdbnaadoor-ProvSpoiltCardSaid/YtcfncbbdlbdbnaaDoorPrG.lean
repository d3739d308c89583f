
/- prov.behind: a table with a pair more. -/
import Derived.Test.YtcfncbbdlbdbnaaDoorPrF
import Derived.Test.YtcfncbbdlbdbnaaDoorBlock
namespace Go.Proofs.YtcfncbbdlbdbnaaDoor
open Go.RowKit

set_option maxRecDepth 100000 in
set_option maxHeartbeats 1000000 in
theorem behind4_any (A : Option Addr) (l : List Pr) (c : Nat) (K B : Option Addr) (k b : List UInt8) (kc bc : Nat) (w : World) (h1000 : l.length ≤ 1000) (hkl : k.length ≤ 100000) (hbl : b.length ≤ 100000)
    (hT : Tab w w.heap.size A l) (hk : Rd w w.heap.size K k) (hb : Rd w w.heap.size B b) :
    Calls Tryd.prog 24 #[.slice A l.length c, .slice K k.length kc, .slice B b.length bc] w fun e w' =>
      (∃ A' c', e = .returned (.slice A' (l.length + 1) c') ∧ l.length + 1 ≤ c' ∧ c' ≤ 9223372036854775807 ∧ Tab w' w'.heap.size A' (l ++ [(k, b)])) ∧ Below w.heap.size w w' := by
  obtain ⟨us, hul, hve, hce⟩ := tab_ce hT
  have hf2 := fold2
  have CK := Lib.hid (clone_any K k kc w hkl hk)
  have CB := Lib.hid (fun W (h : Below w.heap.size w W) => clone_any B b bc W hbl ((hb.below h (Nat.le_refl _)).more h.size))
  have RC := Lib.hid (fun W (h : Below w.heap.size w W) => (hce.below h (Nat.le_refl _)).more h.size)
  have RV := Lib.hid (fun W (h : Below w.heap.size w W) => (hve.below h (Nat.le_refl _)).more h.size)
  have HS := Lib.hid hve.sl
  obtain ⟨n, hn⟩ : ∃ n, n = l.length := ⟨_, rfl⟩
  obtain ⟨kn, hkn⟩ : ∃ n, n = k.length := ⟨_, rfl⟩
  obtain ⟨bn, hbn⟩ : ∃ n, n = b.length := ⟨_, rfl⟩
  have HN := Lib.hid (hn.trans hul.symm)
  have HKN := Lib.hid hkn
  have HBN := Lib.hid hbn
  rw [← hkn] at CK
  rw [← hbn] at CB
  rw [← hn, ← hkn, ← hbn]
  rw [← hn] at h1000
  have CC := Lib.hid (fun g g1 x y W (hx : x.oneCell' = true) (hy : y.oneCell' = true) h1 h2 h3 => concat_any g g1 A us n c x y hx hy W HN.out h1000 h1 h2 h3 HS.out)
  clear hT hk hb hul hve hce hkl hbl hn hkn hbn
  go_enter Tryd.func24, Tryd.ntmps24
  go_wp2_with fail
  refine CK.out.mono ?_
  rintro e w1 ⟨⟨A1, c1, rfl, h1, h2, h3⟩, hb1⟩
  have HR1 := Lib.hid h3
  have HB1 := Lib.hid hb1
  clear h3 hb1 CK
  go_wp2_with fail
  refine (CB.out _ HB1.out).mono ?_
  rintro e w2 ⟨⟨A2, c2, rfl, h4, h5, h6⟩, hb2⟩
  have HR1b := Lib.hid ((HR1.out.below hb2 (Nat.le_refl _)).more hb2.size)
  have HR2 := Lib.hid h6
  have HB2 := Lib.hid (bel_call HB1.out hb2 HB1.out.size)
  have hsz2 := HB2.out.size
  clear h6 hb2 HR1 HB1 CB
  go_wp2_with fail
  obtain ⟨-, q2, q3, q4, q5⟩ := alloc3 w2 (.cells #[.slice A1 kn c1, .slice A2 bn c2] 59) (.cells #[.slice A1 kn c1, .slice A2 bn c2] 59) (.cells #[.slice A n c, .slice (some ⟨w2.heap.size + 1, 0, none⟩) 1 1] 22)
  refine (CC.out _ (w2.heap.size + 1) (.slice A1 kn c1) (.slice A2 bn c2) _ rfl rfl q3 q2 (RC.out _ (bel_call HB2.out q5 hsz2))).mono ?_
  rintro e w3 ⟨⟨A3, c3, rfl, h7, h8, h9⟩, hb3⟩
  have HB3 := Lib.hid (bel_call (bel_call HB2.out q5 hsz2) hb3 (Nat.le_trans hsz2 q5.size))
  have HR1c := Lib.hid ((((HR1b.out.below q5 (Nat.le_refl _)).more q5.size).below hb3 (Nat.le_refl _)).more hb3.size)
  have HR2c := Lib.hid ((((HR2.out.below q5 (Nat.le_refl _)).more q5.size).below hb3 (Nat.le_refl _)).more hb3.size)
  have HC3 := Lib.hid h9
  clear h9 hb3 q2 q3 q4 q5
  go_wp2_with fail
  go_ret
  refine ⟨⟨A3, c3, rfl, h7, h8, ce_tab ((RV.out _ HB3.out).snoc ?_) HC3.out⟩, HB3.out⟩
  exact ⟨A1, c1, A2, c2, by rw [← HKN.out, ← HBN.out], by rw [← HKN.out]; exact h1, h2, by rw [← HBN.out]; exact h4, h5, HR1c.out, HR2c.out⟩
end Go.Proofs.YtcfncbbdlbdbnaaDoor
