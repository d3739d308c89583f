
/- prov.Tag. -/
import Derived.Test.YtcfncbbdlbdbnaaDoorPrH
namespace Go.Proofs.YtcfncbbdlbdbnaaDoor
open Go.RowKit

/-- a call's answer: a provider, and a tag -/
def AnsPT (W' : World) (e : Ending) (i : Bool) (l : List Pr) (f : Bool) (t : List UInt8) : Prop := ∃ n A c T tc, e = .returned (.tuple #[.agg #[.bool i, .slice A n c, .bool f], .slice T 16 tc]) ∧ n = l.length ∧ n ≤ c ∧ c ≤ 9223372036854775807 ∧ 16 ≤ tc ∧ tc ≤ 9223372036854775807 ∧ Tab W' W'.heap.size A l ∧ Rd W' W'.heap.size T t

set_option maxRecDepth 100000 in
set_option maxHeartbeats 2000000 in
theorem ptag_any (i f : Bool) (A : Option Addr) (l : List Pr) (c : Nat) (K B : Option Addr) (k b : List UInt8) (kc bc : Nat) (w : World) (hc : l.length ≤ c) (hcm : c ≤ 9223372036854775807) (h1000 : l.length ≤ 1000) (hkl : k.length ≤ 100000) (hbl : b.length ≤ 90000) (hkc : k.length ≤ kc) (hkm : kc ≤ 9223372036854775807) (hbc : b.length ≤ bc) (hbm : bc ≤ 9223372036854775807)
    (hT : Tab w w.heap.size A l) (hk : Rd w w.heap.size K k) (hb : Rd w w.heap.size B b) (hK : Ks w) :
    Calls Tryd.prog 11 #[.agg #[.bool i, .slice A l.length c, .bool f], .slice K k.length kc, .slice B b.length bc] w fun e W' => AnsPT W' e i (tabF l k b) f (cutF k b) ∧ Below w.heap.size w W' := by
  have CH := Lib.hid (fun W (h : Below w.heap.size w W) => had_any i f A l c K B k b kc bc W h1000 hkc hkm hbc hbm ((hT.below h (Nat.le_refl _)).more h.size) ((hk.below h (Nat.le_refl _)).more h.size) ((hb.below h (Nat.le_refl _)).more h.size))
  have CB := Lib.hid (fun W (h : Below w.heap.size w W) => behind4_any A l c K B k b kc bc W h1000 hkl (by omega) ((hT.below h (Nat.le_refl _)).more h.size) ((hk.below h (Nat.le_refl _)).more h.size) ((hb.below h (Nat.le_refl _)).more h.size))
  have CC := Lib.hid (fun W (h : Below w.heap.size w W) => cut4_any K B k b kc bc W hkl hbl hkc hbc ((hk.below h (Nat.le_refl _)).more h.size) ((hb.below h (Nat.le_refl _)).more h.size) (Ks.call hK h))
  have RT := Lib.hid (fun W (h : Below w.heap.size w W) => (hT.below h (Nat.le_refl _)).more h.size)
  obtain ⟨n, hn⟩ : ∃ n, n = l.length := ⟨_, rfl⟩
  have HN := Lib.hid hn
  rw [← hn] at CH CB ⊢
  rw [← hn] at hc h1000
  generalize k.length = kn at *
  generalize b.length = bn at *
  generalize cutF k b = TF at *
  by_cases hin : (k, b) ∈ l
  · have HF := Lib.hid (show tabF l k b = l by unfold tabF; rw [if_pos hin])
    rw [decide_eq_true hin] at CH
    rw [HF.out]
    clear hT hk hb hK hkl hbl hkc hkm hbc hbm hn CB hin HF
    go_enter Tryd.func11, Tryd.ntmps11
    obtain ⟨q1, q2, q3, q4⟩ := alloc2 w (.cells (pcs i A n c f) 24) (.cells (pcs false none 0 0 false) 24)
    have Q1 := Lib.hid q1
    have Q2 := Lib.hid q2
    have Q4 := Lib.hid q4
    clear q1 q2 q4
    go_wp2_with fail
    refine (CH.out _ Q4.out).mono ?_
    rintro e w1 ⟨rfl, hb1⟩
    have HB1 := Lib.hid (bel_call Q4.out hb1 (by omega))
    have P1 := Lib.hid (old_below Q1.out hb1 (Nat.le_refl _))
    have R1 := Lib.hid (old_below Q2.out hb1 (Nat.le_refl _))
    clear hb1 Q1 Q2 Q4 q3 CH
    go_wp2_with fail
    obtain ⟨e0, e1, e2⟩ := cells3 (w := w1.drew) P1.out
    have hlt1 : w.heap.size + 1 < w1.heap.size := (Array.getElem?_eq_some_iff.1 R1.out).1
    go_region_held3 (fun w' => w'.cell? ⟨w.heap.size, 0, none⟩ = some (.bool i) ∧ w'.cell? ⟨w.heap.size, 1, none⟩ = some (.slice A n c) ∧ w'.cell? ⟨w.heap.size, 2, none⟩ = some (.bool f))
      (first
       | ((try dsimp only); go_split_ands; refine ⟨?_, ?_, ?_⟩ <;> with_reducible assumption)
       | ((try dsimp only); go_split_ands; refine ⟨?_, ?_, ?_⟩ <;> (with_reducible refine far3 ?_ ?_) <;> (first | (with_reducible assumption) | omega)))
      (first
      | (go_at_call 25; refine (CC.out _ ?_).mono ?_; (exact HB1.out.drew); rintro e w5 ⟨⟨A5, c5, rfl, h51, h52, h53⟩, hb5⟩; have HR5 := Lib.hid h53; have HB5 := Lib.hid (bel_call HB1.out.drew hb5 (by exact HB1.out.size)); have hq1 := old_below (g := w.heap.size) (by exact P1.out) hb5 (Nat.le_refl _); obtain ⟨v0, v1, v2⟩ := cells3 hq1; have hq2 := old_below (g := w.heap.size + 1) (by exact R1.out) hb5 (Nat.le_refl _); obtain ⟨z0, z1, z2⟩ := cells3 hq2; obtain ⟨y0, y1, y2⟩ := frozen3 hq2; have QQ2 := Lib.hid hq2; have HT5 := Lib.hid (RT.out _ HB5.out); clear hb5 hq1 hq2 h53))
    change Exit.then _ _ _ _ (set3 w5 (w.heap.size + 1) (.bool i) (.slice A n c) (.bool f))
    have g1 := set3_same (.bool i) (.slice A n c) (.bool f) QQ2.out
    have g3 := Below.set3 HB5.out (Nat.le_succ w.heap.size) (.bool i) (.slice A n c) (.bool f)
    have g5 := HR5.out.set3 QQ2.out (.bool i) (.slice A n c) (.bool f)
    have g6 := HT5.out.set3 QQ2.out (.bool i) (.slice A n c) (.bool f)
    rw [← set3_size w5 (w.heap.size + 1) (.bool i) (.slice A n c) (.bool f)] at g5 g6
    generalize set3 w5 (w.heap.size + 1) (.bool i) (.slice A n c) (.bool f) = W6 at *
    have G1 := Lib.hid g1
    have G3 := Lib.hid g3
    have G5 := Lib.hid g5
    have G6 := Lib.hid g6
    clear g1 g3 g5 g6
    go_wp2_with fail
    (try simp only [Exit.inBlock, Exit.then])
    refine bodyPost_ret (ret3t rfl _ _ (w.heap.size + 1) (.bool i) (.slice A n c) (.bool f) _ rfl rfl G1.out) rfl ?_
    exact ⟨⟨n, A, c, A5, c5, rfl, HN.out, hc, hcm, h51, h52, G6.out, G5.out⟩, G3.out⟩
  · have HF := Lib.hid (show tabF l k b = l ++ [(k, b)] by unfold tabF; rw [if_neg hin])
    rw [decide_eq_false hin] at CH
    rw [HF.out]
    have HNL := Lib.hid (show n + 1 = (l ++ [(k, b)]).length by rw [List.length_append, HN.out]; rfl)
    clear hT hk hb hK hkl hbl hkc hkm hbc hbm hn hin HF
    generalize l ++ [(k, b)] = l2 at *
    go_enter Tryd.func11, Tryd.ntmps11
    obtain ⟨q1, q2, q3, q4⟩ := alloc2 w (.cells (pcs i A n c f) 24) (.cells (pcs false none 0 0 false) 24)
    have Q1 := Lib.hid q1
    have Q2 := Lib.hid q2
    have Q4 := Lib.hid q4
    clear q1 q2 q4
    go_wp2_with fail
    refine (CH.out _ Q4.out).mono ?_
    rintro e w1 ⟨rfl, hb1⟩
    have HB0 := Lib.hid (bel_call Q4.out hb1 (by omega))
    have P0 := Lib.hid (old_below Q1.out hb1 (Nat.le_refl _))
    have R0 := Lib.hid (old_below Q2.out hb1 (Nat.le_refl _))
    obtain ⟨e0, e1, e2⟩ := cells3 (w := w1) P0.out
    clear hb1 Q1 Q2 Q4 q3 CH
    go_wp2_with fail
    refine (CB.out _ HB0.out).mono ?_
    rintro e w2 ⟨⟨A2, c2, rfl, h21, h22, h23⟩, hb2⟩
    have P2 := old_below P0.out hb2 (Nat.le_refl _)
    have R2 := old_below R0.out hb2 (Nat.le_refl _)
    obtain ⟨f0, f1, f2⟩ := cells3 (w := w2) P2
    obtain ⟨y0, y1, y2⟩ := frozen3 P2
    have hT2 := h23.setCell (q := 1) P2 (.slice A2 (n + 1) c2)
    have hB2 := (bel_call HB0.out hb2 HB0.out.size).setCell (p := ⟨w.heap.size, 1, none⟩) (Nat.le_refl _) (.slice A2 (n + 1) c2)
    have hR2 := (heap_setCell_other w2 ⟨w.heap.size, 1, none⟩ (w.heap.size + 1) (.slice A2 (n + 1) c2) (by simp)).trans R2
    have hP2 := heap_setCell_same w2 w.heap.size 1 _ 24 (.slice A2 (n + 1) c2) P2
    simp only [List.setIfInBounds_toArray, List.set_cons_zero, List.set_cons_succ] at hP2
    have hsz : w2.heap.size = (w2.setCell ⟨w.heap.size, 1, none⟩ (.slice A2 (n + 1) c2)).heap.size := by simp [World.setCell]
    rw [hsz] at hT2
    go_wp2_with fail
    change Code.wp _ _ _ _ (w2.setCell ⟨w.heap.size, 1, none⟩ (.slice A2 (n + 1) c2))
    clear h23 hb2 f0 f1 f2 y0 y1 y2 P2 R2 hsz e0 e1 e2 HB0 P0 R0 CB
    generalize w2.setCell ⟨w.heap.size, 1, none⟩ (.slice A2 (n + 1) c2) = w4 at *
    have P1 := Lib.hid hP2
    have R1 := Lib.hid hR2
    have HB1 := Lib.hid hB2
    have HT1 := Lib.hid hT2
    obtain ⟨m, hm⟩ : ∃ m, m = n + 1 := ⟨_, rfl⟩
    rw [← hm] at P1 h21 HNL ⊢
    clear hm
    clear hP2 hR2 hB2 hT2
    obtain ⟨e0, e1, e2⟩ := cells3 (w := w4.drew) P1.out
    have hlt1 : w.heap.size + 1 < w4.heap.size := (Array.getElem?_eq_some_iff.1 R1.out).1
    go_region_held3 (fun w' => w'.cell? ⟨w.heap.size, 0, none⟩ = some (.bool i) ∧ w'.cell? ⟨w.heap.size, 1, none⟩ = some (.slice A2 m c2) ∧ w'.cell? ⟨w.heap.size, 2, none⟩ = some (.bool f))
      (first
       | ((try dsimp only); go_split_ands; refine ⟨?_, ?_, ?_⟩ <;> with_reducible assumption)
       | ((try dsimp only); go_split_ands; refine ⟨?_, ?_, ?_⟩ <;> (with_reducible refine far3 ?_ ?_) <;> (first | (with_reducible assumption) | omega)))
      (first
      | (go_at_call 25; refine (CC.out _ ?_).mono ?_; (exact HB1.out.drew); rintro e w5 ⟨⟨A5, c5, rfl, h51, h52, h53⟩, hb5⟩; have HR5 := Lib.hid h53; have HB5 := Lib.hid (bel_call HB1.out.drew hb5 (by exact HB1.out.size)); have hq1 := old_below (g := w.heap.size) (by exact P1.out) hb5 (Nat.le_refl _); obtain ⟨v0, v1, v2⟩ := cells3 hq1; have hq2 := old_below (g := w.heap.size + 1) (by exact R1.out) hb5 (Nat.le_refl _); obtain ⟨z0, z1, z2⟩ := cells3 hq2; obtain ⟨y0, y1, y2⟩ := frozen3 hq2; have QQ2 := Lib.hid hq2; have HT5 := Lib.hid ((Tab.below (w := w4.drew) (show Tab w4.drew w4.drew.heap.size A2 l2 from HT1.out) hb5 (Nat.le_refl _)).more hb5.size); clear hb5 hq1 hq2 h53))
    change Exit.then _ _ _ _ (set3 w5 (w.heap.size + 1) (.bool i) (.slice A2 m c2) (.bool f))
    have g1 := set3_same (.bool i) (.slice A2 m c2) (.bool f) QQ2.out
    have g3 := Below.set3 HB5.out (Nat.le_succ w.heap.size) (.bool i) (.slice A2 m c2) (.bool f)
    have g5 := HR5.out.set3 QQ2.out (.bool i) (.slice A2 m c2) (.bool f)
    have g6 := HT5.out.set3 QQ2.out (.bool i) (.slice A2 m c2) (.bool f)
    rw [← set3_size w5 (w.heap.size + 1) (.bool i) (.slice A2 m c2) (.bool f)] at g5 g6
    generalize set3 w5 (w.heap.size + 1) (.bool i) (.slice A2 m c2) (.bool f) = W6 at *
    have G1 := Lib.hid g1
    have G3 := Lib.hid g3
    have G5 := Lib.hid g5
    have G6 := Lib.hid g6
    clear g1 g3 g5 g6
    go_wp2_with fail
    (try simp only [Exit.inBlock, Exit.then])
    refine bodyPost_ret (ret3t rfl _ _ (w.heap.size + 1) (.bool i) (.slice A2 m c2) (.bool f) _ rfl rfl G1.out) rfl ?_
    exact ⟨⟨m, A2, c2, A5, c5, rfl, HNL.out, h21, h22, h51, h52, G6.out, G5.out⟩, G3.out⟩
end Go.Proofs.YtcfncbbdlbdbnaaDoor
