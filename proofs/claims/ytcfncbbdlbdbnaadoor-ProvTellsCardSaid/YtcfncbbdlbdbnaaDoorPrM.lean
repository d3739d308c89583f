
/- The document's Tag, New. -/
import Derived.Test.YtcfncbbdlbdbnaaDoorPrL
import Derived.Test.YtcfncbbdlbdbnaaDoorPrI
namespace Go.Proofs.YtcfncbbdlbdbnaaDoor
open Go.RowKit

set_option maxRecDepth 100000 in
theorem rnew_any (i : Bool) (w : World) : Calls Tryd.prog 21 #[.bool i] w fun e w' => e = .returned (.agg #[.bool i, .slice none 0 0, .bool false]) ∧ Below w.heap.size w w' := by
  have hf3 := fold3
  go_enter Tryd.func21, Tryd.ntmps21
  go_wp2
  (try simp only [Exit.inBlock, Exit.then])
  refine bodyPost_ret (ret3 rfl _ _ w.heap.size _ _ _ rfl (heap_alloc_new w _)) rfl ?_
  exact ⟨rfl, (Below.refl _ _).alloc (Nat.le_refl _) _⟩

set_option maxRecDepth 100000 in
set_option maxHeartbeats 2000000 in
theorem rtag_any (i f : Bool) (A : Option Addr) (l : List Pr) (c : Nat) (K B : Option Addr) (k b : List UInt8) (kc bc : Nat) (w : World) (hc : l.length ≤ c) (hcm : c ≤ 9223372036854775807) (h1000 : l.length ≤ 1000) (hkl : k.length ≤ 100000) (hbl : b.length ≤ 90000) (hkc : k.length ≤ kc) (hkm : kc ≤ 9223372036854775807) (hbc : b.length ≤ bc) (hbm : bc ≤ 9223372036854775807)
    (hT : Tab w w.heap.size A l) (hk : Rd w w.heap.size K k) (hb : Rd w w.heap.size B b) :
    Calls Tryd.prog 12 #[.agg #[.bool i, .slice A l.length c, .bool f], .slice K k.length kc, .slice B b.length bc] w fun e W' => AnsPT W' e i (tabF l k b) f (cutF k b) ∧ Below w.heap.size w W' := by
  have CH := Lib.hid (fun W (h : Below w.heap.size w W) => rhad_any i f A l c K B k b kc bc W h1000 ((hT.below h (Nat.le_refl _)).more h.size) ((hk.below h (Nat.le_refl _)).more h.size) ((hb.below h (Nat.le_refl _)).more h.size))
  have CC := Lib.hid (fun W (h : Below w.heap.size w W) => rright_any K B k b kc bc W hkl hbl hkc ((hk.below h (Nat.le_refl _)).more h.size) ((hb.below h (Nat.le_refl _)).more h.size))
  have RT := Lib.hid (fun W (h : Below w.heap.size w W) => (hT.below h (Nat.le_refl _)).more h.size)
  obtain ⟨us, hul, hve, hce⟩ := tab_ce hT
  have RC := Lib.hid (fun W (h : Below w.heap.size w W) => (hce.below h (Nat.le_refl _)).more h.size)
  have RV := Lib.hid (fun W (h : Below w.heap.size w W) => ((hve.snoc (v := (.slice K k.length kc, .slice B b.length bc)) (p := (k, b)) ⟨K, kc, B, bc, rfl, hkc, hkm, hbc, hbm, hk, hb⟩).below h (Nat.le_refl _)).more h.size)
  have HS := Lib.hid hve.sl
  obtain ⟨n, hn⟩ : ∃ n, n = l.length := ⟨_, rfl⟩
  have HN := Lib.hid hn
  have HU := Lib.hid (hn.trans hul.symm)
  rw [← hn] at CH ⊢
  rw [← hn] at hc h1000
  generalize k.length = kn at *
  generalize b.length = bn at *
  generalize cutF k b = TF at *
  by_cases hin : (k, b) ∈ l
  · have HF := Lib.hid (show tabF l k b = l by unfold tabF; rw [if_pos hin])
    rw [decide_eq_true hin] at CH
    rw [HF.out]
    clear hT hk hb hkl hbl hkc hkm hbc hbm hn hin HF hve hce hul RC RV HS HU
    go_enter Tryd.func12, Tryd.ntmps12
    obtain ⟨q1, q2, q3, q4⟩ := alloc2 w (.cells (pcs i A n c f) 24) (.cells (pcs false none 0 0 false) 24)
    have Q1 := Lib.hid q1
    have Q2 := Lib.hid q2
    have Q4 := Lib.hid q4
    clear q1 q2 q4
    go_wp2_with fail
    refine (CH.out _ Q4.out).mono ?_
    rintro e w1 ⟨rfl, hb1⟩
    have HB1 := Lib.hid (bel_call Q4.out hb1 (by omega))
    have P1 := Lib.hid (old_below Q1.out hb1 (Nat.le_refl _))
    have R1 := Lib.hid (old_below Q2.out hb1 (Nat.le_refl _))
    clear hb1 Q1 Q2 Q4 q3 CH
    go_wp2_with fail
    obtain ⟨e0, e1, e2⟩ := cells3 (w := w1.drew) P1.out
    have hlt1 : w.heap.size + 1 < w1.heap.size := (Array.getElem?_eq_some_iff.1 R1.out).1
    go_region_held3 (fun w' => w'.cell? ⟨w.heap.size, 0, none⟩ = some (.bool i) ∧ w'.cell? ⟨w.heap.size, 1, none⟩ = some (.slice A n c) ∧ w'.cell? ⟨w.heap.size, 2, none⟩ = some (.bool f))
      (first
       | ((try dsimp only); go_split_ands; refine ⟨?_, ?_, ?_⟩ <;> with_reducible assumption)
       | ((try dsimp only); go_split_ands; refine ⟨?_, ?_, ?_⟩ <;> (with_reducible refine far3 ?_ ?_) <;> (first | (with_reducible assumption) | omega)))
      (first
      | (go_at_call 26; refine (CC.out _ ?_).mono ?_; (exact HB1.out.drew); rintro e w5 ⟨⟨A5, c5, rfl, h51, h52, h53⟩, hb5⟩; have HR5 := Lib.hid h53; have HB5 := Lib.hid (bel_call HB1.out.drew hb5 (by exact HB1.out.size)); have hq1 := old_below (g := w.heap.size) (by exact P1.out) hb5 (Nat.le_refl _); obtain ⟨v0, v1, v2⟩ := cells3 hq1; have hq2 := old_below (g := w.heap.size + 1) (by exact R1.out) hb5 (Nat.le_refl _); obtain ⟨z0, z1, z2⟩ := cells3 hq2; obtain ⟨y0, y1, y2⟩ := frozen3 hq2; have QQ2 := Lib.hid hq2; have HT5 := Lib.hid (RT.out _ HB5.out); clear hb5 hq1 hq2 h53))
    change Exit.then _ _ _ _ (set3 w5 (w.heap.size + 1) (.bool i) (.slice A n c) (.bool f))
    have g1 := set3_same (.bool i) (.slice A n c) (.bool f) QQ2.out
    have g3 := Below.set3 HB5.out (Nat.le_succ w.heap.size) (.bool i) (.slice A n c) (.bool f)
    have g5 := HR5.out.set3 QQ2.out (.bool i) (.slice A n c) (.bool f)
    have g6 := HT5.out.set3 QQ2.out (.bool i) (.slice A n c) (.bool f)
    rw [← set3_size w5 (w.heap.size + 1) (.bool i) (.slice A n c) (.bool f)] at g5 g6
    generalize set3 w5 (w.heap.size + 1) (.bool i) (.slice A n c) (.bool f) = W6 at *
    have G1 := Lib.hid g1
    have G3 := Lib.hid g3
    have G5 := Lib.hid g5
    have G6 := Lib.hid g6
    clear g1 g3 g5 g6
    go_wp2_with fail
    (try simp only [Exit.inBlock, Exit.then])
    refine bodyPost_ret (ret3t rfl _ _ (w.heap.size + 1) (.bool i) (.slice A n c) (.bool f) _ rfl rfl G1.out) rfl ?_
    exact ⟨⟨n, A, c, A5, c5, rfl, HN.out, hc, hcm, h51, h52, G6.out, G5.out⟩, G3.out⟩
  · have HF := Lib.hid (show tabF l k b = l ++ [(k, b)] by unfold tabF; rw [if_neg hin])
    rw [decide_eq_false hin] at CH
    rw [HF.out]
    have HNL := Lib.hid (show n + 1 = (l ++ [(k, b)]).length by rw [List.length_append, HN.out]; rfl)
    clear hT hk hb hkl hbl hkc hkm hbc hbm hn hin HF hve hce hul
    have HS1 := Lib.hid (show SlE [((Value.slice K kn kc, Value.slice B bn bc) : V2)] from fun v hv => by simp at hv; subst hv; exact ⟨rfl, rfl⟩)
    generalize l ++ [(k, b)] = l2 at *
    go_enter Tryd.func12, Tryd.ntmps12
    obtain ⟨q1, q2, q3, q4⟩ := alloc2 w (.cells (pcs i A n c f) 24) (.cells (pcs false none 0 0 false) 24)
    have Q1 := Lib.hid q1
    have Q2 := Lib.hid q2
    have Q4 := Lib.hid q4
    clear q1 q2 q4
    go_wp2_with fail
    refine (CH.out _ Q4.out).mono ?_
    rintro e w1 ⟨rfl, hb1⟩
    have HB0 := Lib.hid (bel_call Q4.out hb1 (by omega))
    have P0 := Lib.hid (old_below Q1.out hb1 (Nat.le_refl _))
    have R0 := Lib.hid (old_below Q2.out hb1 (Nat.le_refl _))
    have hsz0 : w.heap.size ≤ w1.heap.size := HB0.out.size
    obtain ⟨e0, e1, e2⟩ := cells3 (w := w1) P0.out
    obtain ⟨e0', e1', e2'⟩ := cells3 (w := w1.alloc (.cells #[] 59)) (old_alloc P0.out _)
    have HBa := Lib.hid ((Below.refl w1.heap.size w1).alloc (Nat.le_refl _) (.cells #[] 59))
    clear hb1 Q1 Q2 Q4 q3 CH
    go_wp2_with (first
      | (at_builtin; (refine wpList_appE rfl _ (.tmp 15) (.tmp 17) rfl w1.heap.size _ [] us rfl (by exact OwE.made0 w1 (Nat.le_refl _)) A n c _ rfl HU.out (by exact RC.out _ (bel_call HB0.out HBa.out hsz0)) HS.out (by rw [← HU.out]; simp only [List.length_nil]; omega) (by exact HBa.out.size) ?_); intro v2 w2 hown2 hgrow2; have HB2 := Lib.hid (OwE.below (w0 := w1) (by exact OwE.made0 w1 (Nat.le_refl _)) HBa.out hgrow2 (by exact HBa.out.size)); rw [List.nil_append] at hown2; have HO2 := Lib.hid hown2; obtain ⟨Au, cu, eu, hu1, hu2, hu3⟩ := hown2.form; rw [← HU.out] at eu; subst eu; have hsz2 := HB2.out.size; have HBb := Lib.hid (HB2.out.alloc hsz2 (.cells #[.slice K kn kc, .slice B bn bc] 59)); clear hown2 hgrow2 hu3 hu1)
      | (at_builtin; (refine wpList_appE rfl _ (.tmp 18) (.tmp 22) rfl w1.heap.size _ us [(.slice K kn kc, .slice B bn bc)] rfl (by exact HO2.out.alloc _) (some ⟨w2.heap.size, 0, none⟩) 1 1 (w2.heap.size + 1) rfl rfl (by exact ce_new w2 _ _) HS1.out (by rw [← HU.out]; simp only [List.length_cons, List.length_nil]; omega) (by exact HBb.out.size) ?_); intro v3 w3 hown3 hgrow3; have HB3 := Lib.hid (OwE.below (w0 := w1) (by exact HO2.out.alloc _) HBb.out hgrow3 (by exact HBb.out.size)); obtain ⟨A2, c2, et, h21, h22, ht3⟩ := hown3.form; rw [List.length_append, ← HU.out] at et h21; have HC3 := Lib.hid ht3; subst et; have P2 := old_below P0.out HB3.out (Nat.le_refl _); obtain ⟨f0, f1, f2⟩ := cells3 (w := w3) P2; obtain ⟨y0, y1, y2⟩ := frozen3 P2; clear hown3 hgrow3 ht3))
    have R2 := old_below R0.out HB3.out (Nat.le_refl _)
    have hB3 := bel_call HB0.out HB3.out hsz0
    have hT2 := Tab.setCell (q := 1) (ce_tab (RV.out _ hB3) HC3.out) P2 (.slice A2 (n + 1) c2)
    have hB2 := hB3.setCell (p := ⟨w.heap.size, 1, none⟩) (Nat.le_refl _) (.slice A2 (n + 1) c2)
    have hR2 := (heap_setCell_other w3 ⟨w.heap.size, 1, none⟩ (w.heap.size + 1) (.slice A2 (n + 1) c2) (by simp)).trans R2
    have hP2 := heap_setCell_same w3 w.heap.size 1 _ 24 (.slice A2 (n + 1) c2) P2
    simp only [List.setIfInBounds_toArray, List.set_cons_zero, List.set_cons_succ] at hP2
    have hsz : w3.heap.size = (w3.setCell ⟨w.heap.size, 1, none⟩ (.slice A2 (n + 1) c2)).heap.size := by simp [World.setCell]
    rw [hsz] at hT2
    change Code.wp _ _ _ _ (w3.setCell ⟨w.heap.size, 1, none⟩ (.slice A2 (n + 1) c2))
    clear f0 f1 f2 y0 y1 y2 P2 R2 hsz e0 e1 e2 e0' e1' e2' HB0 P0 R0 hB3 HC3 HO2 HB2 HB3 HBa HBb hsz0 hsz2
    generalize w3.setCell ⟨w.heap.size, 1, none⟩ (.slice A2 (n + 1) c2) = w4 at *
    have P1 := Lib.hid hP2
    have R1 := Lib.hid hR2
    have HB1 := Lib.hid hB2
    have HT1 := Lib.hid hT2
    obtain ⟨m, hm⟩ : ∃ m, m = n + 1 := ⟨_, rfl⟩
    have h21 : n + 1 ≤ c2 := h21
    rw [← hm] at P1 h21 HNL ⊢
    clear hm hP2 hR2 hB2 hT2
    obtain ⟨e0, e1, e2⟩ := cells3 (w := w4.drew) P1.out
    have hlt1 : w.heap.size + 1 < w4.heap.size := (Array.getElem?_eq_some_iff.1 R1.out).1
    go_region_held3 (fun w' => w'.cell? ⟨w.heap.size, 0, none⟩ = some (.bool i) ∧ w'.cell? ⟨w.heap.size, 1, none⟩ = some (.slice A2 m c2) ∧ w'.cell? ⟨w.heap.size, 2, none⟩ = some (.bool f))
      (first
       | ((try dsimp only); go_split_ands; refine ⟨?_, ?_, ?_⟩ <;> with_reducible assumption)
       | ((try dsimp only); go_split_ands; refine ⟨?_, ?_, ?_⟩ <;> (with_reducible refine far3 ?_ ?_) <;> (first | (with_reducible assumption) | omega)))
      (first
      | (go_at_call 26; refine (CC.out _ ?_).mono ?_; (exact HB1.out.drew); rintro e w5 ⟨⟨A5, c5, rfl, h51, h52, h53⟩, hb5⟩; have HR5 := Lib.hid h53; have HB5 := Lib.hid (bel_call HB1.out.drew hb5 (by exact HB1.out.size)); have hq1 := old_below (g := w.heap.size) (by exact P1.out) hb5 (Nat.le_refl _); obtain ⟨v0, v1, v2⟩ := cells3 hq1; have hq2 := old_below (g := w.heap.size + 1) (by exact R1.out) hb5 (Nat.le_refl _); obtain ⟨z0, z1, z2⟩ := cells3 hq2; obtain ⟨y0, y1, y2⟩ := frozen3 hq2; have QQ2 := Lib.hid hq2; have HT5 := Lib.hid ((Tab.below (w := w4.drew) (show Tab w4.drew w4.drew.heap.size A2 l2 from HT1.out) hb5 (Nat.le_refl _)).more hb5.size); clear hb5 hq1 hq2 h53))
    change Exit.then _ _ _ _ (set3 w5 (w.heap.size + 1) (.bool i) (.slice A2 m c2) (.bool f))
    have g1 := set3_same (.bool i) (.slice A2 m c2) (.bool f) QQ2.out
    have g3 := Below.set3 HB5.out (Nat.le_succ w.heap.size) (.bool i) (.slice A2 m c2) (.bool f)
    have g5 := HR5.out.set3 QQ2.out (.bool i) (.slice A2 m c2) (.bool f)
    have g6 := HT5.out.set3 QQ2.out (.bool i) (.slice A2 m c2) (.bool f)
    rw [← set3_size w5 (w.heap.size + 1) (.bool i) (.slice A2 m c2) (.bool f)] at g5 g6
    generalize set3 w5 (w.heap.size + 1) (.bool i) (.slice A2 m c2) (.bool f) = W6 at *
    have G1 := Lib.hid g1
    have G3 := Lib.hid g3
    have G5 := Lib.hid g5
    have G6 := Lib.hid g6
    clear g1 g3 g5 g6
    go_wp2_with fail
    (try simp only [Exit.inBlock, Exit.then])
    refine bodyPost_ret (ret3t rfl _ _ (w.heap.size + 1) (.bool i) (.slice A2 m c2) (.bool f) _ rfl rfl G1.out) rfl ?_
    exact ⟨⟨m, A2, c2, A5, c5, rfl, HNL.out, h21, h22, h51, h52, G6.out, G5.out⟩, G3.out⟩
end Go.Proofs.YtcfncbbdlbdbnaaDoor
