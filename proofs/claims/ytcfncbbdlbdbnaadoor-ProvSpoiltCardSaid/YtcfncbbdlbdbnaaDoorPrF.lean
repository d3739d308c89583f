
/- slices.Grow, slices.Concat, prov.behind. -/
import Derived.Test.YtcfncbbdlbdbnaaDoorPrE
import Derived.LoopN
namespace Go.Proofs.YtcfncbbdlbdbnaaDoor
open Go.RowKit

set_option maxRecDepth 100000 in
set_option maxHeartbeats 1000000 in
theorem grow_any (N : Nat) (h0 : 0 < N) (hN : N ≤ 100000) (w : World) :
    Calls Tryd.prog 40 #[.slice none 0 0, .int .i64 N] w fun e w' => (∃ g cap, e = .returned (.slice (some ⟨g, 0, none⟩) 0 cap) ∧ OwE w' w.heap.size (.slice (some ⟨g, 0, none⟩) 0 cap) []) ∧ Below w.heap.size w w' := by
  have h0i : (0 : Int) < (N : Int) := by omega
  have HG := Lib.hid (run_growE 22 w N h0 hN)
  clear h0
  go_enter Tryd.func40, Tryd.ntmps40
  go_wp2_with (at_builtin; obtain ⟨g, cap, w2, hr, h1, h2, ho, hb⟩ := HG.out; refine Lib.wpList_append_run w rfl (.tmp 20) (.tmp 21) 22 3 rfl _ _ rfl rfl _ _ hr ?_; have HO := Lib.hid ho; have HB := Lib.hid hb; clear ho hb hr)
  go_ret
  exact ⟨⟨g, cap, rfl, HO.out⟩, HB.out⟩

set_option maxRecDepth 100000 in
set_option maxHeartbeats 1000000 in
theorem concat_any (g g1 : Nat) (A : Option Addr) (us : List V2) (n c : Nat) (x y : Value) (hx : x.oneCell' = true) (hy : y.oneCell' = true) (w : World) (hn : n = us.length) (hle : n ≤ 1000)
    (hg : w.heap[g]? = some (.cells #[.slice A n c, .slice (some ⟨g1, 0, none⟩) 1 1] 22 (0, 0))) (hg1 : w.heap[g1]? = some (.cells #[x, y] 59 (0, 0))) (hc : CE w w.heap.size A us) (hs : SlE us) :
    Calls Tryd.prog 34 #[.slice (some ⟨g, 0, none⟩) 2 2] w fun e w' => (∃ A' c', e = .returned (.slice A' (n + 1) c') ∧ n + 1 ≤ c' ∧ c' ≤ 9223372036854775807 ∧ CE w' w'.heap.size A' (us ++ [(x, y)])) ∧ Below w.heap.size w w' := by
  have RG := Lib.hid (fun w' (h : Below w.heap.size w w') => old_below hg h (Nat.le_refl _))
  have R0 := Lib.hid (fun w' (h : Below w.heap.size w w') => show w'.cell? ⟨g, 0, none⟩ = some (.slice A n c) from by simp [World.cell?, RG.out w' h])
  have R1 := Lib.hid (fun w' (h : Below w.heap.size w w') => show w'.cell? ⟨g, 1, none⟩ = some (.slice (some ⟨g1, 0, none⟩) 1 1) from by simp [World.cell?, RG.out w' h])
  have RC := Lib.hid (fun w' (h : Below w.heap.size w w') => hc.below h (Nat.le_refl _))
  have RE := Lib.hid (fun w' (h : Below w.heap.size w w') => show CE w' w.heap.size (some ⟨g1, 0, none⟩) [(x, y)] from by
    have h2 := old_below hg1 h (Nat.le_refl _)
    refine fun _ => ⟨g1, 0, rfl, (Array.getElem?_eq_some_iff.1 hg1).1, fun j hj => ?_⟩
    obtain rfl : j = 0 := by simpa using hj
    exact ⟨by simp [World.cell?, h2], by simp [World.cell?, h2]⟩)
  have HS := Lib.hid hs
  have HS1 := Lib.hid (show SlE [(x, y)] from fun v hv => by simp at hv; subst hv; exact ⟨hx, hy⟩)
  have HN := Lib.hid hn
  have CG := Lib.hid (grow_any (n + 1) (by omega) (by omega) w)
  have c0 := R0.out w (Below.refl _ _)
  have c1 := R1.out w (Below.refl _ _)
  have hn0 : ¬ (n : Int) < 0 := by omega
  have hn1 : ¬ (n : Int) + 1 < 0 := by omega
  have e1 : ((n + 1 : Nat) : Int) = (n : Int) + 1 := by omega
  rw [e1] at CG
  clear hg hg1 hc hs hx hy hn e1
  go_enter Tryd.func34, Tryd.ntmps34
  go_wp2
  refine wp_loop_rounds 3 ?_
  rw [rounds_succ]
  go_wp2
  rw [rounds_succ]
  go_wp2
  rw [rounds_succ]
  go_wp2_with fail
  refine CG.out.mono ?_
  rintro e w1 ⟨⟨q, cap, rfl, ho⟩, hb⟩
  have HO := Lib.hid ho
  have HB := Lib.hid hb
  have k0 := R0.out _ hb
  clear ho hb c0 c1
  go_wp2_with fail
  refine wp_loop_rounds 3 ?_
  rw [rounds_succ]
  go_wp2_with (at_builtin; (refine wpList_appE rfl w1 (.tmp 31) (.tmp 32) rfl w.heap.size _ [] us rfl HO.out A n c w.heap.size rfl HN.out (by exact RC.out _ HB.out) HS.out (by rw [← HN.out]; simp only [List.length_nil]; omega) HB.out.size ?_); intro v2 w2 hown2 hgrow2; have HB2 := Lib.hid (OwE.below (w0 := w) HO.out HB.out hgrow2 HB.out.size); rw [List.nil_append] at hown2; have HO2 := Lib.hid hown2; obtain ⟨Au, cu, eu, hu1, hu2, hu3⟩ := hown2.form; rw [← HN.out] at eu; subst eu; have k1 := R1.out _ HB2.out; clear hown2 hgrow2 hu3 hu1)
  rw [rounds_succ]
  go_wp2_with (at_builtin; (refine wpList_appE rfl w2 (.tmp 31) (.tmp 32) rfl w.heap.size _ us [(x, y)] rfl HO2.out (some ⟨g1, 0, none⟩) 1 1 w.heap.size rfl rfl (by exact RE.out _ HB2.out) HS1.out (by rw [← HN.out]; simp only [List.length_cons, List.length_nil]; omega) HB2.out.size ?_); intro v3 w3 hown3 hgrow3; have HB3 := Lib.hid (OwE.below (w0 := w) HO2.out HB2.out hgrow3 HB2.out.size); obtain ⟨At, ct, et, ht1, ht2, ht3⟩ := hown3.form; rw [List.length_append, ← HN.out] at et ht1; have HC3 := Lib.hid ht3; subst et; clear hown3 hgrow3 ht3)
  rw [rounds_succ]
  go_wp2_with fail
  go_ret
  exact ⟨⟨At, ct, rfl, ht1, ht2, HC3.out⟩, HB3.out⟩
end Go.Proofs.YtcfncbbdlbdbnaaDoor
