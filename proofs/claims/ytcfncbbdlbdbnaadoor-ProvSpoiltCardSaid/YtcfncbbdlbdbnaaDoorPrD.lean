
/- prov.Had. -/
import Derived.Test.YtcfncbbdlbdbnaaDoorPrC
namespace Go.Proofs.YtcfncbbdlbdbnaaDoor
open Go.RowKit Go.Shelf
attribute [local go_sem] Oper.semAt_some

theorem keeps_from {W W' : World} (h : Below W.heap.size W W') (B : Nat) : KeepsFrom B W W' :=
  ⟨h.size, fun k o _ hk _ => (h.block k (Array.getElem?_eq_some_iff.1 hk).1).trans hk⟩
/-- a block of two cells abides what is no cells -/
theorem boxed2_own {β : Type} (B : Nat) (t : TypeId) (f g : β → Value) : Own (fun s W => W.heap[B]? = some (.cells #[f s, g s] t (0, 0))) := fun s X Y row hs hg hrow => by
  have hs : X.heap[B]? = some (.cells #[f s, g s] t (0, 0)) := hs
  refine (hg.block B (Array.getElem?_eq_some_iff.1 hs).1 (fun e' => ?_)).trans hs
  obtain ⟨o, ho, hc⟩ := hrow B e'.symm
  rw [hs] at ho
  cases ho
  cases hc

theorem fold1 (W : World) (a x : Value) (t : TypeId) : (W.alloc (.cells #[a] t)).setCell ⟨W.heap.size, 0, none⟩ x = W.alloc (.cells #[x] t) := by
  simp only [World.setCell, World.alloc]
  congr 1
  apply Array.ext_getElem?
  intro i
  simp only [Array.getElem?_modify]
  by_cases h : W.heap.size = i
  · subst h; simp
  · have h' : ¬ i = W.heap.size := fun e => h e.symm
    simp [h, h', Array.getElem?_push]
theorem store_new1 (P : Program) (W : World) (x v : Value) (t : TypeId) (hv : v.oneCell' = true) : (store ⟨W.heap.size, 0, none⟩ v).run P (W.alloc (.cells #[x] t)) = .ok () (W.alloc (.cells #[v] t)) := by
  have h := Boxed.new W t x
  rw [run_store P _ _ _ _ hv, h.cell]
  simp only [h.frozen, fold1]
  rfl

set_option maxRecDepth 100000 in
set_option maxHeartbeats 2000000 in
theorem had_in (n : Nat) (hn : 3 ≤ n) (i f : Bool) (A : Option Addr) (l : List Pr) (c : Nat) (K B : Option Addr) (k b : List UInt8) (kc bc : Nat) (w : World) (h1000 : l.length ≤ 1000) (hkc : k.length ≤ kc) (hkm : kc ≤ 9223372036854775807) (hbc : b.length ≤ bc) (hbm : bc ≤ 9223372036854775807)
    (hT : Tab w w.heap.size A l) (hk : Rd w w.heap.size K k) (hb : Rd w w.heap.size B b) :
    CallsIn Fence.wide n Tryd.prog 17 #[.agg #[.bool i, .slice A l.length c, .bool f], .slice K k.length kc, .slice B b.length bc] w fun e W' => e = .returned (.bool (decide ((k, b) ∈ l))) ∧ Below w.heap.size w W' := by
  have h1 : 1 ≤ n := by omega
  have hf2 := fold2
  have hmf : ∀ (fn : Fn) (first cap : Array Value) (w : World), (Instr.makeFunc fn first cap).run Tryd.prog w = .ok (.func fn first cap) w := fun _ _ _ _ => rfl
  have hsf := store_new1 Tryd.prog ((w.alloc (.cells #[.bool i, .slice A l.length c, .bool f] 24)).alloc (.cells #[.bool false] 4)) .nilFunc (.func (.func 28) #[.agg #[.slice K k.length kc, .slice B b.length bc]] #[]) 62 rfl
  simp only [World.size_alloc] at hsf
  have HE := Lib.hid (show Ent w w.heap.size (.agg #[.slice K k.length kc, .slice B b.length bc]) (k, b) from ⟨_, _, _, _, rfl, hkc, hkm, hbc, hbm, hk, hb⟩)
  have HT := Lib.hid hT
  have H1000 := Lib.hid h1000
  obtain ⟨N, hN⟩ : ∃ N, N = l.length := ⟨_, rfl⟩
  have HN := Lib.hid hN
  rw [← hN] at hsf ⊢
  generalize k.length = kn at *
  generalize b.length = bn at *
  clear hk hb hT hkc hkm hbc hbm h1000 hN
  refine callsIn_of_wp_marks Tryd.func17 rfl trivial ?_ rfl
  simp only [Tryd.ntmps17, List.size_toArray, List.length_cons, List.length_nil, Nat.reduceAdd, Nat.reduceSub, Array.replicate_succ, Array.replicate_zero, List.push_toArray, List.append_toArray, List.nil_append, List.cons_append]
  gi_wp2_with (refine ⟨trivial, ?_⟩; gi_at_call 29; refine (entries_in Fence.wide (n - 1) trivial rfl _ _ _ _).mono ?_; rintro e w' ⟨rfl, rfl⟩)
  have bR := ((Boxed.new (w.alloc (.cells #[.bool i, .slice A N c, .bool f] 24)) 4 (.bool false)).alloc (.cells #[.func (.func 28) #[.agg #[.slice K kn kc, .slice B bn bc]] #[]] 62)).alloc (.cells #[.slice A N c] 22)
  have bF := (Boxed.new ((w.alloc (.cells #[.bool i, .slice A N c, .bool f] 24)).alloc (.cells #[.bool false] 4)) 62 (.func (.func 28) #[.agg #[.slice K kn kc, .slice B bn bc]] #[])).alloc (.cells #[.slice A N c] 22)
  have bN := Boxed.new (((w.alloc (.cells #[.bool i, .slice A N c, .bool f] 24)).alloc (.cells #[.bool false] 4)).alloc (.cells #[.func (.func 28) #[.agg #[.slice K kn kc, .slice B bn bc]] #[]] 62)) 22 (.slice A N c)
  have hB0 : Below w.heap.size w ((((w.alloc (.cells #[.bool i, .slice A N c, .bool f] 24)).alloc (.cells #[.bool false] 4)).alloc (.cells #[.func (.func 28) #[.agg #[.slice K kn kc, .slice B bn bc]] #[]] 62)).alloc (.cells #[.slice A N c] 22)) :=
    ((((Below.refl _ w).alloc (Nat.le_refl _) _).alloc (by simp) _).alloc (by simp; omega) _).alloc (by simp; omega) _
  simp only [World.size_alloc] at bR bF bN
  have hsz : ((((w.alloc (.cells #[.bool i, .slice A N c, .bool f] 24)).alloc (.cells #[.bool false] 4)).alloc (.cells #[.func (.func 28) #[.agg #[.slice K kn kc, .slice B bn bc]] #[]] 62)).alloc (.cells #[.slice A N c] 22)).heap.size = w.heap.size + 4 := by simp
  obtain ⟨W0, hW0⟩ : ∃ W0, ((((w.alloc (.cells #[.bool i, .slice A N c, .bool f] 24)).alloc (.cells #[.bool false] 4)).alloc (.cells #[.func (.func 28) #[.agg #[.slice K kn kc, .slice B bn bc]] #[]] 62)).alloc (.cells #[.slice A N c] 22)) = W0 := ⟨_, rfl⟩
  rw [hW0] at bR bF bN hB0 hsz ⊢
  clear hW0 hsf
  have hcN := bN.cell
  rw [HN.out] at hcN
  refine wpIn_rangeFunc_ownH rfl h1 (gf := 37) (lb := #[.pointer (some ⟨w.heap.size + 1 + 1 + 1, 0, none⟩)]) rfl trivial (enters_of Tryd.func37 (by kernel_rfl) rfl)
    (entries_stops Fence.wide (n - 1) trivial rfl (by omega) (w.heap.size + 1 + 1 + 1) A l c H1000.out w W0 (by omega) hB0 hcN HT.out) belowK_t (belowK_b (by omega)) (Below.refl _ _) (fun _ => rfl)
    (fun pre W => ((∀ x ∈ pre, x.1.2 ≠ (k, b)) ∧ (Boxed W (w.heap.size + 1) 4 (.bool false) ∧ Boxed W (w.heap.size + 1 + 1) 62 (.func (.func 28) #[.agg #[.slice K kn kc, .slice B bn bc]] #[]))) ∧ Below w.heap.size w W)
    (fun c pre W => ((c = .ret ∧ ∃ x ∈ pre, x.1.2 = (k, b)) ∧ Boxed W (w.heap.size + 1) 4 (.bool true)) ∧ Below w.heap.size w W)
    (OwnFrom.and (OwnFrom.and (ownFrom_pure _ _) (OwnFrom.and (Own.from (boxed_own _ _ _) _) (Own.from (boxed_own _ _ _) _))) (ownFrom_below (Nat.le_refl _) (by omega)))
    (fun _ => OwnFrom.and (OwnFrom.and (ownFrom_pure _ _) (Own.from (boxed_own _ _ _) _)) (ownFrom_below (Nat.le_refl _) (by omega)))
    ⟨⟨by simp, bR, bF⟩, hB0⟩
    (fun x a' W => ∃ Bx A1 n1 c1 A2 n2 c2, w.heap.size + 1 + 1 < Bx ∧ x.1.1 = .agg #[.slice A1 n1 c1, .slice A2 n2 c2] ∧ W.heap[Bx]? = some (.cells #[.slice A1 n1 c1, .slice A2 n2 c2] 59 (0, 0)) ∧ a' = { tmps := #[.agg #[.bool i, .slice A N c, .bool f], .slice K kn kc, .slice B bn bc, .pointer (some ⟨w.heap.size, 0, none⟩), undef, undef, .pointer (some ⟨w.heap.size + 1, 0, none⟩), .pointer (some ⟨w.heap.size + 1 + 1, 0, none⟩), .pointer (some ⟨Bx, 0, none⟩), .slice K kn kc, .slice B bn bc, .agg #[.slice K kn kc, .slice B bn bc], .func (.func 28) #[.agg #[.slice K kn kc, .slice B bn bc]] #[], .pointer (some ⟨w.heap.size, 1, none⟩), .slice A N c, .func (.func 37) #[] #[.pointer (some ⟨w.heap.size + 1 + 1 + 1, 0, none⟩)], x.1.1, undef, undef, undef], defers := [] })
    (fun x a' _ X Y row hs hg hr => by
      obtain ⟨Bx, A1, n1, c1, A2, n2, c2, h1, h2, h3, h4⟩ := hs
      exact ⟨Bx, A1, n1, c1, A2, n2, c2, h1, h2, boxed2_own Bx 59 (fun (_ : Unit) => Value.slice A1 n1 c1) (fun _ => .slice A2 n2 c2) () X Y row h3 hg (fun r e => (hr r e).2), h4⟩)
    ?assign ?body ?done ?stop
  case assign =>
    rintro l1 pre x W K1 ⟨⟨hp, bR1, bF1⟩, hB1⟩ hK
    obtain ⟨A1, c1, A2, c2, e1, _⟩ := x.2
    generalize x.1.2.1.length = n1 at *
    generalize x.1.2.2.length = n2 at *
    rw [e1]
    gi_wp2
    refine hK _ _ ((KeepsOthers.alloc _ _).from _) ((Below.refl _ W).alloc hB1.size _) ⟨⟨hp, bR1.alloc _, bF1.alloc _⟩, hB1.alloc hB1.size _⟩ ⟨W.heap.size, A1, n1, c1, A2, n2, c2, bF1.lt, e1, heap_alloc_new W _, ?_⟩
    rw [e1]
  case body =>
    rintro l1 pre x a' W hl ⟨r, hr⟩ ⟨⟨hp, bR1, bF1⟩, hB1⟩ ⟨Bx, A1, n1, c1, A2, n2, c2, hBx, e1, bX, rfl⟩ hlt
    have cF := bF1.cell
    have cR := bR1.cell
    have fR := bR1.frozen
    have c0 : W.cell? ⟨Bx, 0, none⟩ = some (.slice A1 n1 c1) := by simp [World.cell?, bX]
    have c1' : W.cell? ⟨Bx, 1, none⟩ = some (.slice A2 n2 c2) := by simp [World.cell?, bX]
    have h1' : 1 ≤ n - 1 - 1 := by omega
    have CI := Lib.hid (fun (_ : Unit) => is_ent _ _ _ _ w.heap.size W hB1.size (HE.out.below hB1 (Nat.le_refl _)) (x.2.below hB1 (Nat.le_refl _)))
    rw [e1] at CI
    have hlR := bR1.lt
    have hlF := bF1.lt
    by_cases hx : (k, b) = x.1.2
    · rw [decide_eq_true hx] at CI
      gi_wp2_with (refine ⟨trivial, ?_⟩; gi_at_call 28; refine (CallsIn.inRound l1 (callsIn_wide.2 (CI.out ()))).mono ?_; rintro e w1 ⟨rfl, hb1⟩; have bR2 : Boxed w1 (w.heap.size + 1) 4 (.bool false) := (hb1.block _ hlR).trans bR1; have cR2 := bR2.cell; have fR2 := bR2.frozen)
      exact ⟨(keeps_from hb1 _).trans ((KeepsOthers.setCell _ _ _).from _), ⟨⟨rfl, x, by simp, hx.symm⟩, bR2.set _⟩, (hB1.trans (hb1.mono hB1.size)).setCell (p := ⟨w.heap.size + 1, 0, none⟩) (by simp) _⟩
    · rw [decide_eq_false hx] at CI
      gi_wp2_with (refine ⟨trivial, ?_⟩; gi_at_call 28; refine (CallsIn.inRound l1 (callsIn_wide.2 (CI.out ()))).mono ?_; rintro e w1 ⟨rfl, hb1⟩; have bR2 : Boxed w1 (w.heap.size + 1) 4 (.bool false) := (hb1.block _ hlR).trans bR1; have bF2 : Boxed w1 (w.heap.size + 1 + 1) 62 _ := (hb1.block _ hlF).trans bF1; have cR2 := bR2.cell; have fR2 := bR2.frozen)
      exact ⟨keeps_from hb1 _, hb1.mono hB1.size, ⟨⟨fun y hy => (List.mem_append.1 hy).elim (hp y) (fun e => by simp at e; subst e; exact fun h => hx h.symm), bR2, bF2⟩, hB1.trans (hb1.mono hB1.size)⟩⟩
  case done =>
    rintro D ys W hD hys ⟨⟨hne, bR1, _⟩, hB1⟩ hK
    have cR := bR1.cell
    have fR := bR1.frozen
    gi_wp2
    have hK' := (KeepsOthers.setCell W ⟨w.heap.size + 1, 0, none⟩ (.bool false)).same D _ hK rfl
    refine ⟨by simp, .inl ⟨_, _, rfl, run_takeDeferred hK', ?_⟩⟩
    have hc5 := cell_kept (World.cell?_setCell_same' W ⟨w.heap.size + 1, 0, none⟩ (.bool false) (by rw [cR]; rfl)) (grownBy_putObj' _ D (.deferred none)) (fun r e => by cases e; exact ⟨_, hK', rfl⟩)
    refine ⟨.bool false, ?_, ?_, (hB1.setCell (p := ⟨w.heap.size + 1, 0, none⟩) (by simp) _).trans (belowK_b (w := w) (Nat.le_refl _) _ D _ _ (by omega) hK' rfl rfl)⟩
    · simp [results, Tryd.f17, go_sem, hc5]
    · rw [decide_eq_false]
      rw [← hys]
      intro h
      obtain ⟨x, hx, e⟩ := List.mem_map.1 h
      exact hne x hx e
  case stop =>
    rintro D cc pre W hD hpre ⟨⟨⟨rfl, hin⟩, bR1⟩, hB1⟩ hK
    have cR := bR1.cell
    gi_wp2
    refine ⟨by simp, .inl ⟨_, _, rfl, run_takeDeferred hK, ?_⟩⟩
    have hc5 := cell_kept cR (grownBy_putObj' _ D (.deferred none)) (fun r e => by cases e; exact ⟨_, hK, rfl⟩)
    refine ⟨.bool true, ?_, ?_, hB1.trans (belowK_b (w := w) (Nat.le_refl _) W D _ _ (by omega) hK rfl rfl)⟩
    · simp [results, Tryd.f17, go_sem, hc5]
    · rw [decide_eq_true]
      obtain ⟨x, hx, e⟩ := hin
      exact hpre.subset (List.mem_map.2 ⟨x, hx, e⟩)

theorem had_any (i f : Bool) (A : Option Addr) (l : List Pr) (c : Nat) (K B : Option Addr) (k b : List UInt8) (kc bc : Nat) (w : World) (h1000 : l.length ≤ 1000) (hkc : k.length ≤ kc) (hkm : kc ≤ 9223372036854775807) (hbc : b.length ≤ bc) (hbm : bc ≤ 9223372036854775807)
    (hT : Tab w w.heap.size A l) (hk : Rd w w.heap.size K k) (hb : Rd w w.heap.size B b) :
    Calls Tryd.prog 17 #[.agg #[.bool i, .slice A l.length c, .bool f], .slice K k.length kc, .slice B b.length bc] w fun e W' => e = .returned (.bool (decide ((k, b) ∈ l))) ∧ Below w.heap.size w W' :=
  (callsIn_wide (n := 3)).1 (had_in 3 (by omega) i f A l c K B k b kc bc w h1000 hkc hkm hbc hbm hT hk hb)
end Go.Proofs.YtcfncbbdlbdbnaaDoor
