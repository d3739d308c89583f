
/- The document's answer (frame): one. -/
import Derived.Test.YtplekllhnpljiaaJ11
namespace Go.Proofs.Ytplekllhnpljiaa
open Go.RowKit

set_option maxRecDepth 100000 in
theorem retFd {fn : Func} {p q : Tmp} (h : fn.results = #[.cell p 25, .tmp q]) (tmps : Array Value) (W : World) (g : Nat) (x y z v : Value) (hp : tmps.getD p undef = .pointer (some ⟨g, 0, none⟩)) (hq : tmps.getD q undef = v) (hg : W.heap[g]? = some (.cells #[x, y, z] 25 (0, 0))) :
    (results fn tmps).run Try.prog W = .ok (.tuple #[.agg #[x, y, z], v]) W := by
  have hp' : tmps[p]?.getD undef = .pointer (some ⟨g, 0, none⟩) := by simpa using hp
  have hq' : tmps[q]?.getD undef = v := by simpa using hq
  simp [results, h, hp', hq', asAddr, run_loadVar_row W g 25 25 #[x, y, z] (0, 0) _ hg Try.underlying25 rfl (by kernel_rfl)]
def set3F (w : World) (g : Nat) (x y z : Value) : World := ((w.setCell ⟨g, 0, none⟩ x).setCell ⟨g, 1, none⟩ y).setCell ⟨g, 2, none⟩ z
set_option maxRecDepth 100000 in
theorem set3F_same {w : World} {g : Nat} {t : TypeId} {a b c : Value} (x y z : Value) (h : w.heap[g]? = some (.cells #[a, b, c] t (0, 0))) : (set3F w g x y z).heap[g]? = some (.cells #[x, y, z] t (0, 0)) := by
  have h1 := heap_setCell_same w g 0 _ _ x h
  have h2 := heap_setCell_same _ g 1 _ _ y h1
  have h3 := heap_setCell_same _ g 2 _ _ z h2
  exact h3
set_option maxRecDepth 100000 in
theorem set3F_other (w : World) (g k : Nat) (x y z : Value) (h : k ≠ g) : (set3F w g x y z).heap[k]? = w.heap[k]? := by
  unfold set3F
  rw [Below.heap_setCell _ _ _ _ h, Below.heap_setCell _ _ _ _ h, Below.heap_setCell _ _ _ _ h]
set_option maxRecDepth 100000 in
theorem Below.set3F {B : Nat} {a w : World} (h : Below B a w) {g : Nat} (hg : B ≤ g) (x y z : Value) : Below B a (set3F w g x y z) :=
  ((h.setCell (p := ⟨g, 0, none⟩) hg _).setCell (p := ⟨g, 1, none⟩) hg _).setCell (p := ⟨g, 2, none⟩) hg _
set_option maxRecDepth 100000 in
theorem set3F_size (w : World) (g : Nat) (x y z : Value) : (set3F w g x y z).heap.size = w.heap.size := by simp [Proofs.Ytplekllhnpljiaa.set3F, World.setCell]

def AnsOne (W' : World) (e : Ending) (f : Fd) (r : List UInt8) : Prop := ∃ A1 c1 A2 c2, e = .returned (.tuple #[.agg #[.slice A1 f.buf.length c1, .int .i64 f.skip, .int .i64 f.bad], .slice A2 r.length c2]) ∧ f.buf.length ≤ c1 ∧ c1 ≤ 9223372036854775807 ∧ Rd W' W'.heap.size A1 f.buf ∧ r.length ≤ c2 ∧ c2 ≤ 9223372036854775807 ∧ Rd W' W'.heap.size A2 r

set_option maxRecDepth 100000 in
theorem Rd.keepB {w w' : World} {B : Nat} {l : List UInt8} (g : Nat) {o : Nat} (h : Rd w B (some ⟨g, o, none⟩) l) (hk : w'.heap[g]? = w.heap[g]?) : Rd w' B (some ⟨g, o, none⟩) l := fun h0 => by
  obtain ⟨b, o', e, hb, hc⟩ := h h0
  cases e
  exact ⟨g, o, rfl, hb, fun j hj => by rw [World.cell?_of_block (w := w) (a := ⟨g, o + j, none⟩) hk]; exact hc j hj⟩
set_option maxRecDepth 100000 in
theorem AnsOne.far {w w' : World} {f : Fd} {r : List UInt8} {g6 n c6 : Nat} {x y : Int} {A2 : Option Addr} {m c2 : Nat} {e : Ending} (h : AnsOne w e f r) (_g : Nat)
    (he : e = .returned (.tuple #[.agg #[.slice (some ⟨g6, 0, none⟩) n c6, .int .i64 x, .int .i64 y], .slice A2 m c2])) (hA : r = [] ∨ ∀ p, A2 = some p → p.block = g6) (hk : w'.heap[g6]? = w.heap[g6]?) (hs : w.heap.size ≤ w'.heap.size) : AnsOne w' e f r := by
  obtain ⟨A1, c1, A2', c2', rfl, h1, h2, h3, h4, h5, h6⟩ := h
  injection he with he
  injection he with he
  have e1 := congrArg (fun a : Array Value => a[0]?) he
  have e2 := congrArg (fun a : Array Value => a[1]?) he
  simp at e1 e2
  obtain ⟨⟨rfl, -, rfl⟩, rfl, rfl⟩ := e1
  obtain ⟨rfl, -, rfl⟩ := e2
  refine ⟨_, _, _, _, rfl, h1, h2, fun h0 => ?_, h4, h5, fun h0 => ?_⟩
  · obtain ⟨b, o, eq, hb, hc⟩ := h3 h0
    cases eq
    exact ⟨_, _, rfl, by omega, fun j hj => by rw [World.cell?_of_block (w := w) (a := ⟨g6, 0 + j, none⟩) hk]; exact hc j hj⟩
  · rcases hA with rfl | hA
    · exact absurd h0 (by simp)
    · obtain ⟨b, o, rfl, hb, hc⟩ := h6 h0
      have hbg : b = g6 := hA _ rfl
      subst hbg
      exact ⟨b, o, rfl, by omega, fun j hj => by rw [World.cell?_of_block (w := w) (a := ⟨b, o + j, none⟩) hk]; exact hc j hj⟩
set_option maxRecDepth 100000 in
set_option maxHeartbeats 4000000 in
theorem refOne_any (A : Option Addr) (l : List UInt8) (c : Nat) (s b : Int) (x : UInt8) (W : World) (hR : RightFd ⟨l, s, b⟩) (hc : l.length ≤ c) (hcm : c ≤ 9223372036854775807) (hr : Rd W W.heap.size A l) :
    Calls Try.prog 36 #[.agg #[.slice A l.length c, .int .i64 s, .int .i64 b], .int .u8 (x.toNat : Int)] W fun e W' => AnsOne W' e (oneF ⟨l, s, b⟩ x).1 (oneF ⟨l, s, b⟩ x).2 ∧ Below W.heap.size W W' := by
  have hsh := hR.short
  obtain ⟨r1, r2, r3, r4⟩ := hR
  simp only at r1 r2 r3 r4 hsh
  obtain ⟨V, hV, hb, g1, g2⟩ := box2x W #[.slice A l.length c, .int .i64 s, .int .i64 b] #[.slice none 0 0, .int .i64 0, .int .i64 0] 25 25
  obtain ⟨x0, x1, x2⟩ := cG3 g1
  obtain ⟨y0, y1, y2⟩ := cG3 g2
  have u0 := fG g1 0
  have u1 := fG g1 1
  have v0 := fG g2 0
  have v1 := fG g2 1
  have v2 := fG g2 2
  have HB := Lib.hid hb
  have HV := Lib.hid hV
  have RA := Lib.hid (hr.go hb)
  have RA0 := Lib.hid hr
  have G1 := Lib.hid g1
  have G2 := Lib.hid g2
  clear hb g1 g2 hr
  by_cases h0 : 0 < s
  · have e : oneF ⟨l, s, b⟩ x = (⟨l, s - 1, b⟩, []) := by unfold oneF; rw [if_pos h0]
    rw [e]
    clear e r3 r4 hsh
    obtain ⟨n, hn⟩ : ∃ n, n = l.length := ⟨_, rfl⟩
    have HN := Lib.hid hn
    rw [← hn] at hc G1 x0 hV HV ⊢
    clear hn
    rw [hV] at x0 x1 x2 y0 y1 y2 u0 u1 v0 v1 v2
    clear hV
    go_enter Try.func36, Try.ntmps36
    go_wp2
    obtain ⟨V2, hV2, hb2, k1, k2⟩ := box2x W #[.slice A n c, .int .i64 (s - 1), .int .i64 b] #[.slice A n c, .int .i64 (s - 1), .int .i64 b] 25 25
    rw [← hV2]
    refine bodyPost_ret (retFd rfl _ _ (W.heap.size + 1) _ _ _ _ rfl rfl k2) rfl ?_
    exact ⟨⟨A, c, none, 0, by rw [HN.out]; rfl, by rw [← HN.out]; exact hc, hcm, RA0.out.go hb2, Nat.le_refl _, by simp, Rd.nil⟩, hb2⟩
  have hs0 : s = 0 := by omega
  subst hs0
  obtain ⟨n, hn⟩ : ∃ n, n = l.length := ⟨_, rfl⟩
  have HNL := Lib.hid hn
  have HSH := Lib.hid (show n < 1026 by omega)
  have HVS := Lib.hid (show W.heap.size + 2 ≤ V.heap.size by rw [hV]; simp)
  rw [← hn] at hc G1 x0 hV HV r4 ⊢
  clear hn hsh r3
  obtain ⟨X, hX⟩ : ∃ X, X = oneF ⟨l, 0, b⟩ x := ⟨_, rfl⟩
  rw [← hX]
  have HX := Lib.hid hX
  clear hX
  rw [hV] at x0 x1 x2 y0 y1 y2 u0 u1 v0 v1 v2
  clear hV
  go_enter Try.func36, Try.ntmps36
  go_upto_region 4 with (fail)
  rw [← HV.out]
  clear x0 x1 x2 y0 y1 y2 u0 u1 v0 v1 v2
  obtain ⟨x0, x1, x2⟩ := cG3 (oldG G1.out ((Below.refl V.heap.size V).alloc (Nat.le_refl _) (.cells #[] 5)) (Nat.le_refl _))
  have HM0 := Lib.hid (Ow.made0 V (Nat.le_refl _))
  obtain ⟨L1, hL1⟩ : ∃ L, L = l ++ [x] := ⟨_, rfl⟩
  have HL1 := Lib.hid hL1
  have HLN := Lib.hid (show L1.length = n + 1 by rw [hL1, HNL.out]; simp)
  clear hL1
  go_upto_region 5 with (first
    | (at_builtin; refine wpList_appS _ rfl (.tmp 15) (.tmp 17) rfl V.heap.size _ [] l rfl (by exact HM0.out) A n c (V.alloc (.cells #[] 5)).heap.size rfl HNL.out (by exact RA.out.go ((Below.refl V.heap.size V).alloc (Nat.le_refl _) _)) (by rw [← HNL.out]; have := HSH.out; show 0 + n ≤ _; omega) (by exact le_alloc (Nat.le_refl _) _) ?_; intro v5 wa hown5 hgrow5; have hb5 := Ow.below (w0 := V) (by exact HM0.out) (by exact (Below.refl V.heap.size V).alloc (Nat.le_refl _) _) hgrow5 (by exact le_alloc (Nat.le_refl _) _); have HB5 := Lib.hid hb5; rw [List.nil_append] at hown5; have HO5 := Lib.hid hown5; clear hown5 hgrow5 hb5)
    | (at_builtin; refine wpList_appS _ rfl (.tmp 18) (.tmp 20) rfl V.heap.size _ l [x] rfl (by exact HO5.out.alloc _) (some ⟨wa.heap.size, 0, none⟩) 1 1 (wa.alloc (.cells #[.int .u8 (x.toNat : Int)] 5)).heap.size rfl rfl (by exact (Ow.made1 wa (Nat.le_refl _) x).rdG) (by rw [← HNL.out]; have := HSH.out; show n + 1 ≤ _; omega) (by exact le_alloc HB5.out.size _) ?_; intro v6 wb hown6 hgrow6; have hb6 := Ow.below (w0 := V) (by exact HO5.out.alloc _) (by exact HB5.out.alloc HB5.out.size _) hgrow6 (by exact le_alloc HB5.out.size _); rw [show l ++ [x] = L1 from HL1.out.symm] at hown6; obtain ⟨g6, c6, e6, hg6, -⟩ := World.ownsRow.form hown6 (by rw [HLN.out]; omega); rw [HLN.out] at e6; subst e6; have HO6 := Lib.hid hown6; have HB6 := Lib.hid hb6; have hG1 := oldG G1.out hb6 (Nat.le_refl _); obtain ⟨x0, x1, x2⟩ := cG3 hG1; have u0 := fG hG1 0; have HG1 := Lib.hid hG1; have HG2 := Lib.hid (oldG G2.out hb6 (Nat.le_refl _)); clear hown6 hgrow6 hb6 hG1 hg6 HO5 HB5))
  obtain ⟨-, bd1, bd2, bd3, bd4⟩ := Ow.bdG HO6.out
  rw [HLN.out] at bd1
  have hne1 : g6 ≠ W.heap.size := by have := HVS.out; omega
  have hz1 := heap_setCell_same wb W.heap.size 0 _ _ (.slice (some ⟨g6, 0, none⟩) (n + 1) c6) HG1.out
  have hz2 := (Below.heap_setCell wb ⟨W.heap.size, 0, none⟩ (.slice (some ⟨g6, 0, none⟩) (n + 1) c6) (W.heap.size + 1) (by simp)).trans HG2.out
  have hz3 : Rd (wb.setCell ⟨W.heap.size, 0, none⟩ (.slice (some ⟨g6, 0, none⟩) (n + 1) c6)) wb.heap.size (some ⟨g6, 0, none⟩) L1 := HO6.out.rdG.keepB g6 (Below.heap_setCell wb ⟨W.heap.size, 0, none⟩ _ g6 hne1)
  have hzb : Below W.heap.size W (wb.setCell ⟨W.heap.size, 0, none⟩ (.slice (some ⟨g6, 0, none⟩) (n + 1) c6)) := (belG HB.out HB6.out HB.out.size).setCell (p := ⟨W.heap.size, 0, none⟩) (Nat.le_refl _) _
  have hzs : (wb.setCell ⟨W.heap.size, 0, none⟩ (.slice (some ⟨g6, 0, none⟩) (n + 1) c6)).heap.size = wb.heap.size := by simp [World.setCell]
  rw [← hzs] at hz3
  generalize wb.setCell ⟨W.heap.size, 0, none⟩ (.slice (some ⟨g6, 0, none⟩) (n + 1) c6) = Z at *
  have Z1 := Lib.hid hz1
  have Z2 := Lib.hid hz2
  have RZ := Lib.hid hz3
  have HBZ := Lib.hid hzb
  have HG6 := Lib.hid (show W.heap.size + 2 ≤ g6 by have := HVS.out; omega)
  clear x0 x1 x2 u0 hz1 hz2 hz3 hzb hzs HO6 HB6 HG1 HG2 bd3 bd4 hne1
  obtain ⟨x0, x1, x2⟩ := cG3 Z1.out
  obtain ⟨y0, y1, y2⟩ := cG3 Z2.out
  have v0 := fG Z2.out 0
  have v1 := fG Z2.out 1
  have v2 := fG Z2.out 2
  have HNX := Lib.hid (show (l ++ [x]) = L1 from HL1.out.symm)
  have HO0 := Lib.hid (fun (h : 0 < L1.length) => (show Z.cell? ⟨g6, 0, none⟩ = some (.int .u8 ((L1[0]).toNat : Int)) from by
    obtain ⟨b', o', e, -, hc⟩ := RZ.out h
    cases e
    exact hc 0 h))
  have HO1 := Lib.hid (fun (h : 1 < L1.length) => (show Z.cell? ⟨g6, 1, none⟩ = some (.int .u8 ((L1[1]).toNat : Int)) from by
    obtain ⟨b', o', e, -, hc⟩ := RZ.out (by omega)
    cases e
    exact hc 1 h))
  by_cases h2 : n + 1 < 2
  · have e : oneF ⟨l, 0, b⟩ x = (⟨L1, 0, b⟩, []) := by
      unfold oneF
      rw [if_neg (by simp), if_pos (by show l.length + 1 < 2; rw [← HNL.out]; exact h2), HNX.out]
    have i1 : (n : Int) + 1 < 2 := by omega
    have HE := Lib.hid (show AnsOne Z (.returned (.tuple #[.agg #[.slice (some ⟨g6, 0, none⟩) (n + 1) c6, .int .i64 0, .int .i64 b], .slice none 0 0])) X.1 X.2 from by
      rw [HX.out.trans e]
      exact ⟨_, _, _, _, by rw [HLN.out]; rfl, by rw [HLN.out]; omega, bd2, RZ.out, Nat.le_refl _, by simp, Rd.nil⟩)
    have HX2 := Lib.hid (show X.2 = [] by rw [HX.out, e])
    clear e h2 r4 HM0
    go_wp2
    refine bodyPost_ret (retFd rfl _ (set3F Z (W.heap.size + 1) (.slice (some ⟨g6, 0, none⟩) (n + 1) c6) (.int .i64 0) (.int .i64 b)) (W.heap.size + 1) _ _ _ _ rfl rfl (set3F_same _ _ _ Z2.out)) rfl ?_
    exact ⟨HE.out.far (W.heap.size + 1) rfl (.inl HX2.out) (set3F_other Z (W.heap.size + 1) g6 _ _ _ (by have := HG6.out; omega)) (Nat.le_of_eq (set3F_size Z _ _ _ _).symm), Below.set3F HBZ.out (Nat.le_succ _) _ _ _⟩
  have i1 : ¬ (n : Int) + 1 < 2 := by omega
  have c0 := HO0.out (by rw [HLN.out]; omega)
  have c1 := HO1.out (by rw [HLN.out]; omega)
  obtain ⟨p, hp⟩ : ∃ p, p = (L1[0]'(by rw [HLN.out]; omega)).toNat := ⟨_, rfl⟩
  obtain ⟨q, hq⟩ : ∃ p, p = (L1[1]'(by rw [HLN.out]; omega)).toNat := ⟨_, rfl⟩
  have p8 : p < 256 := by rw [hp]; exact (L1[0]'(by rw [HLN.out]; omega)).toNat_lt
  have q8 : q < 256 := by rw [hq]; exact (L1[1]'(by rw [HLN.out]; omega)).toNat_lt
  have hnF : nF L1 = 256 * p + q := by rw [nF_of (b := L1) (by rw [HLN.out]; omega), ← hp, ← hq]
  rw [← hp] at c0
  rw [← hq] at c1
  obtain ⟨N, hN⟩ : ∃ N, N = 256 * p + q := ⟨_, rfl⟩
  have i8 : 256 * (p : Int) + (q : Int) = (N : Int) := by omega
  have hNb : N ≤ 65535 := by omega
  rw [← hN] at hnF
  have HNF := Lib.hid hnF
  have i6 : (0 : Int) < (n : Int) + 1 := by omega
  have i7 : (1 : Int) < (n : Int) + 1 := by omega
  clear hp hq hN hnF HM0
  by_cases k1 : N = 0 ∨ 1024 < N
  · have e : oneF ⟨l, 0, b⟩ x = (⟨[], (N : Nat), inc64 b⟩, []) := by
      unfold oneF
      rw [if_neg (by simp), if_neg (by show ¬ l.length + 1 < 2; rw [← HNL.out]; exact h2)]
      simp only [HNX.out, HNF.out]
      rw [if_pos k1]
    have HX2 := Lib.hid (HX.out.trans e)
    have HBD := Lib.hid (fun k => below_drewN HBZ.out k)
    clear e h2 r4 HO0 HO1 RZ
    rcases Nat.eq_zero_or_pos N with k0 | k0
    · subst k0
      have i9 : 256 * (p : Int) + (q : Int) = 0 := i8
      clear i8 k1
      go_wp2
      go_quiet (fail)
      go_wp2
      refine bodyPost_ret (retFd rfl _ (set3F (Z.drewN nq) (W.heap.size + 1) (.slice none 0 0) (.int .i64 0) (.int .i64 (wrap64 (b + 1)))) (W.heap.size + 1) _ _ _ _ rfl rfl (set3F_same _ _ _ Z2.out)) rfl ?_
      refine ⟨?_, Below.set3F (HBD.out _) (Nat.le_succ _) _ _ _⟩
      rw [HX2.out]
      exact ⟨none, 0, none, 0, rfl, Nat.le_refl _, by simp, Rd.nil, Nat.le_refl _, by simp, Rd.nil⟩
    · have k2 : (1024 : Int) < (N : Int) := by omega
      have k3 : ¬ (N : Int) = 0 := by omega
      have k4 : ((N : Int) == 0) = false := beq_eq_false_iff_ne.2 k3
      clear k0 k1
      go_wp2
      go_quiet (fail)
      go_wp2
      refine bodyPost_ret (retFd rfl _ (set3F (Z.drewN nq) (W.heap.size + 1) (.slice none 0 0) (.int .i64 (N : Nat)) (.int .i64 (wrap64 (b + 1)))) (W.heap.size + 1) _ _ _ _ rfl rfl (set3F_same _ _ _ Z2.out)) rfl ?_
      refine ⟨?_, Below.set3F (HBD.out _) (Nat.le_succ _) _ _ _⟩
      rw [HX2.out]
      exact ⟨none, 0, none, 0, rfl, Nat.le_refl _, by simp, Rd.nil, Nat.le_refl _, by simp, Rd.nil⟩
  have k2 : ¬ (1024 : Int) < (N : Int) := by omega
  have k3 : ¬ (N : Int) = 0 := by omega
  have k4 : ((N : Int) == 0) = false := beq_eq_false_iff_ne.2 k3
  by_cases k5 : n + 1 < N + 2
  · have e : oneF ⟨l, 0, b⟩ x = (⟨L1, 0, b⟩, []) := by
      unfold oneF
      rw [if_neg (by simp), if_neg (by show ¬ l.length + 1 < 2; rw [← HNL.out]; exact h2)]
      simp only [HNX.out, HNF.out]
      rw [if_neg k1, if_pos (by rw [← HNL.out]; exact k5)]
    have HE := Lib.hid (show AnsOne Z (.returned (.tuple #[.agg #[.slice (some ⟨g6, 0, none⟩) (n + 1) c6, .int .i64 0, .int .i64 b], .slice none 0 0])) X.1 X.2 from by
      rw [HX.out.trans e]
      exact ⟨_, _, _, _, by rw [HLN.out]; rfl, by rw [HLN.out]; omega, bd2, RZ.out, Nat.le_refl _, by simp, Rd.nil⟩)
    have HX2 := Lib.hid (show X.2 = [] by rw [HX.out, e])
    have i5 : (n : Int) + 1 < (N : Int) + 2 := by omega
    have HBD := Lib.hid (fun k => below_drewN HBZ.out k)
    clear e h2 r4 HO0 HO1 RZ k1 k5
    go_wp2
    go_quiet (fail)
    go_wp2
    refine bodyPost_ret (retFd rfl _ (set3F (Z.drewN nq) (W.heap.size + 1) (.slice (some ⟨g6, 0, none⟩) (n + 1) c6) (.int .i64 0) (.int .i64 b)) (W.heap.size + 1) _ _ _ _ rfl rfl (set3F_same _ _ _ Z2.out)) rfl ?_
    exact ⟨HE.out.far (W.heap.size + 1) rfl (.inl HX2.out) (set3F_other (Z.drewN nq) (W.heap.size + 1) g6 _ _ _ (by have := HG6.out; omega)) (Nat.le_of_eq (set3F_size (Z.drewN nq) _ _ _ _).symm), Below.set3F (HBD.out _) (Nat.le_succ _) _ _ _⟩
  have i5 : ¬ (n : Int) + 1 < (N : Int) + 2 := by omega
  have e : oneF ⟨l, 0, b⟩ x = (⟨[], 0, b⟩, L1.drop 2) := by
    unfold oneF
    rw [if_neg (by simp), if_neg (by show ¬ l.length + 1 < 2; rw [← HNL.out]; exact h2)]
    simp only [HNX.out, HNF.out]
    rw [if_neg k1, if_neg (by rw [← HNL.out]; exact k5)]
  have HX2 := Lib.hid (HX.out.trans e)
  have HBD := Lib.hid (fun k => below_drewN HBZ.out k)
  have HLD := Lib.hid (show (L1.drop 2).length = n - 1 by rw [List.length_drop, HLN.out]; omega)
  have HRD := Lib.hid (show Rd Z Z.heap.size (some ⟨g6, 2, none⟩) (L1.drop 2) from fun h0 => by
    obtain ⟨b', o', e', hb', hc'⟩ := RZ.out (by rw [HLN.out]; omega)
    cases e'
    refine ⟨g6, 2, rfl, hb', fun j hj => ?_⟩
    have h9 := hc' (2 + j) (by rw [List.length_drop] at hj; omega)
    rw [Nat.zero_add] at h9
    rw [h9, List.getElem_drop])
  have j1 : (2 : Int) ≤ (n : Int) + 1 := by omega
  have j2 : (2 : Int) ≤ (c6 : Int) := by omega
  clear e h2 r4 HO0 HO1 RZ k1 k5
  go_wp2
  go_quiet (fail)
  go_wp2_with fail
  go_region
  go_wp2
  refine bodyPost_ret (retFd rfl _ (set3F (Z.drewN (nq + 1)) (W.heap.size + 1) (.slice none 0 0) (.int .i64 0) (.int .i64 b)) (W.heap.size + 1) _ _ _ _ rfl rfl (set3F_same _ _ _ Z2.out)) rfl ?_
  refine ⟨?_, Below.set3F (HBD.out _) (Nat.le_succ _) _ _ _⟩
  rw [HX2.out]
  refine ⟨none, 0, some ⟨g6, 2, none⟩, c6 - 2, by rw [HLD.out]; rfl, Nat.le_refl _, by simp, Rd.nil, by rw [HLD.out]; omega, by omega, ?_⟩
  show Rd (set3F (Z.drewN (nq + 1)) (W.heap.size + 1) (.slice none 0 0) (.int .i64 0) (.int .i64 b)) (set3F (Z.drewN (nq + 1)) (W.heap.size + 1) (.slice none 0 0) (.int .i64 0) (.int .i64 b)).heap.size (some ⟨g6, 2, none⟩) (L1.drop 2)
  rw [set3F_size]
  exact HRD.out.keepB g6 (set3F_other (Z.drewN (nq + 1)) (W.heap.size + 1) g6 _ _ _ (by have := HG6.out; omega))
end Go.Proofs.Ytplekllhnpljiaa
