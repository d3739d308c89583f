
/- The document's Tag, Kcv. -/
import Derived.Test.YtcfncbbdlbdbnaaDoorMacD
import Derived.Test.YtcfncbbdlbdbnaaDoorMacC
namespace Go.Proofs.YtcfncbbdlbdbnaaDoor
open Go.RowKit

/-- an append that tells where the new row lies -/
theorem wpList_appL {ops : Array Oper} {rest : List Oper} {o : Oper} {a : Act} {Q : Exit → Act → World → Prop} (hgd : o.guard = none) (w : World) (s x : Operand)
    (ho : o.op = .call { callee := .builtin .append, args := #[s, x], argTypes := #[25, 25] })
    (base : Nat) (v : Value) (l news : List UInt8) (hs : a.eval s = v) (h : Ow w base v l) (ad : Addr) (m c : Nat) (hx : a.eval x = .slice (some ad) m c) (hm : m = news.length) (hm0 : 0 < news.length) (N : Nat) (hN : l.length + news.length = N)
    (hnews : ∀ j u, (cs news)[j]? = some u → w.cell? (ad.add j) = some u) (hlen : l.length + news.length ≤ 100000000) (hbase : base ≤ w.heap.size)
    (hK : ∀ g cap w', Ow w' base (.slice (some ⟨g, 0, none⟩) N cap) (l ++ news) → w.grownBy w' v.ownBlock → (v.ownBlock = some g ∨ g = w.heap.size) → wpList Tryd.prog ops Q rest (a.put o.dst (.slice (some ⟨g, 0, none⟩) N cap)) w') : wpList Tryd.prog ops Q (o :: rest) a w := by
  subst hm
  subst hN
  obtain ⟨i0, hi, hz0, hz1, hz2⟩ := info_parts info5
  refine wpList_append_lies w hgd s x 25 ho base 5 i0 (.int .u8 0) 1 1 Tryd.underlying25 hi hz0 hz1 hz2 rfl (by decide) v l.length (cs l) hs h ad news.length c (cs news) hx (by simp [cs]) hnews (cs_one news) hm0 (by unfold maxLen; omega) (by omega) hbase _ rfl ?_
  intro g cap w' h1 h2 h3 h4
  refine hK g cap w' ?_ h2 h3
  unfold Ow
  rw [List.length_append, cs_append]
  exact h1
/-- two rows that lie apart -/
def Dj (v u : Value) : Prop := ∀ g, v.ownBlock = some g → u.ownBlock ≠ some g
theorem Dj.symm {v u : Value} (h : Dj v u) : Dj u v := fun g h1 h2 => h g h2 h1
theorem Dj.step {w : World} {base : Nat} {v u : Value} {l : List UInt8} {g n cap : Nat} (h : Dj v u) (hu : Ow w base u l) (hg : v.ownBlock = some g ∨ g = w.heap.size) : Dj (.slice (some ⟨g, 0, none⟩) n cap) u := by
  intro g' h1 h2
  obtain rfl : g = g' := by simpa [Value.ownBlock] using h1
  rcases hg with hg | hg
  · exact h g hg h2
  · have := (World.ownsRow.lt hu g h2).2
    omega
theorem Ow.kept {w w' : World} {base : Nat} {v u : Value} {l : List UInt8} (hu : Ow w base u l) (hg : w.grownBy w' v.ownBlock) (h : Dj v u) : Ow w' base u l := by
  refine World.ownsRow.kept hu hg ?_
  cases hb : u.ownBlock with
  | none => exact .inl rfl
  | some g =>
    right
    intro e
    exact h g e.symm hb
theorem xor_snoc (x : UInt8) (l : List UInt8) (k : Nat) (h : k < l.length) : xorL x (l.take k) ++ [l.getD k 0 ^^^ x] = xorL x (l.take (k + 1)) := by
  rw [List.take_succ_eq_append_getElem h]
  unfold xorL
  rw [List.map_append, List.getD_eq_getElem?_getD, List.getElem?_eq_getElem h]
  rfl
theorem newsx (w : World) (y x : UInt8) (n : Int) (hn : n = (x.toNat : Int)) : ∀ j u, (cs [y ^^^ x])[j]? = some u → (w.alloc (.cells #[.int .u8 (bits .xor .u8 (y.toNat : Int) n)] 5)).cell? ((⟨w.heap.size, 0, none⟩ : Addr).add j) = some u := by
  intro j u hu
  subst hn
  rw [b_xor]
  exact cell_one_new _ _ _ j u hu
theorem take_xor_len (x : UInt8) (l : List UInt8) (k : Nat) (h : k ≤ l.length) : (xorL x (l.take k)).length = k := by rw [xorL_length, List.length_take]; omega

set_option maxRecDepth 100000 in
set_option maxHeartbeats 2000000 in
theorem refTag_any (A C : Option Addr) (k b : List UInt8) (c d : Nat) (w : World) (hkl : k.length ≤ 100000) (hbl : b.length ≤ 90000) (hkc : k.length ≤ c) (hr : Rd w w.heap.size A k) (hs : Rd w w.heap.size C b) :
    Calls Tryd.prog 32 #[.slice A k.length c, .slice C b.length d] w fun e w' => AnsO w.heap.size w' e (tagF k b) ∧ Below w.heap.size w w' := by
  have RC := Lib.hid (fun w' (h : Below w.heap.size w w') => (hs.below h (Nat.le_refl _)).more h.size)
  have C0 := Lib.hid (refBlockK_any A k c w hkl hkc hr)
  have HKL := Lib.hid (blkK_length k)
  have C1 := Lib.hid (fun A' c' W (h1 : 64 + b.length ≤ c') h2 => show Calls Tryd.prog 39 #[.slice A' (64 + b.length) c'] W fun e w' => AnsO W.heap.size w' e (ofF (xorL 54 (blkK k) ++ b)) ∧ Below W.heap.size W w' from by
    have h := refOf_own A' (xorL 54 (blkK k) ++ b) c' W (by rw [List.length_append, xorL_length, blkK_length]; omega) (by rw [List.length_append, xorL_length, blkK_length]; exact h1) h2
    rw [List.length_append, xorL_length, blkK_length] at h
    exact h)
  have C2 := Lib.hid (fun A' c' W (h1 : 96 ≤ c') h2 => show Calls Tryd.prog 39 #[.slice A' 96 c'] W fun e w' => AnsO W.heap.size w' e (tagF k b) ∧ Below W.heap.size W w' from by
    have e : (xorL 92 (blkK k) ++ ofF (xorL 54 (blkK k) ++ b)).length = 96 := by rw [List.length_append, xorL_length, blkK_length, ofF_len]
    have h := refOf_own A' (xorL 92 (blkK k) ++ ofF (xorL 54 (blkK k) ++ b)) c' W (by rw [e]; omega) (by rw [e]; exact h1) h2
    rw [e] at h
    exact h)
  have HIL := Lib.hid (ofF_len (xorL 54 (blkK k) ++ b))
  have HBN := Lib.hid (Eq.refl b.length)
  generalize tagF k b = T at *
  generalize ofF (xorL 54 (blkK k) ++ b) = I at *
  generalize blkK k = K at *
  generalize k.length = n at *
  obtain ⟨m, hm⟩ : ∃ m, m = b.length := ⟨_, rfl⟩
  have HM := Lib.hid hm
  rw [← hm] at C1 hbl ⊢
  clear hr hs hkl hkc hm HBN
  go_enter Tryd.func32, Tryd.ntmps32
  go_wp2_with fail
  refine C0.out.mono ?_
  rintro e w1 ⟨⟨v1, rfl, ho1⟩, hb1⟩
  obtain ⟨A1, c1, e1, h1, h2, h3⟩ := ho1.form
  rw [HKL.out] at e1
  subst e1
  have HB1 := Lib.hid hb1
  obtain ⟨ba, o, rfl, hba, hcell⟩ := h3 (by rw [HKL.out]; omega)
  have RK := Lib.hid (fun w' (h : Below w1.heap.size w1 w') (j : Nat) (hj : j < 64) => show w'.cell? ⟨ba, o + j, none⟩ = some (.int .u8 ((K.getD j 0).toNat : Int)) from by
    have hjK : j < K.length := by rw [HKL.out]; exact hj
    rw [List.getD_eq_getElem?_getD, List.getElem?_eq_getElem hjK]
    exact (h.cell (p := ⟨ba, o + j, none⟩) hba).trans (hcell j hjK))
  clear h1 h2 h3 hb1 C0 ho1 hcell
  go_wp2_with fail
  go_loopw [6, 7, 8] (fun u v i wr => ∃ j : Nat, j ≤ 64 ∧ i = .int .i64 j ∧ Ow wr w1.heap.size u (xorL 54 (K.take j)) ∧ Ow wr w1.heap.size v (xorL 92 (K.take j)) ∧ Dj u v ∧ Below w1.heap.size w1 wr) (fun _ _ i _ => 64 - (intOf i).toNat)
  case atStart => exact ⟨0, by omega, rfl, Ow.nil, Ow.nil, (fun g h => by cases h), Below.refl _ _⟩
  case round =>
    obtain ⟨j, hj, rfl, hu, hv, hd, hbel⟩ := hrel
    have HU := Lib.hid hu
    have HV := Lib.hid hv
    have HD := Lib.hid hd
    have HB := Lib.hid hbel
    have hsz := hbel.size
    clear hu hv hd hbel
    by_cases hlt : j < 64
    · have hjK : j < K.length := by rw [HKL.out]; exact hlt
      have HX1 := Lib.hid (xor_snoc 54 K j hjK)
      have HX2 := Lib.hid (xor_snoc 92 K j hjK)
      have HL1 := Lib.hid (take_xor_len 54 K j (by omega))
      have HL2 := Lib.hid (take_xor_len 92 K j (by omega))
      have CY := Lib.hid (fun w' h => RK.out w' h j hlt)
      generalize K.getD j 0 = y at *
      have hlti : (j : Int) < 64 := by omega
      have hj0 : (0 : Int) ≤ (j : Int) := Int.natCast_nonneg _
      have c1 := CY.out _ HB.out
      clear hjK
      go_wp2_with (first
        | (at_builtin; (refine wpList_appL rfl _ (.tmp 15) (.tmp 21) rfl w1.heap.size _ _ [y ^^^ 54] rfl (by exact HU.out.alloc _) ⟨_, 0, none⟩ 1 _ rfl rfl (by simp) (j + 1) (by rw [HL1.out]; rfl) (by exact newsx _ y 54 54 rfl) (by rw [HL1.out]; simp only [List.length_cons, List.length_nil]; omega) (by exact le_alloc hsz _) ?_); intro g2 q2 w2 hown2 hgrow2 hat2; have HB2 := Lib.hid (Ow.below (w0 := w1) (by exact HU.out.alloc _) (by exact HB.out.alloc hsz _) hgrow2 (by exact le_alloc hsz _)); have HV2 := Lib.hid (Ow.kept (HV.out.alloc _) hgrow2 HD.out); have HD2 := Lib.hid (Dj.step (n := j + 1) (cap := q2) HD.out (HV.out.alloc _) hat2); rw [HX1.out] at hown2; have HU2 := Lib.hid hown2; have c2 := CY.out _ HB2.out; have hsz2 := HB2.out.size; clear hgrow2 hown2 hat2)
        | (at_builtin; (refine wpList_appL rfl _ (.tmp 23) (.tmp 29) rfl w1.heap.size _ _ [y ^^^ 92] rfl (by exact HV2.out.alloc _) ⟨_, 0, none⟩ 1 _ rfl rfl (by simp) (j + 1) (by rw [HL2.out]; rfl) (by exact newsx _ y 92 92 rfl) (by rw [HL2.out]; simp only [List.length_cons, List.length_nil]; omega) (by exact le_alloc hsz2 _) ?_); intro g3 q3 w3 hown3 hgrow3 hat3; have HB3 := Lib.hid (Ow.below (w0 := w1) (by exact HV2.out.alloc _) (by exact HB2.out.alloc hsz2 _) hgrow3 (by exact le_alloc hsz2 _)); have HU3 := Lib.hid (Ow.kept (HU2.out.alloc _) hgrow3 HD2.out.symm); have HD3 := Lib.hid (Dj.step (n := j + 1) (cap := q3) HD2.out.symm (HU2.out.alloc _) hat3); rw [HX2.out] at hown3; have HV3 := Lib.hid hown3; clear hgrow3 hown3 hat3))
      go_roundw
      case rel => exact ⟨j + 1, by omega, by go_num, HU3.out, HV3.out, HD3.out.symm, HB3.out⟩
      case measure => simp [intOf]; omega
    · have hj64 : j = 64 := by omega
      subst hj64
      have hK64 : K.take 64 = K := List.take_of_length_le (by rw [HKL.out]; omega)
      rw [hK64] at HU HV
      have HLU := Lib.hid (show (xorL 54 K).length = 64 by rw [xorL_length, HKL.out])
      have HLU2 := Lib.hid (show (xorL 54 K ++ b).length = 64 + m by rw [List.length_append, xorL_length, HKL.out, HM.out])
      have HLV := Lib.hid (show (xorL 92 K).length = 64 by rw [xorL_length, HKL.out])
      have HLV2 := Lib.hid (show (xorL 92 K ++ I).length = 96 by rw [List.length_append, xorL_length, HKL.out, HIL.out])
      clear hK64
      obtain ⟨wo, hwo⟩ : ∃ x, x = wr := ⟨_, rfl⟩
      rw [← hwo] at HU HV HB hsz
      rw [← hwo]
      clear hwo
      go_wp2_with (at_builtin; (refine wpList_appS wo rfl (.tmp 32) (.tmp 33) rfl w1.heap.size _ _ b rfl (by exact HU.out) C m d _ rfl HM.out (by exact RC.out _ (HB1.out.trans (HB.out.mono HB1.out.size))) (by rw [HLU.out, ← HM.out]; omega) hsz ?_); intro v2 w2 hown2 hgrow2; have HB2 := Lib.hid (Ow.below (w0 := w1) (by exact HU.out) HB.out hgrow2 hsz); have HV2 := Lib.hid (Ow.kept HV.out hgrow2 HD.out); obtain ⟨Au, cu, eu, hu1, hu2, hu3⟩ := hown2.form; rw [HLU2.out] at eu hu1; subst eu; have HU2 := Lib.hid hu3; have hsz2 := HB2.out.size; clear hown2 hgrow2 hu3)
      refine (C1.out Au cu _ hu1 HU2.out).mono ?_
      rintro e w3 ⟨⟨v3, rfl, ho3⟩, hb3⟩
      have HV3 := Lib.hid (Ow.call HV2.out hb3)
      have HB3 := Lib.hid (bel_call HB2.out hb3 hsz2)
      obtain ⟨A3, c3, e3, h31, h32, h33⟩ := ho3.form
      rw [HIL.out] at e3
      subst e3
      have HR3 := Lib.hid h33
      have hsz3 := HB3.out.size
      clear ho3 hb3 h33 HU2 HV2 HB2 HU HV C1
      go_wp2_with (at_builtin; (refine wpList_appS w3 rfl (.tmp 31) (.tmp 35) rfl w1.heap.size _ _ I rfl (by exact HV3.out) A3 32 c3 _ rfl HIL.out.symm (by exact HR3.out) (by rw [HLV.out, HIL.out]; omega) hsz3 ?_); intro v4 w4 hown4 hgrow4; have HB4 := Lib.hid (Ow.below (w0 := w1) (by exact HV3.out) HB3.out hgrow4 hsz3); obtain ⟨Av, cv, ev, hv1, hv2, hv3⟩ := hown4.form; rw [HLV2.out] at ev hv1; subst ev; have HV4 := Lib.hid hv3; clear hown4 hgrow4 hv3)
      refine (C2.out Av cv _ hv1 HV4.out).mono ?_
      rintro e w5 ⟨⟨v5, rfl, ho5⟩, hb5⟩
      have HO5 := Lib.hid (ho5.base (Nat.le_trans HB1.out.size HB4.out.size))
      have HB5 := Lib.hid (HB1.out.trans ((bel_call HB4.out hb5 HB4.out.size).mono HB1.out.size))
      clear ho5 hb5
      go_wp2_with fail
      go_ret
      exact ⟨⟨v5, rfl, HO5.out⟩, HB5.out⟩

end Go.Proofs.YtcfncbbdlbdbnaaDoor
