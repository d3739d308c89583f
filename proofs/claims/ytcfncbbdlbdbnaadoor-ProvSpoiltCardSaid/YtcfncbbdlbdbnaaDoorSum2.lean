
/- The document's Sum, Of. -/
import Derived.Test.YtcfncbbdlbdbnaaDoorRefPut
namespace Go.Proofs.YtcfncbbdlbdbnaaDoor
open Go.RowKit

theorem step_appS {ops : Array Oper} {o : Oper} {a : Act} {K : Act → World → Prop} {Q : Exit → Act → World → Prop} {E : Prop} (w : World) (hgd : o.guard = none) (s x : Operand)
    (ho : o.op = .call { callee := .builtin .append, args := #[s, x], argTypes := #[25, 25] })
    (base : Nat) (v : Value) (l news : List UInt8) (hs : a.eval s = v) (h : Ow w base v l) (A : Option Addr) (m c B : Nat) (hx : a.eval x = .slice A m c) (hm : m = news.length)
    (hr : Rd w B A news) (hlen : l.length + news.length ≤ 100000000) (hbase : base ≤ w.heap.size)
    (hK : ∀ v' w', Ow w' base v' (l ++ news) → w.grownBy w' v.ownBlock → K (a.put o.dst v') w') :
    if Region.wanted o (yielded ops a.tmps) = true then Oper.wp Tryd.prog o a w K Q else E := by
  have hw : Region.wanted o (yielded ops a.tmps) = true := by simp [Region.wanted, hgd]
  rw [if_pos hw]
  exact wp_appS w s x ho base v l news hs h A m c B hx hm hr hlen hbase hK
theorem Ow.call {w w' : World} {base : Nat} {v : Value} {l : List UInt8} (h : Ow w base v l) (hb : Below w.heap.size w w') : Ow w' base v l := by
  refine ⟨h.1, ?_⟩
  rcases h.2 with h0 | ⟨g, cap, cur, e, h1, hg, h2⟩
  · exact .inl h0
  · exact .inr ⟨g, cap, cur, e, h1, old_below hg hb (Nat.le_refl _), h2⟩
theorem Rd.grown {w w' : World} {B : Nat} {row : Option Nat} {A : Option Addr} {l : List UInt8} (h : Rd w B A l) (hg : w.grownBy w' row) (hB : B ≤ w.heap.size) (hne : ∀ p, A = some p → some p.block ≠ row) : Rd w' w'.heap.size A l := by
  intro h0
  obtain ⟨b, o, e, hb, hc⟩ := h h0
  have hbg := hne _ e
  refine ⟨b, o, e, Nat.lt_of_lt_of_le hb (Nat.le_trans hB hg.size), fun j hj => ?_⟩
  rw [World.cell?_of_block (w := w) (a := ⟨b, o + j, none⟩) (hg.block b (Nat.lt_of_lt_of_le hb hB) hbg)]
  exact hc j hj
theorem word8_vals2 (x : UInt32) : (#[.int .u8 (IntKind.u8.wrap (IntKind.u32.wrap ((x.toNat : Int) / 16777216))), .int .u8 (IntKind.u8.wrap ((IntKind.u32.wrap ((x.toNat : Int) / 65536)).tmod 256)), .int .u8 (IntKind.u8.wrap ((IntKind.u32.wrap ((x.toNat : Int) / 256)).tmod 256)), .int .u8 (IntKind.u8.wrap ((x.toNat : Int).tmod 256))] : Array Value) = (cs (word8 x)).toArray := by
  rw [← word8_vals x]
  have h := x.toNat_lt
  have w32 : ∀ e : Int, IntKind.u32.wrap e = e % 4294967296 := fun e => by simp [IntKind.wrap, IntKind.bits, IntKind.signed]
  have w8 : ∀ e : Int, IntKind.u8.wrap e = e % 256 := fun e => by simp [IntKind.wrap, IntKind.bits, IntKind.signed]
  have f1 : (x.toNat : Int) / 16777216 % 4294967296 % 256 = (x.toNat : Int) / 16777216 % 256 := by omega
  have f2 : (x.toNat : Int) / 65536 % 4294967296 % 256 % 256 = (x.toNat : Int) / 65536 % 256 := by omega
  have f3 : (x.toNat : Int) / 256 % 4294967296 % 256 % 256 = (x.toNat : Int) / 256 % 256 := by omega
  have f4 : (x.toNat : Int) % 256 % 256 = (x.toNat : Int) % 256 := by omega
  rw [w8, w8, w8, w8, w32, w32, w32, Int.tmod_eq_emod_of_nonneg (by omega), Int.tmod_eq_emod_of_nonneg (by omega), Int.tmod_eq_emod_of_nonneg (by omega), f1, f2, f3, f4]
theorem own0 (w w' : World) (h : w' = w) : (Value.slice (some ⟨w.heap.size, 0, none⟩) 0 0).ownBlock = some w.heap.size := rfl

/-- a call's answer: a slice of its own -/
def AnsO (B : Nat) (W' : World) (e : Ending) (L : List UInt8) : Prop := ∃ v, e = .returned v ∧ Ow W' B v L
theorem Ow.base {w : World} {b b' : Nat} {v : Value} {l : List UInt8} (h : Ow w b v l) (hb : b' ≤ b) : Ow w b' v l := by
  refine ⟨h.1, ?_⟩
  rcases h.2 with h0 | ⟨g, cap, cur, e, h1, h2⟩
  · exact .inl h0
  · exact .inr ⟨g, cap, cur, e, Nat.le_trans hb h1, h2⟩
theorem AnsO.b {B : Nat} {W' : World} {e : Ending} {L : List UInt8} {n : Nat} (h : AnsO B W' e L) (hn : L.length = n) : AnsB W' e L n := by
  obtain ⟨v, rfl, ho⟩ := h
  obtain ⟨A, c, rfl, h1, h2, h3⟩ := ho.form
  subst hn
  exact ⟨A, c, rfl, h1, h2, h3⟩
theorem all_bytes (X : St) : (X.list.take 8).flatMap word8 = X.bytes := rfl

set_option maxRecDepth 100000 in
set_option maxHeartbeats 4000000 in
theorem refSum_own (s : St) (N : Nat) (A : Option Addr) (l : List UInt8) (c : Nat) (w : World) (hl : l.length ≤ 1000) (hlc : l.length ≤ c) (hr : Rd w w.heap.size A l) (hN : N ≤ 1125899906842624) (hmod : l.length % 64 = N % 64) :
    Calls Tryd.prog 44 #[hv s N (.slice A l.length c)] w fun e w' => AnsO w.heap.size w' e (sumF s l N) ∧ Below w.heap.size w w' := by
  have HR := Lib.hid hr
  obtain ⟨n, hn⟩ : ∃ n, n = l.length := ⟨_, rfl⟩
  have HNN := Lib.hid hn
  obtain ⟨P, hP⟩ : ∃ P, P = padL l.length N := ⟨_, rfl⟩
  obtain ⟨k, hk⟩ : ∃ k, k = P.length := ⟨_, rfl⟩
  have hk2 : k ≤ 100 := by rw [hk, hP, padL_length]; unfold padZ; omega
  have hmod2 : (n + k) % 64 = 0 := by rw [hk, hP, padL_length, hn]; unfold padZ; omega
  have HPN := Lib.hid (show padL N N = P by rw [hP]; exact padL_mod N hmod.symm)
  have HKP := Lib.hid hk
  have HE := Lib.hid (fun W => pad_any N W hN)
  rw [HPN.out, ← hk] at HE
  obtain ⟨L, hL⟩ : ∃ L, L = l ++ P := ⟨_, rfl⟩
  have HL := Lib.hid hL
  have hM : L.length = n + k := by rw [hL, List.length_append, hn, hk]
  have HM := Lib.hid hM
  obtain ⟨X, hX⟩ : ∃ X, X = blks s L := ⟨_, rfl⟩
  have HSum := Lib.hid (show sumF s l N = X.bytes by unfold sumF; rw [hX, hL, hP])
  have HX := Lib.hid hX
  rw [HSum.out]
  rw [← hn] at hl hlc ⊢
  clear hn hr hk hX hP hmod HSum hL hM HPN
  go_enter Tryd.func44, Tryd.ntmps44
  go_upto_region 1 with (fail)
  have q1 := heap_alloc_new w (.cells (hcells s N (.slice A n c)) 78)
  have q4 : Below w.heap.size w (w.alloc (.cells (hcells s N (.slice A n c)) 78)) := (Below.refl _ _).alloc (Nat.le_refl _) _
  have q3 : (w.alloc (.cells (hcells s N (.slice A n c)) 78)).heap.size = w.heap.size + 1 := World.size_alloc _ _
  change Code.wp _ _ _ _ (w.alloc (.cells (hcells s N (.slice A n c)) 78))
  generalize w.alloc (.cells (hcells s N (.slice A n c)) 78) = w0 at *
  obtain ⟨-, -, -, -, -, -, -, -, e8, e9⟩ := cells10 (w := w0.drew) q1
  have hg0 : w.heap.size < w0.heap.size := by omega
  have Q1 := Lib.hid q1
  have Q4 := Lib.hid q4
  have HR0 := Lib.hid ((HR.out.below q4 (Nat.le_refl _)).more q4.size)
  have BR := Lib.hid (Below.refl w0.heap.size w0)
  clear q1 q3 q4 HR
  go_cut [3] (fun v3 wr => ∃ (A3 : Option Addr) (c3 : Nat), v3 = .slice A3 (n + k) c3 ∧ n + k ≤ c3 ∧ c3 ≤ 9223372036854775807 ∧ Rd wr wr.heap.size A3 L ∧ Below w0.heap.size w0 wr ∧ ∀ p, A3 = some p → p.block < wr.heap.size)
  case first =>
    have MK : ∀ (v' : Value) (w' : World), Ow w' w0.heap.size v' ([] ++ l ++ P) → ∃ (A3 : Option Addr) (c3 : Nat), v' = .slice A3 (n + k) c3 ∧ n + k ≤ c3 ∧ c3 ≤ 9223372036854775807 ∧ Rd w' w'.heap.size A3 L ∧ ∀ p, A3 = some p → p.block < w'.heap.size := fun v' w' h => by
      rw [List.nil_append, ← HL.out] at h
      obtain ⟨A3, c3, e, h1, h2, h3, h4⟩ := h.fresh
      rw [HM.out] at e h1
      exact ⟨A3, c3, e, h1, h2, h3, fun p hp => (h4 p hp).2.1⟩
    have MKH := Lib.hid MK
    clear MK
    go_region_held3 (fun w' => w'.cell? ⟨w.heap.size, 8, none⟩ = some (.int .i64 (N : Int)) ∧ w'.cell? ⟨w.heap.size, 9, none⟩ = some (.slice A n c))
      (first
       | ((try dsimp only); go_split_ands; refine ⟨?_, ?_⟩ <;> with_reducible assumption)
       | ((try dsimp only); go_split_ands; refine ⟨?_, ?_⟩ <;> (with_reducible refine far1 ?_ ?_) <;> (first | (with_reducible assumption) | omega))
       | ((try dsimp only); go_split_ands; refine ⟨?_, ?_⟩ <;> (with_reducible refine far1d ?_ ?_) <;> (first | (with_reducible assumption) | omega)))
      (first
      | (go_at_call 51; refine (HE.out _).mono ?_; rintro e wE ⟨⟨AE, cE, rfl, hcE1, hcE2, hrE, hfE⟩, hbE⟩; have HRE := Lib.hid hrE; have BE := Lib.hid (bel_call (B := w0.heap.size) (w := w0) BA.out hbE BA.out.size); have QE := Lib.hid (old_below (g := w.heap.size) Q1.out BE.out (Nat.le_refl _)); obtain ⟨-, -, -, -, -, -, -, -, t8, t9⟩ := cells10 QE.out; have OE := Lib.hid (Ow.call OA.out hbE); clear hbE hrE hfE)
      | (rw [if_pos (by rfl)]; (refine wp_appS _ (.tmp 9) (.tmp 11) (by rfl) w0.heap.size _ [] l (by rfl) (by exact Ow.made0 w0 (Nat.le_refl _)) A n c w0.heap.size (by rfl) HNN.out (by exact HR0.out.below (BR.out.alloc (Nat.le_refl _) _).drew (Nat.le_refl _)) (by have := HNN.out; simp only [List.length_nil]; omega) (by exact (BR.out.alloc (Nat.le_refl _) _).drew.size) ?_); intro vA wA hownA hgrowA; have OA := Lib.hid hownA; have BA := Lib.hid (Ow.below (w0 := w0) (by exact Ow.made0 w0 (Nat.le_refl _)) (by exact (BR.out.alloc (Nat.le_refl _) _).drew) hgrowA (by exact (BR.out.alloc (Nat.le_refl _) _).drew.size)); have QA := Lib.hid (old_below (g := w.heap.size) Q1.out BA.out (Nat.le_refl _)); obtain ⟨-, -, -, -, -, -, -, -, u8, u9⟩ := cells10 QA.out; clear hownA hgrowA)
      | (rw [if_pos (by rfl)]; (refine wp_appS _ (.tmp 12) (.tmp 15) (by rfl) w0.heap.size _ ([] ++ l) P (by rfl) (by exact OE.out) AE k cE wE.heap.size (by rfl) HKP.out (by exact HRE.out) (by have := HNN.out; have := HKP.out; simp only [List.nil_append]; omega) (by exact BE.out.size) ?_); intro vB wB hownB hgrowB; have OB := Lib.hid hownB; have BB := Lib.hid (Ow.below (w0 := w0) (by exact OE.out) (by exact BE.out) hgrowB (by exact BE.out.size)); have QB := Lib.hid (old_below (g := w.heap.size) Q1.out BB.out (Nat.le_refl _)); obtain ⟨-, -, -, -, -, -, -, -, x8, x9⟩ := cells10 QB.out; clear hownB hgrowB))
    go_wp2_with fail
    go_meet
    case rel =>
      obtain ⟨A3, c3, r1, r2, r3, r4, r5⟩ := MKH.out _ _ OB.out
      exact ⟨A3, c3, r1, r2, r3, r4, BB.out, r5⟩
  case rest =>
    obtain ⟨A3, c3, hv3, hc31, hc32, hrd, hB, hA3⟩ := hcut
    subst hv3
    have HRD := Lib.hid hrd
    have HBW := Lib.hid (Q4.out.trans (hB.mono (Nat.le_of_lt hg0)))
    have S1 := Lib.hid (old_below (g := w.heap.size) Q1.out hB (Nat.le_refl _))
    have hgc : w.heap.size < wc.heap.size := Nat.lt_of_lt_of_le hg0 hB.size
    clear hrd hB Q1 Q4 HR0 BR e8 e9 HE
    obtain ⟨w3, hw3⟩ : ∃ w3, w3 = wc := ⟨_, rfl⟩
    rw [← hw3] at HRD HBW S1 hgc hA3
    rw [← hw3]
    clear hw3
    have t4 := heap_alloc_new w3 (.cells s.cells 76)
    have b4 := HBW.out.alloc (Nat.le_of_lt hgc) (.cells s.cells 76)
    have d4 := Rd.alloc HRD.out (.cells s.cells 76)
    have z4 : (w3.alloc (.cells s.cells 76)).heap.size = w3.heap.size + 1 := World.size_alloc _ _
    go_wp2_with (with_reducible refine at_list ?_; refine loadP w3 (.tmp 17) w.heap.size s N (.slice A n c) S1.out rfl rfl rfl ?_)
    change Calls _ _ _ (w3.alloc (.cells s.cells 76)) _
    generalize w3.alloc (.cells s.cells 76) = w4 at *
    obtain ⟨g4, hg4⟩ : ∃ g, g = w3.heap.size := ⟨_, rfl⟩
    rw [← hg4] at t4 z4 hgc hA3 ⊢
    have HA3 := Lib.hid (show ∀ p, A3 = some p → p.block ≠ g4 from fun p hp => Nat.ne_of_lt (hA3 p hp))
    clear hA3
    clear hg4 HRD HBW S1
    refine (keys_any _).mono ?_
    rintro e w5 ⟨rfl, hkr, hb5⟩
    have T5 := Lib.hid (old_below (g := g4) t4 hb5 (Nat.le_refl _))
    have B5 := Lib.hid (bel_call b4 hb5 (by omega))
    have R5 := Lib.hid (Rd.more (Rd.below d4 hb5 (Nat.le_refl _)) hb5.size)
    have K5 := Lib.hid hkr
    obtain ⟨g5, hg5⟩ : ∃ g, g = w4.heap.size := ⟨_, rfl⟩
    rw [← hg5] at K5 z4 ⊢
    clear hkr hb5 t4 b4 d4 hg5
    subst z4
    dsimp only
    obtain ⟨M, hMM⟩ : ∃ M, M = n + k := ⟨_, rfl⟩
    have HMM := Lib.hid (show M = L.length by rw [HM.out, hMM])
    have hM1 : M ≤ 2000 := by omega
    have hM64 : M % 64 = 0 := by rw [hMM]; exact hmod2
    rw [← hMM]
    rw [← hMM] at hc31
    clear hMM hmod2
    go_wp2_with fail
    go_loopw [6] (fun v wr => ∃ (j : Nat), v = .int .i64 ((64 * j : Nat) : Int) ∧ 64 * j ≤ M ∧ wr.heap[g4]? = some (.cells (blkN s L j).cells 76 (0, 0)) ∧ Below w.heap.size w wr ∧ Rd wr wr.heap.size A3 L ∧ KR wr (g4 + 1)) (fun v _ => M - (intOf v).toNat)
    case atStart => exact ⟨0, rfl, by omega, T5.out, B5.out, R5.out, K5.out⟩
    case round =>
      clear T5 B5 R5 K5
      obtain ⟨j, rfl, hj, hS, hB, hrd, hkr⟩ := hrel
      have HS := Lib.hid hS
      have HB := Lib.hid hB
      have HRD := Lib.hid hrd
      have HKR := Lib.hid hkr
      have hsz : g4 < wr.heap.size := (Array.getElem?_eq_some_iff.1 hS).1
      clear hS hB hrd hkr
      by_cases hlt : 64 * j + 64 ≤ M
      · have h64 : ((64 * j : Nat) : Int) < (M : Int) := by omega
        obtain ⟨S0, hS0⟩ : ∃ x, x = blkN s L j := ⟨_, rfl⟩
        have HN1 := Lib.hid (show blkN s L (j + 1) = compress S0 ((L.drop (64 * j)).take 64) by rw [hS0]; rfl)
        rw [← hS0] at HS
        have HST := Lib.hid (fun W h1 h2 => step_any S0 A3 L M c3 (64 * j) (g4 + 1) W HMM.out (by rw [← HMM.out]; omega) (by rw [← HMM.out]; exact hlt) h1 h2)
        obtain ⟨q, hq⟩ : ∃ q, q = 64 * j := ⟨_, rfl⟩
        have HQ := Lib.hid hq
        rw [← hq] at HN1 HST h64 hlt hj ⊢
        generalize compress S0 ((L.drop q).take 64) = Y at *
        clear hS0 hq
        go_wp2_with (with_reducible refine at_list ?_; refine load8 wr (.tmp 4) g4 S0 HS.out rfl rfl rfl ?_)
        refine (HST.out _ HRD.out HKR.out).mono ?_
        rintro e w2 ⟨rfl, hb2⟩
        have HS2 := Lib.hid (old_below (g := g4) (by exact HS.out) hb2 (Nat.le_refl _))
        have HB2 := Lib.hid (bel_call (B := w.heap.size) (w := w) HB.out hb2 (by omega))
        have HRD2 := Lib.hid (Rd.below HRD.out hb2 (Nat.le_refl _))
        have HKR2 := Lib.hid (KR.below HKR.out hb2 (Nat.le_refl _))
        have hz2 := hb2.size
        clear hb2 HS HB HRD HKR HST
        go_wp2_with (with_reducible refine at_list ?_; refine store8 w2 (.tmp 4) (.tmp 30) g4 Y _ HS2.out rfl rfl rfl rfl rfl ?_)
        go_roundw
        case rel =>
          have g1 := setRow_heap w2 g4 _ Y.cells _ _ HS2.out
          have g3 := Below.setRow HB2.out (g := g4) (Nat.le_of_lt hgc) Y.cells
          have g5 := Rd.setRow (HRD2.out.more hz2) (g := g4) Y.cells HA3.out
          have g6 : KR (w2.setRow g4 Y.cells) (g4 + 1) := ⟨by rw [size_setRow]; exact HKR2.out.1, fun j hj => by
            rw [World.cell?_of_block (w := w2) (a := ⟨g4 + 1, j, none⟩) (setRow_other w2 g4 (g4 + 1) Y.cells (show g4 + 1 ≠ g4 by omega))]
            exact HKR2.out.2 j hj⟩
          have a1 : Value.int .i64 ((q : Int) + 64) = Value.int .i64 ((64 * (j + 1) : Nat) : Int) := by rw [HQ.out]; congr 1
          have a2 : 64 * (j + 1) ≤ M := by have := HQ.out; omega
          exact ⟨j + 1, a1, a2, by rw [HN1.out]; exact g1, g3, g5, g6⟩
        case measure => simp only [intOf]; omega
      · have hj2 : 64 * j = M := by omega
        have hjd : j = M / 64 := by omega
        have h64 : ¬ ((64 * j : Nat) : Int) < (M : Int) := by omega
        have HE2 := Lib.hid (show blkN s L j = X by rw [HX.out]; unfold blks; rw [← HMM.out, hjd])
        rw [HE2.out] at HS
        have row := row_of_st HS.out
        have hrw : ∀ kk, kk < 8 → wr.cell? ⟨g4, kk, none⟩ = some (wv (X.at kk)) := fun kk hk => by
          obtain ⟨cc, h1, h2, h3⟩ := row
          exact (cell_of_row _ _ _ _ _ _ h1).trans (h3 kk hk)
        have HRW := Lib.hid hrw
        clear row hrw hjd hlt hj HRD HKR HS HE2
        obtain ⟨wo, hwo⟩ : ∃ x, x = wr := ⟨_, rfl⟩
        rw [← hwo] at HB HRW hsz ⊢
        clear hwo
        go_wp2_with fail
        go_loopw [7, 8] (fun v i wx => ∃ kk : Nat, kk ≤ 8 ∧ i = .int .i64 kk ∧ Ow wx wo.heap.size v ((X.list.take kk).flatMap word8) ∧ Below wo.heap.size wo wx) (fun _ i _ => 8 - (intOf i).toNat)
        case atStart => exact ⟨0, by omega, rfl, Ow.nil, Below.refl _ _⟩
        case round =>
          obtain ⟨kk, hkk, rfl, hown, hbel⟩ := hrel
          have HO := Lib.hid hown
          have HB2 := Lib.hid hbel
          clear hown hbel
          by_cases hlt8 : kk < 8
          · have hN := bytes_snoc X kk hlt8
            have HL8 := Lib.hid (show ((X.list.take kk).flatMap word8).length ≤ 32 by rw [take_bytes_length X kk hkk]; omega)
            have hcell : wr.cell? ⟨g4, kk, none⟩ = some (wv (X.at kk)) := (HB2.out.cell (p := ⟨g4, kk, none⟩) hsz).trans (HRW.out kk hlt8)
            generalize X.at kk = x at *
            have HN8 := Lib.hid hN
            have hsx := HB2.out.size
            have hk8 : (kk : Int) < 8 := by omega
            have hkd : wr.drew.cell? ⟨g4, kk, none⟩ = some (wv x) := hcell
            clear hN
            go_wp2_with fail
            go_region_held3 (fun w' => w'.cell? ⟨g4, kk, none⟩ = some (wv x))
              (first
               | ((try dsimp only); with_reducible assumption)
               | ((try dsimp only); (with_reducible refine far1 ?_ ?_) <;> (first | (with_reducible assumption) | omega))
               | ((try dsimp only); (with_reducible refine far1d ?_ ?_) <;> (first | (with_reducible assumption) | omega)))
              (first
               | (rw [if_pos (by rfl)]; (refine wp_app _ (.tmp 35) (.tmp 58) (by rfl) wo.heap.size _ _ (word8 x) (by rfl) (by exact HO.out.alloc _) ⟨_, 0, none⟩ 4 _ (by rfl) (by rfl) (by exact newsL _ _ _ (word8_vals2 x)) (by rw [word8_length]; have := HL8.out; omega) (by exact le_alloc hsx _) ?_); intro v2 w2 hown2 hgrow2; have HB3 := Lib.hid (Ow.below (w0 := wo) (by exact HO.out.alloc _) (by exact (HB2.out.alloc hsx _).drew) hgrow2 (by exact le_alloc hsx _)); rw [← HN8.out] at hown2; have HW2 := Lib.hid hown2; have hc2 : w2.cell? ⟨g4, kk, none⟩ = some (wv x) := (HB3.out.cell (p := ⟨g4, kk, none⟩) hsz).trans ((HB2.out.cell (p := ⟨g4, kk, none⟩) hsz).symm.trans hcell); clear hgrow2 hown2))
            go_wp2_with fail
            go_roundw
            case rel => exact ⟨kk + 1, by omega, by go_num, HW2.out, HB3.out⟩
            case measure => simp [intOf]; omega
          · have hk8 : kk = 8 := by omega
            rw [hk8] at HO
            rw [all_bytes] at HO
            clear hk8
            go_wp2
            go_ret
            exact ⟨⟨_, rfl, HO.out.base HB.out.size⟩, HB.out.trans (HB2.out.mono HB.out.size)⟩
theorem refSum_any (s : St) (N : Nat) (A : Option Addr) (l : List UInt8) (c : Nat) (w : World) (hl : l.length ≤ 1000) (hlc : l.length ≤ c) (hr : Rd w w.heap.size A l) (hN : N ≤ 1125899906842624) (hmod : l.length % 64 = N % 64) :
    Calls Tryd.prog 44 #[hv s N (.slice A l.length c)] w fun e w' => AnsB w' e (sumF s l N) 32 ∧ Below w.heap.size w w' :=
  (refSum_own s N A l c w hl hlc hr hN hmod).mono fun _ _ ⟨h1, h2⟩ => ⟨h1.b (take_bytes_length _ 8 (by omega)), h2⟩
end Go.Proofs.YtcfncbbdlbdbnaaDoor
