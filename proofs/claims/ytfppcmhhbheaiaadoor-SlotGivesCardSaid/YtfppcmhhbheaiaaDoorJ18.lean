
/- The document's Sum, Of. -/
import Derived.Test.YtfppcmhhbheaiaaDoorJ17
import Derived.Test.YtfppcmhhbheaiaaDoorJ05
import Derived.Test.YtfppcmhhbheaiaaDoorJ06
import Derived.Test.YtfppcmhhbheaiaaDoorJ11
import Derived.Test.YtfppcmhhbheaiaaDoorJ12
import Derived.Lib.SlBytesConst
namespace Go.Proofs.YtfppcmhhbheaiaaDoor
open Go.RowKit

set_option maxRecDepth 100000 in
theorem step_appS {ops : Array Oper} {o : Oper} {a : Act} {K : Act → World → Prop} {Q : Exit → Act → World → Prop} {E : Prop} (w : World) (hgd : o.guard = none) (s x : Operand)
    (ho : o.op = .call { callee := .builtin .append, args := #[s, x], argTypes := #[22, 22] })
    (base : Nat) (v : Value) (l news : List UInt8) (hs : a.eval s = v) (h : Ow w base v l) (A : Option Addr) (m c B : Nat) (hx : a.eval x = .slice A m c) (hm : m = news.length)
    (hr : Rd w B A news) (hlen : l.length + news.length ≤ 100000000) (hbase : base ≤ w.heap.size)
    (hK : ∀ v' w', Ow w' base v' (l ++ news) → w.grownBy w' v.ownBlock → K (a.put o.dst v') w') :
    if Region.wanted o (yielded ops a.tmps) = true then Oper.wp Tryd.prog o a w K Q else E := by
  have hw : Region.wanted o (yielded ops a.tmps) = true := by simp [Region.wanted, hgd]
  rw [if_pos hw]
  exact wp_appS w s x ho base v l news hs h A m c B hx hm hr hlen hbase hK
set_option maxRecDepth 100000 in
theorem Ow.call {w w' : World} {base : Nat} {v : Value} {l : List UInt8} (h : Ow w base v l) (hb : Below w.heap.size w w') : Ow w' base v l := by
  refine ⟨h.1, ?_⟩
  rcases h.2 with h0 | ⟨g, cap, cur, e, h1, hg, h2⟩
  · exact .inl h0
  · exact .inr ⟨g, cap, cur, e, h1, old_below hg hb (Nat.le_refl _), h2⟩
set_option maxRecDepth 100000 in
theorem Rd.grown {w w' : World} {B : Nat} {row : Option Nat} {A : Option Addr} {l : List UInt8} (h : Rd w B A l) (hg : w.grownBy w' row) (hB : B ≤ w.heap.size) (hne : ∀ p, A = some p → some p.block ≠ row) : Rd w' w'.heap.size A l := by
  intro h0
  obtain ⟨b, o, e, hb, hc⟩ := h h0
  have hbg := hne _ e
  refine ⟨b, o, e, Nat.lt_of_lt_of_le hb (Nat.le_trans hB hg.size), fun j hj => ?_⟩
  rw [World.cell?_of_block (w := w) (a := ⟨b, o + j, none⟩) (hg.block b (Nat.lt_of_lt_of_le hb hB) hbg)]
  exact hc j hj
set_option maxRecDepth 100000 in
theorem word8_vals2 (x : UInt32) : (#[.int .u8 (IntKind.u8.wrap (IntKind.u32.wrap ((x.toNat : Int) / 16777216))), .int .u8 (IntKind.u8.wrap ((IntKind.u32.wrap ((x.toNat : Int) / 65536)).tmod 256)), .int .u8 (IntKind.u8.wrap ((IntKind.u32.wrap ((x.toNat : Int) / 256)).tmod 256)), .int .u8 (IntKind.u8.wrap ((x.toNat : Int).tmod 256))] : Array Value) = (cs (word8 x)).toArray := by
  rw [← word8_vals x]
  have h := x.toNat_lt
  have w32 : ∀ e : Int, IntKind.u32.wrap e = e % 4294967296 := fun e => by simp [IntKind.wrap, IntKind.bits, IntKind.signed]
  have w8 : ∀ e : Int, IntKind.u8.wrap e = e % 256 := fun e => by simp [IntKind.wrap, IntKind.bits, IntKind.signed]
  have f1 : (x.toNat : Int) / 16777216 % 4294967296 % 256 = (x.toNat : Int) / 16777216 % 256 := by omega
  have f2 : (x.toNat : Int) / 65536 % 4294967296 % 256 % 256 = (x.toNat : Int) / 65536 % 256 := by omega
  have f3 : (x.toNat : Int) / 256 % 4294967296 % 256 % 256 = (x.toNat : Int) / 256 % 256 := by omega
  have f4 : (x.toNat : Int) % 256 % 256 = (x.toNat : Int) % 256 := by omega
  rw [w8, w8, w8, w8, w32, w32, w32, Int.tmod_eq_emod_of_nonneg (by omega), Int.tmod_eq_emod_of_nonneg (by omega), Int.tmod_eq_emod_of_nonneg (by omega), f1, f2, f3, f4]
set_option maxRecDepth 100000 in
theorem own0 (w w' : World) (_h : w' = w) : (Value.slice (some ⟨w.heap.size, 0, none⟩) 0 0).ownBlock = some w.heap.size := rfl

/-- a call's answer: a slice of its own -/
def AnsO (B : Nat) (W' : World) (e : Ending) (L : List UInt8) : Prop := ∃ v, e = .returned v ∧ Ow W' B v L
set_option maxRecDepth 100000 in
theorem Ow.base {w : World} {b b' : Nat} {v : Value} {l : List UInt8} (h : Ow w b v l) (hb : b' ≤ b) : Ow w b' v l := by
  refine ⟨h.1, ?_⟩
  rcases h.2 with h0 | ⟨g, cap, cur, e, h1, h2⟩
  · exact .inl h0
  · exact .inr ⟨g, cap, cur, e, Nat.le_trans hb h1, h2⟩
set_option maxRecDepth 100000 in
theorem AnsO.b {B : Nat} {W' : World} {e : Ending} {L : List UInt8} {n : Nat} (h : AnsO B W' e L) (hn : L.length = n) : AnsB W' e L n := by
  obtain ⟨v, rfl, ho⟩ := h
  obtain ⟨A, c, rfl, h1, h2, h3⟩ := ho.form
  subst hn
  exact ⟨A, c, rfl, h1, h2, h3⟩
set_option maxRecDepth 100000 in
theorem all_bytes (X : St) : (X.list.take 8).flatMap word8 = X.bytes := rfl

set_option maxRecDepth 100000 in
set_option maxHeartbeats 4000000 in
theorem refSum_own (s : St) (N : Nat) (A : Option Addr) (l : List UInt8) (c : Nat) (w : World) (hl : l.length ≤ 1000) (_hlc : l.length ≤ c) (hr : Rd w w.heap.size A l) (hN : N ≤ 1125899906842624) (hmod : l.length % 64 = N % 64) :
    Calls Tryd.prog 34 #[hv s N (.slice A l.length c)] w fun e w' => AnsO w.heap.size w' e (sumF s l N) ∧ Below w.heap.size w w' := by
  have HR := Lib.hid hr
  obtain ⟨n, hn⟩ : ∃ n, n = l.length := ⟨_, rfl⟩
  have HNN := Lib.hid hn
  obtain ⟨P, hP⟩ : ∃ P, P = padL l.length N := ⟨_, rfl⟩
  obtain ⟨k, hk⟩ : ∃ k, k = P.length := ⟨_, rfl⟩
  have hk2 : k ≤ 100 := by rw [hk, hP, padL_length]; unfold padZ; omega
  have hmod2 : (n + k) % 64 = 0 := by rw [hk, hP, padL_length, hn]; unfold padZ; omega
  have HPN := Lib.hid (show padL N N = P by rw [hP]; exact padL_mod N hmod.symm)
  have HKP := Lib.hid hk
  have HE := Lib.hid (fun W => pad_any N W hN)
  rw [HPN.out, ← hk] at HE
  obtain ⟨L, hL⟩ : ∃ L, L = l ++ P := ⟨_, rfl⟩
  have HL := Lib.hid hL
  have hM : L.length = n + k := by rw [hL, List.length_append, hn, hk]
  have HM := Lib.hid hM
  obtain ⟨X, hX⟩ : ∃ X, X = blks s L := ⟨_, rfl⟩
  have HSum := Lib.hid (show sumF s l N = X.bytes by unfold sumF; rw [hX, hL, hP])
  have HX := Lib.hid hX
  rw [HSum.out]
  rw [← hn] at hl _hlc ⊢
  clear hn hr hk hX hP hmod HSum hL hM HPN
  go_enter Tryd.func34, Tryd.ntmps34
  go_upto_region 1 with (fail)
  have q1 := heap_alloc_new w (.cells (hcells s N (.slice A n c)) 65)
  have q4 : Below w.heap.size w (w.alloc (.cells (hcells s N (.slice A n c)) 65)) := (Below.refl _ _).alloc (Nat.le_refl _) _
  have q3 : (w.alloc (.cells (hcells s N (.slice A n c)) 65)).heap.size = w.heap.size + 1 := World.size_alloc _ _
  change Code.wp _ _ _ _ (w.alloc (.cells (hcells s N (.slice A n c)) 65))
  generalize w.alloc (.cells (hcells s N (.slice A n c)) 65) = w0 at *
  obtain ⟨-, -, -, -, -, -, -, -, e8, e9⟩ := cells10 (w := w0.drew) q1
  have hg0 : w.heap.size < w0.heap.size := by omega
  have Q1 := Lib.hid q1
  have Q4 := Lib.hid q4
  have HR0 := Lib.hid ((HR.out.below q4 (Nat.le_refl _)).more q4.size)
  have BR := Lib.hid (Below.refl w0.heap.size w0)
  clear q1 q3 q4 HR
  go_cut [3] (fun v3 wr => ∃ (A3 : Option Addr) (c3 : Nat), v3 = .slice A3 (n + k) c3 ∧ n + k ≤ c3 ∧ c3 ≤ 9223372036854775807 ∧ Rd wr wr.heap.size A3 L ∧ Below w0.heap.size w0 wr ∧ ∀ p, A3 = some p → p.block < wr.heap.size)
  case first =>
    have MK : ∀ (v' : Value) (w' : World), Ow w' w0.heap.size v' ([] ++ l ++ P) → ∃ (A3 : Option Addr) (c3 : Nat), v' = .slice A3 (n + k) c3 ∧ n + k ≤ c3 ∧ c3 ≤ 9223372036854775807 ∧ Rd w' w'.heap.size A3 L ∧ ∀ p, A3 = some p → p.block < w'.heap.size := fun v' w' h => by
      rw [List.nil_append, ← HL.out] at h
      obtain ⟨A3, c3, e, h1, h2, h3, h4⟩ := h.fresh
      rw [HM.out] at e h1
      exact ⟨A3, c3, e, h1, h2, h3, fun p hp => (h4 p hp).2.1⟩
    have MKH := Lib.hid MK
    clear MK
    go_region_held3 (fun w' => w'.cell? ⟨w.heap.size, 8, none⟩ = some (.int .i64 (N : Int)) ∧ w'.cell? ⟨w.heap.size, 9, none⟩ = some (.slice A n c))
      (first
       | ((try dsimp only); go_split_ands; refine ⟨?_, ?_⟩ <;> with_reducible assumption)
       | ((try dsimp only); go_split_ands; refine ⟨?_, ?_⟩ <;> (with_reducible refine far1 ?_ ?_) <;> (first | (with_reducible assumption) | omega))
       | ((try dsimp only); go_split_ands; refine ⟨?_, ?_⟩ <;> (with_reducible refine far1d ?_ ?_) <;> (first | (with_reducible assumption) | omega)))
      (first
      | (go_at_call 39; refine (HE.out _).mono ?_; rintro e wE ⟨⟨AE, cE, rfl, hcE1, hcE2, hrE, hfE⟩, hbE⟩; have HRE := Lib.hid hrE; have BE := Lib.hid (bel_call (B := w0.heap.size) (w := w0) BA.out hbE BA.out.size); have QE := Lib.hid (old_below (g := w.heap.size) Q1.out BE.out (Nat.le_refl _)); obtain ⟨-, -, -, -, -, -, -, -, t8, t9⟩ := cells10 QE.out; have OE := Lib.hid (Ow.call OA.out hbE); clear hbE hrE hfE)
      | (rw [if_pos (by rfl)]; (refine wp_appS _ (.tmp 9) (.tmp 11) (by rfl) w0.heap.size _ [] l (by rfl) (by exact Ow.made0 w0 (Nat.le_refl _)) A n c w0.heap.size (by rfl) HNN.out (by exact HR0.out.below (BR.out.alloc (Nat.le_refl _) _).drew (Nat.le_refl _)) (by have := HNN.out; simp only [List.length_nil]; omega) (by exact (BR.out.alloc (Nat.le_refl _) _).drew.size) ?_); intro vA wA hownA hgrowA; have OA := Lib.hid hownA; have BA := Lib.hid (Ow.below (w0 := w0) (by exact Ow.made0 w0 (Nat.le_refl _)) (by exact (BR.out.alloc (Nat.le_refl _) _).drew) hgrowA (by exact (BR.out.alloc (Nat.le_refl _) _).drew.size)); have QA := Lib.hid (old_below (g := w.heap.size) Q1.out BA.out (Nat.le_refl _)); obtain ⟨-, -, -, -, -, -, -, -, u8, u9⟩ := cells10 QA.out; clear hownA hgrowA)
      | (rw [if_pos (by rfl)]; (refine wp_appS _ (.tmp 12) (.tmp 15) (by rfl) w0.heap.size _ ([] ++ l) P (by rfl) (by exact OE.out) AE k cE wE.heap.size (by rfl) HKP.out (by exact HRE.out) (by have := HNN.out; have := HKP.out; simp only [List.nil_append]; omega) (by exact BE.out.size) ?_); intro vB wB hownB hgrowB; have OB := Lib.hid hownB; have BB := Lib.hid (Ow.below (w0 := w0) (by exact OE.out) (by exact BE.out) hgrowB (by exact BE.out.size)); have QB := Lib.hid (old_below (g := w.heap.size) Q1.out BB.out (Nat.le_refl _)); obtain ⟨-, -, -, -, -, -, -, -, x8, x9⟩ := cells10 QB.out; clear hownB hgrowB))
    go_wp2_with fail
    go_meet
    case rel =>
      obtain ⟨A3, c3, r1, r2, r3, r4, r5⟩ := MKH.out _ _ OB.out
      exact ⟨A3, c3, r1, r2, r3, r4, BB.out, r5⟩
  case rest =>
    obtain ⟨A3, c3, hv3, hc31, hc32, hrd, hB, hA3⟩ := hcut
    subst hv3
    have HRD := Lib.hid hrd
    have HBW := Lib.hid (Q4.out.trans (hB.mono (Nat.le_of_lt hg0)))
    have S1 := Lib.hid (old_below (g := w.heap.size) Q1.out hB (Nat.le_refl _))
    have hgc : w.heap.size < wc.heap.size := Nat.lt_of_lt_of_le hg0 hB.size
    clear hrd hB Q1 Q4 HR0 BR e8 e9 HE
    obtain ⟨w3, hw3⟩ : ∃ w3, w3 = wc := ⟨_, rfl⟩
    rw [← hw3] at HRD HBW S1 hgc hA3
    rw [← hw3]
    clear hw3
    have t4 := heap_alloc_new w3 (.cells s.cells 63)
    have b4 := HBW.out.alloc (Nat.le_of_lt hgc) (.cells s.cells 63)
    have d4 := Rd.alloc HRD.out (.cells s.cells 63)
    have z4 : (w3.alloc (.cells s.cells 63)).heap.size = w3.heap.size + 1 := World.size_alloc _ _
    go_wp2_with (with_reducible refine at_list ?_; refine loadP w3 (.tmp 17) w.heap.size s N (.slice A n c) S1.out rfl rfl rfl ?_)
    change Calls _ _ _ (w3.alloc (.cells s.cells 63)) _
    generalize w3.alloc (.cells s.cells 63) = w4 at *
    obtain ⟨g4, hg4⟩ : ∃ g, g = w3.heap.size := ⟨_, rfl⟩
    rw [← hg4] at t4 z4 hgc hA3 ⊢
    have HA3 := Lib.hid (show ∀ p, A3 = some p → p.block ≠ g4 from fun p hp => Nat.ne_of_lt (hA3 p hp))
    clear hA3
    clear hg4 HRD HBW S1
    refine (keys_any _).mono ?_
    rintro e w5 ⟨rfl, hkr, hb5⟩
    have T5 := Lib.hid (old_below (g := g4) t4 hb5 (Nat.le_refl _))
    have B5 := Lib.hid (bel_call b4 hb5 (by omega))
    have R5 := Lib.hid (Rd.more (Rd.below d4 hb5 (Nat.le_refl _)) hb5.size)
    have K5 := Lib.hid hkr
    obtain ⟨g5, hg5⟩ : ∃ g, g = w4.heap.size := ⟨_, rfl⟩
    rw [← hg5] at K5 z4 ⊢
    clear hkr hb5 t4 b4 d4 hg5
    subst z4
    dsimp only
    obtain ⟨M, hMM⟩ : ∃ M, M = n + k := ⟨_, rfl⟩
    have HMM := Lib.hid (show M = L.length by rw [HM.out, hMM])
    have hM1 : M ≤ 2000 := by omega
    have hM64 : M % 64 = 0 := by rw [hMM]; exact hmod2
    rw [← hMM]
    rw [← hMM] at hc31
    clear hMM hmod2
    go_wp2_with fail
    go_loopw [6] (fun v wr => ∃ (j : Nat), v = .int .i64 ((64 * j : Nat) : Int) ∧ 64 * j ≤ M ∧ wr.heap[g4]? = some (.cells (blkN s L j).cells 63 (0, 0)) ∧ Below w.heap.size w wr ∧ Rd wr wr.heap.size A3 L ∧ KR wr (g4 + 1)) (fun v _ => M - (intOf v).toNat)
    case atStart => exact ⟨0, rfl, by omega, T5.out, B5.out, R5.out, K5.out⟩
    case round =>
      clear T5 B5 R5 K5
      obtain ⟨j, rfl, hj, hS, hB, hrd, hkr⟩ := hrel
      have HS := Lib.hid hS
      have HB := Lib.hid hB
      have HRD := Lib.hid hrd
      have HKR := Lib.hid hkr
      have hsz : g4 < wr.heap.size := (Array.getElem?_eq_some_iff.1 hS).1
      clear hS hB hrd hkr
      by_cases hlt : 64 * j + 64 ≤ M
      · have h64 : ((64 * j : Nat) : Int) < (M : Int) := by omega
        obtain ⟨S0, hS0⟩ : ∃ x, x = blkN s L j := ⟨_, rfl⟩
        have HN1 := Lib.hid (show blkN s L (j + 1) = compress S0 ((L.drop (64 * j)).take 64) by rw [hS0]; rfl)
        rw [← hS0] at HS
        have HST := Lib.hid (fun W h1 h2 => step_any S0 A3 L M c3 (64 * j) (g4 + 1) W HMM.out (by rw [← HMM.out]; omega) (by rw [← HMM.out]; exact hlt) h1 h2)
        obtain ⟨q, hq⟩ : ∃ q, q = 64 * j := ⟨_, rfl⟩
        have HQ := Lib.hid hq
        rw [← hq] at HN1 HST h64 hlt hj ⊢
        generalize compress S0 ((L.drop q).take 64) = Y at *
        clear hS0 hq
        go_wp2_with (with_reducible refine at_list ?_; refine load8 wr (.tmp 4) g4 S0 HS.out rfl rfl rfl ?_)
        refine (HST.out _ HRD.out HKR.out).mono ?_
        rintro e w2 ⟨rfl, hb2⟩
        have HS2 := Lib.hid (old_below (g := g4) (by exact HS.out) hb2 (Nat.le_refl _))
        have HB2 := Lib.hid (bel_call (B := w.heap.size) (w := w) HB.out hb2 (by omega))
        have HRD2 := Lib.hid (Rd.below HRD.out hb2 (Nat.le_refl _))
        have HKR2 := Lib.hid (KR.below HKR.out hb2 (Nat.le_refl _))
        have hz2 := hb2.size
        clear hb2 HS HB HRD HKR HST
        go_wp2_with (with_reducible refine at_list ?_; refine store8 w2 (.tmp 4) (.tmp 30) g4 Y _ HS2.out rfl rfl rfl rfl rfl ?_)
        go_roundw
        case rel =>
          have g1 := setRow_heap w2 g4 _ Y.cells _ _ HS2.out
          have g3 := Below.setRow HB2.out (g := g4) (Nat.le_of_lt hgc) Y.cells
          have g5 := Rd.setRow (HRD2.out.more hz2) (g := g4) Y.cells HA3.out
          have g6 : KR (w2.setRow g4 Y.cells) (g4 + 1) := ⟨by rw [size_setRow]; exact HKR2.out.1, fun j hj => by
            rw [World.cell?_of_block (w := w2) (a := ⟨g4 + 1, j, none⟩) (setRow_other w2 g4 (g4 + 1) Y.cells (show g4 + 1 ≠ g4 by omega))]
            exact HKR2.out.2 j hj⟩
          have a1 : Value.int .i64 ((q : Int) + 64) = Value.int .i64 ((64 * (j + 1) : Nat) : Int) := by rw [HQ.out]; congr 1
          have a2 : 64 * (j + 1) ≤ M := by have := HQ.out; omega
          exact ⟨j + 1, a1, a2, by rw [HN1.out]; exact g1, g3, g5, g6⟩
        case measure => simp only [intOf]; omega
      · have hj2 : 64 * j = M := by omega
        have hjd : j = M / 64 := by omega
        have h64 : ¬ ((64 * j : Nat) : Int) < (M : Int) := by omega
        have HE2 := Lib.hid (show blkN s L j = X by rw [HX.out]; unfold blks; rw [← HMM.out, hjd])
        rw [HE2.out] at HS
        have row := row_of_st HS.out
        have hrw : ∀ kk, kk < 8 → wr.cell? ⟨g4, kk, none⟩ = some (wv (X.at kk)) := fun kk hk => by
          obtain ⟨cc, h1, h2, h3⟩ := row
          exact (cell_of_row _ _ _ _ _ _ h1).trans (h3 kk hk)
        have HRW := Lib.hid hrw
        clear row hrw hjd hlt hj HRD HKR HS HE2
        obtain ⟨wo, hwo⟩ : ∃ x, x = wr := ⟨_, rfl⟩
        rw [← hwo] at HB HRW hsz ⊢
        clear hwo
        go_wp2_with fail
        go_loopw [7, 8] (fun v i wx => ∃ kk : Nat, kk ≤ 8 ∧ i = .int .i64 kk ∧ Ow wx wo.heap.size v ((X.list.take kk).flatMap word8) ∧ Below wo.heap.size wo wx) (fun _ i _ => 8 - (intOf i).toNat)
        case atStart => exact ⟨0, by omega, rfl, Ow.nil, Below.refl _ _⟩
        case round =>
          obtain ⟨kk, hkk, rfl, hown, hbel⟩ := hrel
          have HO := Lib.hid hown
          have HB2 := Lib.hid hbel
          clear hown hbel
          by_cases hlt8 : kk < 8
          · have hN := bytes_snoc X kk hlt8
            have HL8 := Lib.hid (show ((X.list.take kk).flatMap word8).length ≤ 32 by rw [take_bytes_length X kk hkk]; omega)
            have hcell : wr.cell? ⟨g4, kk, none⟩ = some (wv (X.at kk)) := (HB2.out.cell (p := ⟨g4, kk, none⟩) hsz).trans (HRW.out kk hlt8)
            generalize X.at kk = x at *
            have HN8 := Lib.hid hN
            have hsx := HB2.out.size
            have hk8 : (kk : Int) < 8 := by omega
            have hkd : wr.drew.cell? ⟨g4, kk, none⟩ = some (wv x) := hcell
            clear hN
            go_wp2_with fail
            go_region_held3 (fun w' => w'.cell? ⟨g4, kk, none⟩ = some (wv x))
              (first
               | ((try dsimp only); with_reducible assumption)
               | ((try dsimp only); (with_reducible refine far1 ?_ ?_) <;> (first | (with_reducible assumption) | omega))
               | ((try dsimp only); (with_reducible refine far1d ?_ ?_) <;> (first | (with_reducible assumption) | omega)))
              (first
               | (rw [if_pos (by rfl)]; (refine wp_app _ (.tmp 35) (.tmp 58) (by rfl) wo.heap.size _ _ (word8 x) (by rfl) (by exact HO.out.alloc _) ⟨_, 0, none⟩ 4 _ (by rfl) (by rfl) (by exact newsL _ _ _ (word8_vals2 x)) (by rw [word8_length]; have := HL8.out; omega) (by exact le_alloc hsx _) ?_); intro v2 w2 hown2 hgrow2; have HB3 := Lib.hid (Ow.below (w0 := wo) (by exact HO.out.alloc _) (by exact (HB2.out.alloc hsx _).drew) hgrow2 (by exact le_alloc hsx _)); rw [← HN8.out] at hown2; have HW2 := Lib.hid hown2; have hc2 : w2.cell? ⟨g4, kk, none⟩ = some (wv x) := (HB3.out.cell (p := ⟨g4, kk, none⟩) hsz).trans ((HB2.out.cell (p := ⟨g4, kk, none⟩) hsz).symm.trans hcell); clear hgrow2 hown2))
            go_wp2_with fail
            go_roundw
            case rel => exact ⟨kk + 1, by omega, by go_num, HW2.out, HB3.out⟩
            case measure => simp [intOf]; omega
          · have hk8 : kk = 8 := by omega
            rw [hk8] at HO
            rw [all_bytes] at HO
            clear hk8
            go_wp2
            go_ret
            exact ⟨⟨_, rfl, HO.out.base HB.out.size⟩, HB.out.trans (HB2.out.mono HB.out.size)⟩
set_option maxRecDepth 100000 in
theorem refSum_any (s : St) (N : Nat) (A : Option Addr) (l : List UInt8) (c : Nat) (w : World) (hl : l.length ≤ 1000) (hlc : l.length ≤ c) (hr : Rd w w.heap.size A l) (hN : N ≤ 1125899906842624) (hmod : l.length % 64 = N % 64) :
    Calls Tryd.prog 34 #[hv s N (.slice A l.length c)] w fun e w' => AnsB w' e (sumF s l N) 32 ∧ Below w.heap.size w w' :=
  (refSum_own s N A l c w hl hlc hr hN hmod).mono fun _ _ ⟨h1, h2⟩ => ⟨h1.b (take_bytes_length _ 8 (by omega)), h2⟩
end Go.Proofs.YtfppcmhhbheaiaaDoor
/- The document's Of. -/

namespace Go.Proofs.YtfppcmhhbheaiaaDoor
open Go.RowKit

set_option maxRecDepth 100000 in
theorem refPut_new (C : Option Addr) (m : List UInt8) (d : Nat) (w : World) (hl : m.length ≤ 100000) (hmd : m.length ≤ d) (hs : Rd w w.heap.size C m) :
    Calls Tryd.prog 35 #[hv h0 0 (.slice none 0 0), .slice C m.length d] w fun e w' => AnsH w' e (blks h0 m) (m.length : Int) (left m) ∧ Below w.heap.size w w' := by
  have h := refPut_any h0 0 none C [] m 0 d w (by simpa using (by omega : m.length ≤ 1000000)) (by simp) hmd Rd.nil hs (by omega)
  rw [List.nil_append, Nat.zero_add] at h
  exact h
set_option maxRecDepth 100000 in
theorem refOf_own (A : Option Addr) (l : List UInt8) (c : Nat) (w : World) (hl : l.length ≤ 100000) (hc : l.length ≤ c) (hr : Rd w w.heap.size A l) :
    Calls Tryd.prog 23 #[.slice A l.length c] w fun e w' => AnsO w.heap.size w' e (ofF l) ∧ Below w.heap.size w w' := by
  have HR := Lib.hid hr
  have HP := Lib.hid (fun W h1 => refPut_new A l c W hl hc h1)
  have HS := Lib.hid (fun A' c' W h1 h2 => refSum_own (blks h0 l) l.length A' (left l) c' W (by have := left_small l; omega) h1 h2 (by omega) (by rw [left_length]; omega))
  obtain ⟨n, hn⟩ : ∃ n, n = l.length := ⟨_, rfl⟩
  obtain ⟨r, hr2⟩ : ∃ r, r = (left l).length := ⟨_, rfl⟩
  have HO := Lib.hid (show sumF (blks h0 l) (left l) l.length = ofF l from rfl)
  rw [HO.out] at HS
  rw [← hr2, ← hn] at HS
  rw [← hn] at HP
  rw [← hn]
  have HRR := Lib.hid hr2
  clear hr hn hr2 hl hc
  go_enter Tryd.func23, Tryd.ntmps23
  go_wp2_with fail
  refine (refNew_any _).mono ?_
  rintro e w1 ⟨rfl, hb1⟩
  have HB1 := Lib.hid hb1
  clear hb1
  go_wp2_with fail
  refine (HP.out _ ((HR.out.below HB1.out (Nat.le_refl _)).more HB1.out.size)).mono ?_
  rintro e w2 ⟨⟨A2, c2, rfl, h1, h2, h3⟩, hb2⟩
  have HB2 := Lib.hid (HB1.out.trans (hb2.mono HB1.out.size))
  have H3 := Lib.hid h3
  rw [← HRR.out] at h1 ⊢
  clear hb2 h3 HB1 HR
  go_wp2_with fail
  refine (HS.out A2 c2 _ h1 H3.out).mono ?_
  rintro e w3 ⟨⟨v, rfl, h6⟩, hb3⟩
  have H6 := Lib.hid (h6.base HB2.out.size)
  have HB3 := Lib.hid (HB2.out.trans (hb3.mono HB2.out.size))
  clear h6 hb3
  go_wp2_with fail
  go_ret
  exact ⟨⟨v, rfl, H6.out⟩, HB3.out⟩
set_option maxRecDepth 100000 in
theorem refOf_any (A : Option Addr) (l : List UInt8) (c : Nat) (w : World) (hl : l.length ≤ 100000) (hc : l.length ≤ c) (hr : Rd w w.heap.size A l) :
    Calls Tryd.prog 23 #[.slice A l.length c] w fun e w' => AnsB w' e (ofF l) 32 ∧ Below w.heap.size w w' :=
  (refOf_own A l c w hl hc hr).mono fun _ _ ⟨h1, h2⟩ => ⟨h1.b (take_bytes_length _ 8 (by omega)), h2⟩
set_option maxRecDepth 100000 in
theorem of_length (l : List UInt8) : (ofF l).length = 32 := by
  unfold ofF sumF
  exact take_bytes_length _ 8 (by omega)
end Go.Proofs.YtfppcmhhbheaiaaDoor
/- The document's answers (slot): Record. -/

namespace Go.Proofs.YtfppcmhhbheaiaaDoor
open Go.RowKit

set_option maxRecDepth 100000 in
/-- bytes that were just laid into a block of their own -/
theorem rd_made (w : World) (l : List UInt8) (fr : Nat × Nat) : Rd (w.alloc (.cells (cs l).toArray 5 fr)) (w.alloc (.cells (cs l).toArray 5 fr)).heap.size (some ⟨w.heap.size, 0, none⟩) l := fun _ =>
  ⟨w.heap.size, 0, rfl, by rw [World.size_alloc]; omega, fun j hj => by
    rw [Nat.zero_add]
    exact (cell_of_row _ _ _ _ _ _ (heap_alloc_new w (.cells (cs l).toArray 5 fr))).trans (by rw [List.getElem?_toArray]; exact cs_get l j hj)⟩
set_option maxRecDepth 100000 in
set_option maxHeartbeats 4000000 in
theorem record13_any (n : Int) (W : World) : Calls Tryd.prog 10 #[.int .i64 n] W fun e W' => AnsOwB W.heap.size W' e (recordS n).1 (recordS n).2 ∧ Below W.heap.size W W' := by
  by_cases h1 : n < 1
  · have HI := Lib.hid (show recordS n = ([], 1) from by unfold recordS; rw [if_neg (fun h => by have := h.1; omega)])
    go_enter Tryd.func10, Tryd.ntmps10
    go_wp2_with fail
    go_ret2
    exact ⟨by rw [HI.out]; exact ⟨_, rfl, Ow.nil⟩, Below.refl _ _⟩
  by_cases h2 : 4611686018427387904 < n
  · have HI := Lib.hid (show recordS n = ([], 1) from by unfold recordS; rw [if_neg (fun h => by have := h.2; omega)])
    go_enter Tryd.func10, Tryd.ntmps10
    go_wp2_with fail
    go_ret2
    exact ⟨by rw [HI.out]; exact ⟨_, rfl, Ow.nil⟩, Below.refl _ _⟩
  have HI := Lib.hid (show recordS n = (recL n, 0) from by unfold recordS; rw [if_pos ⟨by omega, by omega⟩])
  obtain ⟨k, rfl⟩ := Int.eq_ofNat_of_zero_le (show 0 ≤ n by omega)
  have CB := Lib.hid (fun w => refBigF_any k 8 w (by omega) (by decide) (by decide) (by have : (256 : Nat) ^ 8 = 18446744073709551616 := rfl; omega))
  obtain ⟨bb, hbb⟩ : ∃ l, l = dgL 0 256 k 8 := ⟨_, rfl⟩
  rw [← hbb] at CB
  have HLB := Lib.hid (show bb.length = 8 from by rw [hbb]; exact dgL_length _ _ _ _)
  have HRE := Lib.hid (show recL k = bb ++ (ofF (yettL ++ bb)).take 8 from by unfold recL dgS bg8; rw [Int.toNat_natCast, ← hbb])
  have CO := Lib.hid (fun A c w h1 h2 => refOf_own A (yettL ++ bb) c w (by rw [List.length_append, HLB.out]; decide) h1 h2)
  have HLO := Lib.hid (show (yettL ++ bb).length = 12 from by rw [List.length_append, HLB.out]; rfl)
  rw [HLO.out] at CO
  obtain ⟨so, hso⟩ : ∃ l, l = ofF (yettL ++ bb) := ⟨_, rfl⟩
  rw [← hso] at CO HRE
  have HLS := Lib.hid (show so.length = 32 from by rw [hso]; exact ofF_len _)
  have HL8 := Lib.hid (show (so.take 8).length = 8 from by rw [List.length_take, hso, ofF_len]; decide)
  clear hbb hso
  have kc := fun (w : World) (C : Array Value) (n c : Nat) => Lib.run_convert_bytes_const (P := Tryd.prog) w 22 5 C n c Tryd.underlying22 Tryd.underlying5
  go_enter Tryd.func10, Tryd.ntmps10
  go_wp2_with fail
  refine (CB.out _).mono ?_
  rintro e w1 ⟨⟨gb, rfl, hge, hrd⟩, hb⟩
  have HB1 := Lib.hid hb
  have RB1 := Lib.hid hrd
  clear hge hrd hb CB
  obtain ⟨V, hV⟩ : ∃ x, x = w1.alloc (.cells (cs yettL).toArray 5 (4, 5)) := ⟨_, rfl⟩
  have ha := (Below.refl w1.heap.size w1).alloc (Nat.le_refl _) (.cells (cs yettL).toArray 5 (4, 5))
  have hy := rd_made w1 yettL (4, 5)
  rw [← hV] at ha hy
  have HBV := Lib.hid (belG HB1.out ha HB1.out.size)
  have RBV := Lib.hid (RB1.out.go ha)
  have RY := Lib.hid hy
  have HV := Lib.hid (show V = w1.alloc (.cells #[.int .u8 121, .int .u8 101, .int .u8 116, .int .u8 116] 5 (4, 5)) from hV)
  clear hV ha hy
  go_upto_region 4 with (fail)
  go_wp2_with (at_builtin; rw [← HV.out]; (refine wpList_appG _ rfl (.tmp 19) (.tmp 20) rfl ⟨w1.heap.size, 0, none⟩ yettL bb (some ⟨gb, 0, none⟩) 4 8 8 _ _ rfl rfl rfl HLB.out.symm RY.out RBV.out (by decide) (by rw [HLB.out]; decide) (by rw [HLB.out]; decide) ?_); intro v2 w2 hown hb2; have HB2 := Lib.hid (belG HBV.out hb2 HBV.out.size); have RB2 := Lib.hid (RBV.out.go hb2); obtain ⟨A2, c2, e2, q1, q2, q3⟩ := hown.form; rw [HLO.out] at e2 q1; subst e2; have R2 := Lib.hid q3; have Q1 := Lib.hid q1; clear hown hb2 q3 q1 q2)
  refine (CO.out A2 c2 _ Q1.out R2.out).mono ?_
  rintro e w5 ⟨⟨v5, rfl, how⟩, hb⟩
  have HB5 := Lib.hid (belG HB2.out hb HB2.out.size)
  have RB5 := Lib.hid (RB2.out.go hb)
  obtain ⟨yo, rfl, hk⟩ := how.keyB
  have hcap : (8 : Int) ≤ (yo.2 : Int) := by have h5 : so.length ≤ yo.2 := hk.1; rw [HLS.out] at h5; omega
  have RS5 := Lib.hid ((hk.take 8).2.2)
  clear how hk hb
  rw [HLS.out]
  go_upto_region 5 with (fail)
  have HR5 := Lib.hid (Below.refl w5.heap.size w5)
  have BB0 := Lib.hid (HR5.out.drew)
  have KEEP := Lib.hid (fun w' (hW : Below w5.heap.size w5 w') => (show Below w5.heap.size w5 w' from hW))
  have KB8_0 := Lib.hid (RB5.out.go ((Below.refl w5.heap.size w5).drew))
  have KS8_0 := Lib.hid (RS5.out.go ((Below.refl w5.heap.size w5).drew))
  refine wp_region_noPanic ?_
  refine wp_region_held_drew (S := fun w' => Below w5.heap.size w5 w') (by kernel_rfl) (KEEP.out _ BB0.out) (fun hHeld => ?_)
  obtain ⟨wz0, hwz⟩ : ∃ x, x = w5.drew := ⟨_, rfl⟩
  rw [← hwz] at BB0 hHeld KB8_0 KS8_0 ⊢
  clear hwz
  refine wpAnyH_take (i := 1) (oi := ?_) (v := ?_) ?_ (by kernel_rfl) (by decide +kernel) (by decide +kernel) (fun _ _ _ h => h) ?_ (by assumption) ?_
  rotate_left 2
  focus (simp only [List.getElem?_toArray, List.getElem?_cons_succ, List.getElem?_cons_zero] <;> rfl)
  · refine Or.inl ⟨by rfl, ?_⟩
    intro w hSw
    (try dsimp only at hSw)
    go_simp <;> with_reducible rfl
  (try simp only [Act.put, List.setIfInBounds_toArray, List.set_cons_zero, List.set_cons_succ])
  refine wpAnyH_take (i := 3) (oi := ?_) (v := ?_) ?_ (by kernel_rfl) (by decide +kernel) (by decide +kernel) (fun _ _ _ h => h) ?_ (by assumption) ?_
  rotate_left 2
  focus (simp only [List.getElem?_toArray, List.getElem?_cons_succ, List.getElem?_cons_zero] <;> rfl)
  · refine Or.inl ⟨by rfl, ?_⟩
    intro w hSw
    (try dsimp only at hSw)
    go_simp <;> with_reducible rfl
  (try simp only [Act.put, List.setIfInBounds_toArray, List.set_cons_zero, List.set_cons_succ])
  refine wpAnyH_take (i := 4) (oi := ?_) (v := ?_) ?_ (by kernel_rfl) (by decide +kernel) (by decide +kernel) (fun _ _ _ h => h) ?_ (by assumption) ?_
  rotate_left 2
  focus (simp only [List.getElem?_toArray, List.getElem?_cons_succ, List.getElem?_cons_zero] <;> rfl)
  · refine Or.inl ⟨by rfl, ?_⟩
    intro w hSw
    (try dsimp only at hSw)
    go_simp <;> with_reducible rfl
  (try simp only [Act.put, List.setIfInBounds_toArray, List.set_cons_zero, List.set_cons_succ])
  refine wpAnyH_ready (rs := [0]) (by decide +kernel) (by simp) ?_
  refine AllReadyH.cons (o := ?_) ?_ (fun K hK => ?_) AllReadyH.nil
  rotate_left 1
  focus (simp only [List.getElem?_toArray, List.getElem?_cons_zero] <;> rfl)
  go_simp
  obtain ⟨wz1, hwz⟩ : ∃ x, x = wz0.alloc (.cells #[] 5) := ⟨_, rfl⟩
  obtain ⟨va1, hva⟩ : ∃ v, v = Value.slice (some ⟨wz0.heap.size, 0, none⟩) 0 0 := ⟨_, rfl⟩
  have hb : Below wz0.heap.size wz0 wz1 := by rw [hwz]; exact (Below.refl wz0.heap.size wz0).alloc (Nat.le_refl _) _
  have hx := Ow.made0 wz0 (BB0.out.size)
  rw [← hwz, ← hva] at hx
  have BB1 := Lib.hid (belG BB0.out hb BB0.out.size)
  have OW_1 := Lib.hid hx
  rw [← hwz, ← hva]
  have KB8_1 := Lib.hid (KB8_0.out.go hb)
  have KS8_1 := Lib.hid (KS8_0.out.go hb)
  clear hb hx hwz hva
  (try simp only [Act.put, List.setIfInBounds_toArray, List.set_cons_zero, List.set_cons_succ])
  refine hK.out _ _ (KEEP.out _ BB1.out) (fun hHeld => ?_)
  clear hK K
  (try dsimp only)
  refine wpAnyH_ready (rs := [2]) (by decide +kernel) (by simp) ?_
  refine AllReadyH.cons (o := ?_) ?_ (fun K hK => ?_) AllReadyH.nil
  rotate_left 1
  focus (simp only [List.getElem?_toArray, List.getElem?_cons_succ, List.getElem?_cons_zero] <;> rfl)
  rw [if_pos (by rfl)]
  refine wp_appS _ (.tmp 23) (.tmp 24) rfl w5.heap.size va1 ([] : List UInt8) bb rfl OW_1.out (some ⟨gb, 0, none⟩) 8 8 _ rfl HLB.out.symm KB8_1.out (by rw [HLB.out]; decide) BB1.out.size ?_
  intro va2 wz2 hown hg
  have BB2 := Lib.hid (Ow.below OW_1.out BB1.out hg BB1.out.size)
  have OW_2 := Lib.hid hown
  have KB8_2 := Lib.hid (RB5.out.go BB2.out)
  have KS8_2 := Lib.hid (RS5.out.go BB2.out)
  clear hown hg
  (try simp only [Act.put, List.setIfInBounds_toArray, List.set_cons_zero, List.set_cons_succ])
  refine hK.out _ _ (KEEP.out _ BB2.out) (fun hHeld => ?_)
  clear hK K
  (try dsimp only)
  refine wpAnyH_ready (rs := [5]) (by decide +kernel) (by simp) ?_
  refine AllReadyH.cons (o := ?_) ?_ (fun K hK => ?_) AllReadyH.nil
  rotate_left 1
  focus (simp only [List.getElem?_toArray, List.getElem?_cons_succ, List.getElem?_cons_zero] <;> rfl)
  rw [if_pos (by rfl)]
  refine wp_appS _ (.tmp 25) (.tmp 27) rfl w5.heap.size va2 (([] : List UInt8) ++ bb) (so.take 8) rfl OW_2.out yo.1 8 yo.2 _ rfl HL8.out.symm KS8_2.out (by rw [List.length_append, HLB.out, HL8.out]; decide) BB2.out.size ?_
  intro va3 wz3 hown hg
  have BB3 := Lib.hid (Ow.below OW_2.out BB2.out hg BB2.out.size)
  have OW_3 := Lib.hid hown
  have KB8_3 := Lib.hid (RB5.out.go BB3.out)
  have KS8_3 := Lib.hid (RS5.out.go BB3.out)
  clear hown hg
  (try simp only [Act.put, List.setIfInBounds_toArray, List.set_cons_zero, List.set_cons_succ])
  refine hK.out _ _ (KEEP.out _ BB3.out) (fun hHeld => ?_)
  clear hK K
  (try dsimp only)
  refine wpAnyH_take (i := 6) (oi := ?_) (v := ?_) ?_ (by kernel_rfl) (by decide +kernel) (by decide +kernel) (fun _ _ _ h => h) ?_ (by assumption) ?_
  rotate_left 2
  focus (simp only [List.getElem?_toArray, List.getElem?_cons_succ, List.getElem?_cons_zero] <;> rfl)
  · refine Or.inl ⟨by rfl, ?_⟩
    intro w hSw
    (try dsimp only at hSw)
    go_simp <;> with_reducible rfl
  (try simp only [Act.put, List.setIfInBounds_toArray, List.set_cons_zero, List.set_cons_succ])
  refine wpAnyH_take (i := 7) (oi := ?_) (v := ?_) ?_ (by kernel_rfl) (by decide +kernel) (by decide +kernel) (fun _ _ _ h => h) ?_ (by assumption) ?_
  rotate_left 2
  focus (simp only [List.getElem?_toArray, List.getElem?_cons_succ, List.getElem?_cons_zero] <;> rfl)
  · refine Or.inl ⟨by rfl, ?_⟩
    intro w hSw
    (try dsimp only at hSw)
    go_simp <;> with_reducible rfl
  (try simp only [Act.put, List.setIfInBounds_toArray, List.set_cons_zero, List.set_cons_succ])
  refine wpAnyH_done (by decide +kernel) ?_ _
  refine NoPanic.normal ?_
  clear KEEP

  go_wp2_with fail
  go_ret2
  have h5 := Ow.baseB OW_3.out HB5.out.size
  exact ⟨by rw [HI.out]; exact ⟨_, rfl, by show Ow _ _ _ (recL k); rw [HRE.out]; exact h5⟩, belG HB5.out BB3.out HB5.out.size⟩
end Go.Proofs.YtfppcmhhbheaiaaDoor
