
/- The document's Put. -/
import Derived.Test.YtfppcmhhbheaiaaDoorJ16
import Derived.Deep.MidRow
namespace Go.Proofs.YtfppcmhhbheaiaaDoor
open Go.RowKit

set_option maxRecDepth 100000 in
theorem loadH {ops : Array Oper} {rest : List Oper} {o : Oper} {a : Act} {Q : Exit → Act → World → Prop} (W : World) (x : Operand) (g : Nat) (s : St) (N : Int) (r : Value)
    (hg : W.heap[g]? = some (.cells (hcells s N r) 65 (0, 0))) (hgd : o.guard = none) (ho : o.op = .load 65 x) (hx : a.eval x = .pointer (some ⟨g, 0, none⟩))
    (h : wpList Tryd.prog ops Q rest (a.put o.dst (hv s N r)) W) : wpList Tryd.prog ops Q (o :: rest) a W :=
  wpList_load_row hgd 65 x ho g hx 65 (hcells s N r) (0, 0) _ hg Tryd.underlying65 rfl (by kernel_rfl) h
set_option maxRecDepth 100000 in
theorem all10 (s : St) (N : Int) (A : Option Addr) (n c : Nat) : (hcells s N (.slice A n c)).all (·.oneCell') = true := by simp [hcells, Value.oneCell']
set_option maxRecDepth 100000 in
theorem storeH {ops : Array Oper} {rest : List Oper} {o : Oper} {a : Act} {Q : Exit → Act → World → Prop} (W : World) (x y : Operand) (g : Nat) (s : St) (N : Int) (A : Option Addr) (n c : Nat) (old : Array Value)
    (hg : W.heap[g]? = some (.cells old 65 (0, 0))) (hold : old.size = 10) (hgd : o.guard = none) (ho : o.op = .store 65 x y) (hx : a.eval x = .pointer (some ⟨g, 0, none⟩)) (hy : a.eval y = hv s N (.slice A n c))
    (h : wpList Tryd.prog ops Q rest (a.put o.dst undef) (W.setRow g (hcells s N (.slice A n c)))) : wpList Tryd.prog ops Q (o :: rest) a W :=
  wpList_store_row hgd 65 x y ho g (hcells s N (.slice A n c)) hx hy 65 old hg (by kernel_rfl) hold (all10 s N A n c) h
set_option maxRecDepth 100000 in
theorem Rd.setRow {w : World} {A : Option Addr} {l : List UInt8} {g : Nat} (h : Rd w w.heap.size A l) (cs : Array Value) (hne : ∀ p, A = some p → p.block ≠ g) : Rd (w.setRow g cs) (w.setRow g cs).heap.size A l := by
  intro h0
  obtain ⟨b, o, e, hb, hc⟩ := h h0
  have hbg : b ≠ g := hne _ e
  refine ⟨b, o, e, by rw [size_setRow]; exact hb, fun j hj => ?_⟩
  rw [World.cell?_of_block (w := w) (a := ⟨b, o + j, none⟩) (setRow_other w g b cs hbg)]
  exact hc j hj
set_option maxRecDepth 100000 in
theorem Rd.setCell {w : World} {A : Option Addr} {l : List UInt8} {q : Addr} (h : Rd w w.heap.size A l) (v : Value) (hne : ∀ p, A = some p → p.block ≠ q.block) : Rd (w.setCell q v) (w.setCell q v).heap.size A l := by
  intro h0
  obtain ⟨b, o, e, hb, hc⟩ := h h0
  have hbg : b ≠ q.block := hne _ e
  refine ⟨b, o, e, by simpa [World.setCell] using hb, fun j hj => ?_⟩
  rw [World.cell?_of_block (w := w) (a := ⟨b, o + j, none⟩) (heap_setCell_other w q b v hbg)]
  exact hc j hj
set_option maxRecDepth 100000 in
theorem refPut_full (s : St) (N : Nat) (A C : Option Addr) (l m : List UInt8) (c d : Nat) (w : World) (_hl : l.length + m.length ≤ 1000000) (hlc : l.length ≤ c) (hc : c ≤ 9223372036854775807) (hr : Rd w w.heap.size A l) (hN : N ≤ 1125899906842624) (hfull : 1125899906842624 < N + m.length) :
    Calls Tryd.prog 35 #[hv s N (.slice A l.length c), .slice C m.length d] w fun e w' => AnsH w' e s N l ∧ Below w.heap.size w w' := by
  have HR := Lib.hid hr
  obtain ⟨n, hn⟩ : ∃ n, n = l.length := ⟨_, rfl⟩
  obtain ⟨k, hk⟩ : ∃ k, k = m.length := ⟨_, rfl⟩
  have HN := Lib.hid hn
  rw [← hk] at _hl hfull ⊢
  rw [← hn] at _hl hlc ⊢
  have hlt : 1125899906842624 - (N : Int) < (k : Int) := by omega
  obtain ⟨q1, q2, -, q4⟩ := alloc2 w (.cells (hcells s N (.slice A n c)) 65) (.cells (hcells S00 0 (.slice none 0 0)) 65)
  have G1 := Lib.hid q1
  have G2 := Lib.hid q2
  have G4 := Lib.hid q4
  clear hn hk hr q1 q2 q4
  go_enter Tryd.func35, Tryd.ntmps35
  go_wp2_with (first | (refine loadH _ (.tmp 2) w.heap.size s N (.slice A n c) G1.out rfl rfl rfl ?_) | (refine storeH _ (.tmp 4) (.tmp 14) (w.heap.size + 1) s N A n c _ G2.out rfl rfl rfl rfl rfl ?_))
  (try simp only [Exit.inBlock, Exit.then])
  refine bodyPost_ret (retH rfl _ _ (w.heap.size + 1) s N (.slice A n c) rfl (setRow_heap _ _ _ _ _ _ G2.out)) rfl ?_
  have g3 := Below.setRow G4.out (Nat.le_succ w.heap.size) (hcells s N (.slice A n c))
  exact ⟨⟨A, c, by rw [← HN.out], by rw [← HN.out]; exact hlc, hc, (HR.out.below g3 (Nat.le_refl _)).more g3.size⟩, g3⟩

set_option maxRecDepth 100000 in
theorem hset {w : World} {g : Nat} {t : TypeId} {s : St} {N : Int} {r : Value} (h : w.heap[g]? = some (.cells (hcells s N r) t (0, 0))) (N' : Int) (r' : Value) :
    ((w.setCell ⟨g, 8, none⟩ (.int .i64 N')).setCell ⟨g, 9, none⟩ r').heap[g]? = some (.cells (hcells s N' r') t (0, 0)) := by
  have h8 := heap_setCell_same w g 8 _ t (.int .i64 N') h
  have h9 := heap_setCell_same _ g 9 _ t r' h8
  rw [h9]
  simp only [List.setIfInBounds_toArray, List.set_cons_zero, List.set_cons_succ, hcells]
set_option maxRecDepth 100000 in
theorem set8_h {w : World} {g : Nat} {t : TypeId} (s : St) {s0 : St} {N : Int} {r : Value} (h : w.heap[g]? = some (.cells (hcells s0 N r) t (0, 0))) : (set8 w g s).heap[g]? = some (.cells (hcells s N r) t (0, 0)) := by
  have h0 := heap_setCell_same w g 0 _ t (wv s.a) h
  have h1 := heap_setCell_same _ g 1 _ t (wv s.b) h0
  have h2 := heap_setCell_same _ g 2 _ t (wv s.c) h1
  have h3 := heap_setCell_same _ g 3 _ t (wv s.d) h2
  have h4 := heap_setCell_same _ g 4 _ t (wv s.e) h3
  have h5 := heap_setCell_same _ g 5 _ t (wv s.f) h4
  have h6 := heap_setCell_same _ g 6 _ t (wv s.g) h5
  have h7 := heap_setCell_same _ g 7 _ t (wv s.h) h6
  unfold set8
  rw [h7]
  simp only [List.setIfInBounds_toArray, List.set_cons_zero, List.set_cons_succ, hcells]

set_option maxRecDepth 100000 in
theorem at_list {ops : Array Oper} {rest : List Oper} {o : Oper} {a : Act} {W : World} {Q : Exit → Act → World → Prop} (h : wpList Tryd.prog ops Q (o :: rest) a W) : wpList Tryd.prog ops Q (o :: rest) a W := h
set_option maxRecDepth 100000 in
theorem loadP {ops : Array Oper} {rest : List Oper} {o : Oper} {a : Act} {Q : Exit → Act → World → Prop} (W : World) (x : Operand) (g : Nat) (s : St) (N : Int) (r : Value)
    (hg : W.heap[g]? = some (.cells (hcells s N r) 65 (0, 0))) (hgd : o.guard = none) (ho : o.op = .load 63 x) (hx : a.eval x = .pointer (some ⟨g, 0, none⟩))
    (h : wpList Tryd.prog ops Q rest (a.put o.dst s.v) W) : wpList Tryd.prog ops Q (o :: rest) a W :=
  wpList_load_mid hgd 63 x ho g 0 hx s.cells.toList _ (fun j v hv => by
    obtain ⟨e0, e1, e2, e3, e4, e5, e6, e7, -, -⟩ := cells10 hg
    rw [Nat.zero_add]
    match j, hv with
    | 0, h => cases h; exact e0
    | 1, h => cases h; exact e1
    | 2, h => cases h; exact e2
    | 3, h => cases h; exact e3
    | 4, h => cases h; exact e4
    | 5, h => cases h; exact e5
    | 6, h => cases h; exact e6
    | 7, h => cases h; exact e7
    | j + 8, h => cases h) Tryd.underlying63 rfl (by kernel_rfl) h
set_option maxRecDepth 100000 in
theorem storeP {ops : Array Oper} {rest : List Oper} {o : Oper} {a : Act} {Q : Exit → Act → World → Prop} (W : World) (x y : Operand) (g : Nat) (s s0 : St) (N : Int) (r : Value)
    (hg : W.heap[g]? = some (.cells (hcells s0 N r) 65 (0, 0))) (hgd : o.guard = none) (ho : o.op = .store 63 x y) (hx : a.eval x = .pointer (some ⟨g, 0, none⟩)) (hy : a.eval y = s.v)
    (h : wpList Tryd.prog ops Q rest (a.put o.dst undef) (set8 W g s)) : wpList Tryd.prog ops Q (o :: rest) a W :=
  wpList_store_mid hgd 63 x y ho g 0 s.cells hx hy (fun j hj => by
    obtain ⟨e0, e1, e2, e3, e4, e5, e6, e7, -, -⟩ := cells10 hg
    obtain ⟨y0, y1, y2, y3, y4, y5, y6, y7, -, -⟩ := frozen10 hg
    rw [Nat.zero_add]
    have hj : j < 8 := hj
    match j, hj with
    | 0, _ => exact ⟨by rw [e0]; rfl, y0⟩
    | 1, _ => exact ⟨by rw [e1]; rfl, y1⟩
    | 2, _ => exact ⟨by rw [e2]; rfl, y2⟩
    | 3, _ => exact ⟨by rw [e3]; rfl, y3⟩
    | 4, _ => exact ⟨by rw [e4]; rfl, y4⟩
    | 5, _ => exact ⟨by rw [e5]; rfl, y5⟩
    | 6, _ => exact ⟨by rw [e6]; rfl, y6⟩
    | 7, _ => exact ⟨by rw [e7]; rfl, y7⟩
    | j + 8, h => exact absurd h (by omega)) (by kernel_rfl) (by simp [St.cells, Value.oneCell']) h
set_option maxRecDepth 100000 in
theorem far2 {w : World} {g b i j : Nat} (h : b ≠ g) (v r : Value) : ((w.setCell ⟨g, i, none⟩ v).setCell ⟨g, j, none⟩ r).heap[b]? = w.heap[b]? :=
  (heap_setCell_other _ _ _ _ h).trans (heap_setCell_other _ _ _ _ h)
set_option maxRecDepth 100000 in
theorem KR.set8 {w : World} {g b : Nat} (h : KR w b) (s : St) (hne : b ≠ g) : KR (set8 w g s) b := by
  refine ⟨Nat.lt_of_lt_of_le h.1 (Below.set8 (Below.refl 0 w) (Nat.zero_le g) s).size, fun j hj => ?_⟩
  rw [World.cell?_of_block (w := w) (a := ⟨b, j, none⟩) (set8_other s hne)]
  exact h.2 j hj

set_option maxRecDepth 100000 in
set_option maxHeartbeats 4000000 in
theorem refPut_any (s : St) (N : Nat) (A C : Option Addr) (l m : List UInt8) (c d : Nat) (w : World) (hl : l.length + m.length ≤ 1000000) (_hlc : l.length ≤ c) (_hmd : m.length ≤ d) (hr : Rd w w.heap.size A l) (hs : Rd w w.heap.size C m) (hN : N + m.length ≤ 1125899906842624) :
    Calls Tryd.prog 35 #[hv s N (.slice A l.length c), .slice C m.length d] w fun e w' => AnsH w' e (blks s (l ++ m)) ((N + m.length : Nat) : Int) (left (l ++ m)) ∧ Below w.heap.size w w' := by
  have HR := Lib.hid hr
  have HS := Lib.hid hs
  obtain ⟨n, hn⟩ : ∃ n, n = l.length := ⟨_, rfl⟩
  obtain ⟨k, hk⟩ : ∃ k, k = m.length := ⟨_, rfl⟩
  have HN := Lib.hid hn
  have HK := Lib.hid hk
  obtain ⟨L, hL⟩ : ∃ L, L = l ++ m := ⟨_, rfl⟩
  have HL := Lib.hid hL
  have HLen := Lib.hid (show L.length = n + k by rw [hL, List.length_append, hn, hk])
  rw [← hL]
  rw [← hk] at hl hN _hmd ⊢
  rw [← hn] at hl _hlc ⊢
  clear hn hr hs hk hL
  have hlt : (k : Int) ≤ 1125899906842624 - (N : Int) := by omega
  go_enter Tryd.func35, Tryd.ntmps35
  go_upto_region 3 with (fail)
  obtain ⟨q1, q2, q3, q4⟩ := alloc2 w (.cells (hcells s N (.slice A n c)) 65) (.cells (hcells S00 0 (.slice none 0 0)) 65)
  change Code.wp _ _ _ _ ((w.alloc (.cells (hcells s N (.slice A n c)) 65)).alloc (.cells (hcells S00 0 (.slice none 0 0)) 65))
  generalize (w.alloc (.cells (hcells s N (.slice A n c)) 65)).alloc (.cells (hcells S00 0 (.slice none 0 0)) 65) = w0 at *
  obtain ⟨-, -, -, -, -, -, -, -, e8, e9⟩ := cells10 (w := w0) q1
  have hg0 : w.heap.size < w0.heap.size := by omega
  have hg1 : w.heap.size + 1 < w0.heap.size := by omega
  have Q1 := Lib.hid q1
  have Q2 := Lib.hid q2
  have Q4 := Lib.hid q4
  have HR0 := Lib.hid ((HR.out.below q4 (Nat.le_refl _)).more q4.size)
  have HS0 := Lib.hid ((HS.out.below q4 (Nat.le_refl _)).more q4.size)
  clear q1 q2 q3 q4 HR HS
  go_wp2_with (first
    | (at_builtin; refine wpList_appS _ rfl (.tmp 15) (.tmp 17) rfl w0.heap.size _ [] l rfl (by exact Ow.made0 _ (Nat.le_refl _)) A n c w0.heap.size rfl HN.out (by exact HR0.out.keep fun p hp => World.cell?_alloc_lt w0 _ p hp) (by simp only [List.length_nil]; have := HN.out; omega) (by exact le_alloc (Nat.le_refl _) _) ?_; intro v4 w4 hown4 hgrow4; have hb4 := Ow.below (w0 := w0) (by exact Ow.made0 _ (Nat.le_refl _)) (by exact (Below.refl _ _).alloc (Nat.le_refl _) _) hgrow4 (by exact le_alloc (Nat.le_refl _) _); rw [List.nil_append] at hown4; have HO4 := Lib.hid hown4; have HB4 := Lib.hid hb4; have hsz4 := hb4.size; clear hown4 hgrow4 hb4)
    | (at_builtin; refine wpList_appS w4 rfl (.tmp 18) (.tmp 19) rfl w0.heap.size _ l m rfl (by exact HO4.out) C k d w0.heap.size rfl HK.out (by exact HS0.out.below HB4.out (Nat.le_refl _)) (by have := HN.out; have := HK.out; omega) hsz4 ?_; intro v5 w5 hown5 hgrow5; have hb5 := Ow.below (w0 := w0) HO4.out HB4.out hgrow5 hsz4; rw [← HL.out] at hown5; obtain ⟨A5, c5, rfl, hc51, hc52, hr5, hf5⟩ := Ow.fresh hown5; have HF5 := Lib.hid hf5; have HR5 := Lib.hid hr5; have HB5 := Lib.hid hb5; clear hown5 hgrow5 hb5 hr5 hf5))
  refine (keys_any _).mono ?_
  rintro e w6 ⟨rfl, hkr, hb6⟩
  have HB6 := Lib.hid (HB5.out.trans (hb6.mono HB5.out.size))
  have HR6 := Lib.hid ((HR5.out.below hb6 (Nat.le_refl _)).more hb6.size)
  have HKR := Lib.hid hkr
  have hg6 : w5.heap.size ≤ w6.heap.size := hb6.size
  clear hb6 hkr HR5
  obtain ⟨b5, hb5⟩ : ∃ b5, b5 = w5.heap.size := ⟨_, rfl⟩
  rw [← hb5] at HKR ⊢
  have hb50 : w0.heap.size ≤ b5 := by rw [hb5]; exact HB5.out.size
  clear hb5 HB5
  have HBW := Lib.hid (Q4.out.trans (HB6.out.mono (Nat.le_of_lt hg0)))
  have hQ1 := old_below (g := w.heap.size) Q1.out HB6.out (Nat.le_refl _)
  have hQ2 := old_below (g := w.heap.size + 1) Q2.out HB6.out (Nat.le_refl _)
  have P1 := Lib.hid hQ1
  have P2 := Lib.hid hQ2
  have hgw6 : w.heap.size + 1 < w6.heap.size := Nat.lt_of_lt_of_le hg1 HB6.out.size
  clear hQ1 hQ2 HB6 Q1 Q2 Q4 HR0 HS0 HO4 HB4 e8 e9
  obtain ⟨M, hM⟩ : ∃ M, M = L.length := ⟨_, rfl⟩
  have HM := Lib.hid hM
  have hM1 : M ≤ 1000000 := by rw [hM, HLen.out]; exact hl
  have hMk : M = n + k := by rw [hM, HLen.out]
  rw [← hM] at hc51 ⊢
  clear hM
  have HMK := Lib.hid hMk
  clear hMk
  go_wp2
  go_loopw [7] (fun v wr => ∃ (j : Nat), v = .int .i64 ((64 * j : Nat) : Int) ∧ 64 * j ≤ M ∧ wr.heap[w.heap.size]? = some (.cells (hcells (blkN s L j) N (.slice A n c)) 65 (0, 0)) ∧ wr.heap[w.heap.size + 1]? = some (.cells (hcells S00 0 (.slice none 0 0)) 65 (0, 0)) ∧ Below w.heap.size w wr ∧ w.heap.size + 1 < wr.heap.size ∧ Rd wr wr.heap.size A5 L ∧ KR wr b5) (fun v _ => M - (intOf v).toNat)
  case atStart => exact ⟨0, rfl, by omega, P1.out, P2.out, HBW.out, hgw6, HR6.out, HKR.out⟩
  case round =>
    clear P1 P2 HBW HR6 HKR hgw6
    obtain ⟨j, rfl, hj, hS, hZ, hB, hsz, hrd, hkr⟩ := hrel
    have HS := Lib.hid hS
    have HZ := Lib.hid hZ
    have HB := Lib.hid hB
    have HRD := Lib.hid hrd
    have HKR := Lib.hid hkr
    clear hS hZ hB hrd hkr
    by_cases hlt : 64 * j + 64 ≤ M
    · have h64 : (64 : Int) ≤ (M : Int) - ((64 * j : Nat) : Int) := by omega
      obtain ⟨S0, hS0⟩ : ∃ x, x = blkN s L j := ⟨_, rfl⟩
      have HN1 := Lib.hid (show blkN s L (j + 1) = compress S0 ((L.drop (64 * j)).take 64) by rw [hS0]; rfl)
      rw [← hS0] at HS
      have HST := Lib.hid (fun W h1 h2 => step_any S0 A5 L M c5 (64 * j) b5 W HM.out (by rw [← HM.out]; exact hM1) (by rw [← HM.out]; exact hlt) h1 h2)
      obtain ⟨q, hq⟩ : ∃ q, q = 64 * j := ⟨_, rfl⟩
      have HQ := Lib.hid hq
      rw [← hq] at HN1 HST h64 hlt hj ⊢
      generalize compress S0 ((L.drop q).take 64) = X at *
      have HX := HN1
      clear hS0 hq
      go_wp2_with (refine loadP wr (.tmp 27) w.heap.size S0 N (.slice A n c) HS.out rfl rfl rfl ?_)
      refine (HST.out _ ?_ ?_).mono ?_
      · exact HRD.out
      · exact HKR.out
      rintro e w2 ⟨rfl, hb2⟩
      have HQ2 := Lib.hid (old_below (g := w.heap.size) (by exact HS.out) hb2 (Nat.le_refl _))
      have HB2 := Lib.hid (bel_call (B := w.heap.size) (w := w) (by exact HB.out) hb2 (by exact Nat.le_of_lt (Nat.lt_of_succ_lt hsz)))
      have HZ2 := Lib.hid (old_below (g := w.heap.size + 1) (by exact HZ.out) hb2 (Nat.le_refl _))
      have HRD2 := Lib.hid (Rd.more (Rd.below (by exact HRD.out) hb2 (Nat.le_refl _)) hb2.size)
      have HKR2 := Lib.hid (KR.below (by exact HKR.out) hb2 (Nat.le_refl _))
      clear hb2 HS HZ HB HRD HKR
      dsimp only
      go_wp2_with (with_reducible refine at_list ?_; refine storeP w2 (.tmp 33) (.tmp 32) w.heap.size X S0 N (.slice A n c) HQ2.out rfl rfl rfl rfl ?_)
      go_roundw
      case rel =>
        have g1 := set8_h X HQ2.out
        have g2 := (set8_other X (show w.heap.size + 1 ≠ w.heap.size by omega)).trans HZ2.out
        have g3 := Below.set8 HB2.out (Nat.le_refl _) X
        have g4 : w.heap.size + 1 < (set8 w2 w.heap.size X).heap.size := (Array.getElem?_eq_some_iff.1 g2).1
        have g5 := Rd.set8 HRD2.out X (g := w.heap.size) (fun p hp => by have hh := (HF5.out p hp).1; omega)
        have g6 := KR.set8 HKR2.out X (g := w.heap.size) (by omega)
        have a1 : Value.int .i64 ((q : Int) + 64) = Value.int .i64 ((64 * (j + 1) : Nat) : Int) := by rw [HQ.out]; congr 1
        have a2 : 64 * (j + 1) ≤ M := by have := HQ.out; omega
        exact ⟨j + 1, a1, a2, by rw [HX.out]; exact g1, g2, g3, g4, g5, g6⟩
      case measure => simp only [intOf]; omega
    · have hj2 : j = M / 64 := by omega
      have h64 : ¬ (64 : Int) ≤ (M : Int) - ((64 * j : Nat) : Int) := by omega
      have HE := Lib.hid (show blkN s L j = blks s L by unfold blks; rw [← HM.out, hj2])
      have HF := Lib.hid (show L.drop (64 * j) = left L by unfold left; rw [← HM.out, hj2])
      rw [HE.out] at HS
      have HFL := Lib.hid (left_length L)
      obtain ⟨X, hX⟩ : ∃ X, X = blks s L := ⟨_, rfl⟩
      rw [← hX] at HS
      have HX := Lib.hid hX
      obtain ⟨q, hq⟩ : ∃ q, q = 64 * j := ⟨_, rfl⟩
      rw [← hq] at HF h64 hlt hj ⊢
      have HQ := Lib.hid hq
      clear hX hj2 hq HE
      obtain ⟨-, -, -, -, -, -, -, -, e8, e9⟩ := cells10 (w := wr) HS.out
      obtain ⟨-, -, -, -, -, -, -, -, y8, y9⟩ := frozen10 HS.out
      have hw : IntKind.i64.wrap ((N : Int) + (k : Int)) = (N : Int) + (k : Int) := IntWalk.i64_in _ (by omega)
      have HEN := Lib.hid (show (N : Int) + (k : Int) = ((N + k : Nat) : Int) by omega)
      by_cases hcq : c5 = q
      · go_wp2_with (with_reducible refine at_list ?_; first | (refine loadH _ (.tmp 2) w.heap.size X ((N : Int) + (k : Int)) _ (by exact hset HS.out _ _) rfl rfl rfl ?_) | (refine storeH _ (.tmp 4) (.tmp 46) (w.heap.size + 1) X ((N : Int) + (k : Int)) A5 (M - q) 0 _ (by exact (far2 (by omega) _ _).trans HZ.out) rfl rfl rfl rfl rfl ?_))
        (try simp only [Exit.inBlock, Exit.then])
        refine bodyPost_ret (retH rfl _ _ (w.heap.size + 1) X ((N : Int) + (k : Int)) _ rfl (setRow_heap _ _ _ _ _ _ (by exact (far2 (by omega) _ _).trans HZ.out))) rfl ?_
        have hl0 : left L = [] := List.eq_nil_of_length_eq_zero (by rw [HFL.out, ← HM.out]; have := HQ.out; omega)
        have hMq : M - q = 0 := by omega
        rw [hl0, hMq, ← HX.out]
        exact ⟨⟨A5, 0, by rw [HEN.out]; rfl, Nat.le_refl _, by omega, Rd.nil⟩, Below.setRow (Below.setCell (Below.setCell HB.out (p := ⟨w.heap.size, 8, none⟩) (Nat.le_refl _) _) (p := ⟨w.heap.size, 9, none⟩) (Nat.le_refl _) _) (Nat.le_succ w.heap.size) _⟩
      · go_wp2_with (with_reducible refine at_list ?_; first | (refine loadH _ (.tmp 2) w.heap.size X ((N : Int) + (k : Int)) _ (by exact hset HS.out _ _) rfl rfl rfl ?_) | (refine storeH _ (.tmp 4) (.tmp 46) (w.heap.size + 1) X ((N : Int) + (k : Int)) (A5.map _) (M - q) _ _ (by exact (far2 (by omega) _ _).trans HZ.out) rfl rfl rfl rfl rfl ?_))
        (try simp only [Exit.inBlock, Exit.then])
        refine bodyPost_ret (retH rfl _ _ (w.heap.size + 1) X ((N : Int) + (k : Int)) _ rfl (setRow_heap _ _ _ _ _ _ (by exact (far2 (by omega) _ _).trans HZ.out))) rfl ?_
        have hlen : M - q = (left L).length := by rw [HFL.out, ← HM.out]; have := HQ.out; omega
        rw [hlen, ← HX.out]
        have HA : ∀ (p : Addr) (i : Nat), (p.add i).block = p.block := fun p i => by unfold Addr.add; split <;> rfl
        have hcut := HRD.out.cut q (M - q) c5 (by rw [← HM.out]; omega) (by rw [← HM.out]; exact hc51)
        rw [HF.out, List.take_of_length_le (by omega), if_neg hcq, Nat.mul_one] at hcut
        refine ⟨⟨_, _, by rw [HEN.out], by rw [← hlen]; omega, by omega, ?_⟩, Below.setRow (Below.setCell (Below.setCell HB.out (p := ⟨w.heap.size, 8, none⟩) (Nat.le_refl _) _) (p := ⟨w.heap.size, 9, none⟩) (Nat.le_refl _) _) (Nat.le_succ w.heap.size) _⟩
        exact ((hcut.setCell (q := ⟨w.heap.size, 8, none⟩) _ (fun p hp => by obtain ⟨q', hq', rfl⟩ := Option.map_eq_some_iff.1 hp; have hh := (HF5.out q' hq').1; have h3 := HA q' q; show (q'.add q).block ≠ _; (try dsimp only); omega)).setCell (q := ⟨w.heap.size, 9, none⟩) _ (fun p hp => by obtain ⟨q', hq', rfl⟩ := Option.map_eq_some_iff.1 hp; have hh := (HF5.out q' hq').1; have h3 := HA q' q; show (q'.add q).block ≠ _; (try dsimp only); omega)).setRow (g := w.heap.size + 1) _ (fun p hp => by obtain ⟨q', hq', rfl⟩ := Option.map_eq_some_iff.1 hp; have hh := (HF5.out q' hq').1; have h3 := HA q' q; show (q'.add q).block ≠ _; (try dsimp only); omega)
end Go.Proofs.YtfppcmhhbheaiaaDoor
