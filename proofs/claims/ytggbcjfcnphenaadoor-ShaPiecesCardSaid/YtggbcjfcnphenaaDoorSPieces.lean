/- ShaPieces' walk -/
import Derived.Test.YtggbcjfcnphenaaDoorSPuts
import Derived.Test.YtggbcjfcnphenaaDoorMat
import Derived.StillTailTactics
namespace Go.Proofs.YtggbcjfcnphenaaDoor
open Go.RowKit

theorem Ow.setRow {w : World} {base g : Nat} {v : Value} {l : List UInt8} (h : Ow w base v l) (hg : g < base) (cs : Array Value) : Ow (w.setRow g cs) base v l := by
  refine ⟨h.1, ?_⟩
  rcases h.2 with h0 | ⟨g', cap, cur, e, h1, hg', h2⟩
  · exact .inl h0
  · exact .inr ⟨g', cap, cur, e, h1, (setRow_other w g g' cs (by omega)).trans hg', h2⟩
theorem put_piece (L row M : List UInt8) (Ar A' : Option Addr) (cr c' N r m N' : Nat) (s0 : St) (hM : M = L ++ row) (hN : N = L.length) (hr : r = (left L).length) (hm : m = row.length) (hN' : N' = M.length) (hs : s0 = blks h0 L)
    (hL : N + m ≤ 1000) (hcr : r ≤ cr) (hc' : m ≤ c') (w : World) (h1 : Rd w w.heap.size Ar (left L)) (h2 : Rd w w.heap.size A' row) (hk : Ks w) :
    Calls Tryd.prog 23 #[hv s0 (N : Int) (.slice Ar r cr), .slice A' m c'] w fun e w' => AnsHF w.heap.size w' e (blks h0 M) (N' : Int) (left M) ∧ Below w.heap.size w w' := by
  subst hN hr hm hN' hs hM
  have h := put_fresh (blks h0 L) L.length Ar A' (left L) row cr c' w (by rw [left_length]; omega) hcr hc' h1 h2 hk (by omega)
  rw [(blks_pieces h0 L row).1, (blks_pieces h0 L row).2] at h
  rw [List.length_append]
  exact h
/-- the state between two pieces: what came is in v, its digest under way in block g4 -/
def Pcs (W : World) (g4 : Nat) (L : List UInt8) (v : Value) (wr : World) : Prop :=
  ∃ (Aa : Option Addr) (ca : Nat) (Ar : Option Addr) (cr : Nat), v = .slice Aa L.length ca ∧ L.length ≤ ca ∧ ca ≤ 9223372036854775807 ∧ Ow wr (g4 + 1) (.slice Aa L.length ca) L ∧ wr.heap[g4]? = some (.cells (hcells (blks h0 L) (L.length : Int) (.slice Ar (left L).length cr)) 36 (0, 0)) ∧ (left L).length ≤ cr ∧ cr ≤ 9223372036854775807 ∧ Rd wr wr.heap.size Ar (left L) ∧ Below W.heap.size W wr
theorem pcs_nil (W : World) (g4 : Nat) (A : Option Addr) (V : World) (hO : Ow V (g4 + 1) (.slice A 0 0) []) (h : V.heap[g4]? = some (.cells (hcells h0 0 (.slice none 0 0)) 36 (0, 0))) (hb : Below W.heap.size W V) : Pcs W g4 [] (.slice A 0 0) V := by
  have eb : blks h0 [] = h0 := rfl
  have el : left [] = [] := rfl
  exact ⟨A, 0, none, 0, rfl, Nat.le_refl _, by simp, hO, by rw [eb, el]; exact h, by rw [el]; exact Nat.le_refl _, by simp, by rw [el]; exact Rd.nil, hb⟩
theorem loadHg {ops : Array Oper} {rest : List Oper} {o : Oper} {a : Act} {Q : Exit → Act → World → Prop} (W : World) (x : Operand) (g : Nat) (s : St) (N : Int) (r : Value)
    (hg : W.heap[g]? = some (.cells (hcells s N r) 36 (0, 0))) (hw : Region.wanted o (yielded ops a.tmps) = true) (ho : o.op = .load 36 x) (hx : a.eval x = .pointer (some ⟨g, 0, none⟩))
    (h : wpList Tryd.prog ops Q rest (a.put o.dst (hv s N r)) W) : wpList Tryd.prog ops Q (o :: rest) a W :=
  BigFrame.wpList_want hw fun _ hK => wp_load_row 36 x ho g hx 36 (hcells s N r) (0, 0) _ hg Tryd.underlying36 rfl (by kernel_rfl) (hK _ _ h)
theorem ow_fresh {w : World} {base N : Nat} {v : Value} {l : List UInt8} (h : Ow w base v l) (hN : N = l.length) : ∃ A c, v = .slice A N c ∧ N ≤ c ∧ c ≤ 9223372036854775807 ∧ Rd w w.heap.size A l := by
  subst hN
  obtain ⟨A, c, h1, h2, h3, h4, _⟩ := Ow.fresh h
  exact ⟨A, c, h1, h2, h3, h4⟩
theorem Pcs.of {W wr : World} {g4 N r ca cr : Nat} {M : List UInt8} {s : St} {Aa Ar : Option Addr} (hN : N = M.length) (hr : r = (left M).length) (hs : s = blks h0 M) (h1 : N ≤ ca) (h2 : ca ≤ 9223372036854775807) (hO : Ow wr (g4 + 1) (.slice Aa N ca) M)
    (hG : wr.heap[g4]? = some (.cells (hcells s (N : Int) (.slice Ar r cr)) 36 (0, 0))) (h3 : r ≤ cr) (h4 : cr ≤ 9223372036854775807) (h5 : Rd wr wr.heap.size Ar (left M)) (h6 : Below W.heap.size W wr) : Pcs W g4 M (.slice Aa N ca) wr := by
  subst hN hr hs
  exact ⟨Aa, ca, Ar, cr, rfl, h1, h2, hO, hG, h3, h4, h5, h6⟩
theorem left_is (M : List UInt8) (N r q : Nat) (hN : N = M.length) (hr : r = N % 64) (hq : q = N - r) : (M.drop q).take (N - q) = left M := by
  rw [List.take_of_length_le (by rw [List.length_drop]; omega)]
  unfold left
  congr 1
  omega
theorem same_rest (M : List UInt8) (N r q : Nat) (hN : N = M.length) (hr : r = N % 64) (hq : q = N - r) (A2 A5 : Option Addr) (c2 c5 : Nat) (hc : N ≤ c5) (w : World) (h1 : Rd w w.heap.size A2 (left M)) (h2 : Rd w w.heap.size A5 M) :
    Calls Tryd.prog 11 #[.slice A2 r c2, .slice (if c5 = q then A5 else A5.map (·.add (q * 1))) (N - q) (c5 - q)] w fun e w' => e = .returned (.bool true) ∧ w = w' := by
  have h3 := h2.cut q (N - q) c5 (by omega) (by omega)
  rw [left_is M N r q hN hr hq] at h3
  have h := same_any A2 (if c5 = q then A5 else A5.map (·.add (q * 1))) (left M) (left M) c2 (c5 - q) _ _ w h1 h3
  have e1 : (left M).length = r := by rw [left_length, ← hN, hr]
  have e2 : N - q = r := by omega
  rw [e1] at h
  rw [e2]
  simpa using h
theorem flat_succ (ls : List (List UInt8)) (k : Nat) (h : k < ls.length) : (ls.take (k + 1)).flatten = (ls.take k).flatten ++ ls[k] := by
  rw [List.take_succ_eq_append_getElem h, List.flatten_append]
  simp

set_option maxRecDepth 100000 in
set_option maxHeartbeats 4000000 in
theorem shaPieces_walk (A : Option Addr) (ls : List (List UInt8)) (c : Nat) (W : World) (hc : ls.length ≤ c) (hm : Mat W W.heap.size A ls) (hk : Ks W) :
    Calls Tryd.prog 6 #[.slice A ls.length c] W fun e W' => e = .returned (.bool true) ∧ Below W.heap.size W W' := by
  have HMW := Lib.hid hm
  have HMW := Lib.hid hm
  have HMW := Lib.hid hm
  have HMW := Lib.hid hm
  have HMW := Lib.hid hm
  have HMW := Lib.hid hm
  have MB := Lib.hid (fun w (h : Below W.heap.size W w) => (hm.below h (Nat.le_refl _)).more h.size)
  have KB := Lib.hid (fun w (h : Below W.heap.size W w) => Ks.call hk h)
  have LC := Lib.hid (fun w (h : Mat w w.heap.size A ls) => long_any A ls c w h)
  obtain ⟨n, hn⟩ : ∃ n, n = ls.length := ⟨_, rfl⟩
  have HNN := Lib.hid hn
  rw [← hn] at hc LC ⊢
  clear hm hk hn
  go_enter Tryd.func6, Tryd.ntmps6
  go_wp2_with fail
  refine (shown_any _ (KB.out _ (Below.refl _ _))).mono ?_
  rintro e W1 ⟨rfl, hb1⟩
  have HB1 := Lib.hid hb1
  clear hb1
  go_wp2_with fail
  refine (LC.out _ (MB.out _ HB1.out)).mono ?_
  rintro e w1 ⟨⟨r, rfl, hr⟩, rfl⟩
  have HR := Lib.hid hr
  clear hr LC
  by_cases hbig : 1000 < r
  · go_wp2
    go_ret
    exact ⟨rfl, HB1.out⟩
  have htot : n + tot ls n ≤ 1000 := by have h := HR.out (by omega); rw [← HNN.out] at h; exact h
  clear HR
  go_wp2_with fail
  refine (new_any _).mono ?_
  rintro e W2 ⟨rfl, hb2⟩
  have HB2 := Lib.hid (HB1.out.trans (hb2.mono HB1.out.size))
  have z2 := HB2.out.size
  clear hb2 HB1
  dsimp only
  have q1 := heap_alloc_new W2 (.cells (hcells h0 0 (.slice none 0 0)) 36)
  have q2 : (W2.alloc (.cells (hcells h0 0 (.slice none 0 0)) 36)).heap.size = W2.heap.size + 1 := World.size_alloc _ _
  have q3 := HB2.out.alloc z2 (.cells (hcells h0 0 (.slice none 0 0)) 36)
  go_upto_region 6 with (fail)
  obtain ⟨g4, hg4⟩ : ∃ g, g = W2.heap.size := ⟨_, rfl⟩
  have p1 := old_alloc q1 (.cells #[] 5)
  have p2 := q3.alloc (show W.heap.size ≤ (W2.alloc (.cells (hcells h0 0 (.slice none 0 0)) 36)).heap.size by omega) (.cells #[] 5)
  have p3 := Ow.made0 (W2.alloc (.cells (hcells h0 0 (.slice none 0 0)) 36)) (base := g4 + 1) (by omega)
  change Code.wp _ _ _ _ ((W2.alloc (.cells (hcells h0 0 (.slice none 0 0)) 36)).alloc (.cells #[] 5))
  rw [q2] at p3
  generalize (W2.alloc (.cells (hcells h0 0 (.slice none 0 0)) 36)).alloc (.cells #[] 5) = V at *
  rw [← hg4] at p1 p3 z2 ⊢
  have P0 := Lib.hid (show Pcs W g4 ((ls.take 0).flatten) (.slice (some ⟨g4 + 1, 0, none⟩) 0 0) V from pcs_nil W g4 _ V p3 p1 p2)
  clear q1 q2 q3 p1 p2 p3 hg4 HB2
  go_wp2_with fail
  go_loopw [5, 6] (fun v i wr => ∃ k : Nat, k ≤ n ∧ i = .int .i64 k ∧ Pcs W g4 ((ls.take k).flatten) v wr) (fun _ i _ => n - (intOf i).toNat)
  case atStart => exact ⟨0, by omega, rfl, P0.out⟩
  case round =>
    clear P0
    obtain ⟨k, hk, rfl, Aa, ca, Ar, cr, rfl, ha1, ha2, hown, hrow, hr1, hr2, hrd, hbel⟩ := hrel
    obtain ⟨L, hL⟩ : ∃ L, L = (ls.take k).flatten := ⟨_, rfl⟩
    rw [← hL] at ha1 hown hrow hr1 hrd ⊢
    have hLt : L.length = tot ls k := by rw [hL, tot_flat]
    have hLm : L.length ≤ 1000 := by have h1 := tot_mono ls k (by rw [← HNN.out]; exact hk); rw [← HNN.out] at h1; omega
    obtain ⟨N, hN⟩ : ∃ N, N = L.length := ⟨_, rfl⟩
    obtain ⟨r, hr⟩ : ∃ r, r = (left L).length := ⟨_, rfl⟩
    obtain ⟨s0, hs0⟩ : ∃ s, s = blks h0 L := ⟨_, rfl⟩
    rw [← hN] at ha1 hown hrow hLt hLm ⊢
    rw [← hr] at hr1 hrow
    rw [← hs0] at hrow
    have HO := Lib.hid hown
    have HG := Lib.hid hrow
    have HRD := Lib.hid hrd
    have HB := Lib.hid hbel
    have zz := hbel.size
    have hglt : g4 < wr.heap.size := (Array.getElem?_eq_some_iff.1 hrow).1
    clear hown hrow hrd hbel
    by_cases hlt : k < n
    · have hkl : k < ls.length := by rw [← HNN.out]; exact hlt
      obtain ⟨b, o, rfl, hb, hrows⟩ := HMW.out (by omega)
      obtain ⟨A', c', hcell, hc1, hc2, hrd'⟩ := hrows k hkl
      obtain ⟨row, hrow⟩ : ∃ row, row = ls[k] := ⟨_, rfl⟩
      rw [← hrow] at hcell hc1 hrd'
      obtain ⟨M, hM⟩ : ∃ M, M = L ++ row := ⟨_, rfl⟩
      have HFL := Lib.hid (show (ls.take (k + 1)).flatten = M by rw [flat_succ ls k hkl, ← hL, ← hrow, hM])
      obtain ⟨m, hm⟩ : ∃ m, m = row.length := ⟨_, rfl⟩
      obtain ⟨N', hN'⟩ : ∃ N, N = M.length := ⟨_, rfl⟩
      obtain ⟨r', hr'⟩ : ∃ r, r = (left M).length := ⟨_, rfl⟩
      obtain ⟨s1, hs1⟩ : ∃ s, s = blks h0 M := ⟨_, rfl⟩
      have hNN' : N' = N + m := by rw [hN', hM, List.length_append, hN, hm]
      have hNm : N + m ≤ 1000 := by
        have h1 := tot_mono ls (k + 1) (by omega)
        have h2 := tot_succ ls k hkl
        rw [← hrow, ← hm] at h2
        rw [← HNN.out] at h1
        omega
      have hrm : r' = N' % 64 := by rw [hr', left_length, hN']
      rw [← hm] at hcell hc1
      have PC := Lib.hid (fun w h1 h2 h3 => put_piece L row M Ar A' cr c' N r m N' s0 hM hN hr hm hN' hs0 hNm hr1 hc1 w h1 h2 h3)
      rw [← hs1] at PC
      have HM := Lib.hid hm
      have HMM := Lib.hid hM
      have HN' := Lib.hid hN'
      have HR' := Lib.hid hr'
      have HS1 := Lib.hid hs1
      have HN := Lib.hid hN
      have CELL := Lib.hid (fun w (h : Below W.heap.size W w) => (h.cell (p := ⟨b, o + k, none⟩) hb).trans hcell)
      have ROW := Lib.hid (fun w (h : Below W.heap.size W w) => (hrd'.below h (Nat.le_refl _)).more h.size)
      have hbg : b ≠ g4 := by omega
      have HHG := Lib.hid (show g4 + 1 ≤ wr.heap.size from hglt)
      obtain ⟨e0, e1, e2, e3, e4, e5, e6, e7, e8, e9⟩ := cells10 (w := wr) HG.out
      have hcr := CELL.out _ HB.out
      have hk0 : (0 : Int) ≤ (k : Int) := Int.natCast_nonneg _
      have hki : (k : Int) < (n : Int) := by omega
      have HNN2 := Lib.hid hNN'
      have HRM := Lib.hid hrm
      clear hNN' hrm hrows hrow hM hm hN' hr' hs1 hrd' hkl hL hLt hs0 hr hN hcell hglt
      go_wp2_with fail
      go_still_tail 5, (by kernel_rfl)
      have HBd := Lib.hid HB.out.drew
      have HOd := Lib.hid HO.out.drew
      have HGd := Lib.hid (show wr.drew.heap[g4]? = _ from HG.out)
      have HRDd := Lib.hid (show Rd wr.drew wr.drew.heap.size Ar (left L) from HRD.out)
      have HHd := Lib.hid (show g4 + 1 ≤ wr.drew.heap.size from HHG.out)
      change wpList _ _ _ _ _ wr.drew
      generalize wr.drew = wd at *
      clear e0 e1 e2 e3 e4 e5 e6 e7 e8 e9 hcr HG HO HRD HB HHG
      go_wp2_with fail
      refine (PC.out _ HRDd.out (ROW.out _ HBd.out) (KB.out _ HBd.out)).mono ?_
      rintro e w2 ⟨⟨A2, c2, rfl, x1, x2, x3, x4⟩, hb2⟩
      rw [← HR'.out] at x1 ⊢
      have HG2 := Lib.hid (old_below HGd.out hb2 (Nat.le_refl _))
      have HO2 := Lib.hid (Ow.call HOd.out hb2)
      have BB2 := Lib.hid (bel_call HBd.out hb2 HBd.out.size)
      have hlt2 : g4 + 1 ≤ w2.heap.size := Nat.le_trans HHd.out hb2.size
      have NE2 := Lib.hid (show ∀ p, A2 = some p → p.block ≠ g4 from fun p hp => by have h1 := x4 p hp; have h2 := HHd.out; omega)
      have NO2 := Lib.hid (show ∀ p, A2 = some p → some p.block ≠ (Value.slice Aa N ca).ownBlock from fun p hp => by
        have h1 := x4 p hp
        obtain ⟨A9, c9, e9, -, -, -, h9⟩ := Ow.fresh HOd.out
        cases e9
        cases Aa with
        | none => intro h; cases h
        | some q =>
          have h8 := (h9 q rfl).2.1
          intro h
          have h7 : p.block = q.block := Option.some.inj h
          omega)
      have b3 := Below.setRow BB2.out (g := g4) z2 (hcells s1 (N' : Int) (.slice A2 r' c2))
      have o3 := Ow.setRow HO2.out (g := g4) (Nat.lt_succ_self _) (hcells s1 (N' : Int) (.slice A2 r' c2))
      have g3 := setRow_heap w2 g4 _ (hcells s1 (N' : Int) (.slice A2 r' c2)) _ _ HG2.out
      have r3 := Rd.setRow x3 (g := g4) (hcells s1 (N' : Int) (.slice A2 r' c2)) NE2.out
      have hz3 : g4 + 1 ≤ (w2.setRow g4 (hcells s1 (N' : Int) (.slice A2 r' c2))).heap.size := by rw [size_setRow]; exact hlt2
      have hc3 := CELL.out _ b3
      have HO3 := Lib.hid o3
      have HG3 := Lib.hid g3
      have HR3 := Lib.hid r3
      have HB3 := Lib.hid b3
      clear b3 o3 g3 r3 x3 x4 hb2 HO2 BB2 HGd HOd HRDd HHd NE2
      dsimp only
      go_wp2_with (first
        | (with_reducible refine at_list ?_; refine storeH w2 (.tmp 4) (.tmp 26) g4 s1 (N' : Int) A2 r' c2 _ HG2.out rfl rfl rfl rfl rfl ?_)
        | (at_builtin; refine wpList_appS _ rfl (.tmp 27) (.tmp 31) rfl (g4 + 1) _ L row rfl (by exact HO3.out) A' m c' _ rfl HM.out (by exact ROW.out _ HB3.out) (by have h1 := HN.out; have h2 := HM.out; omega) hz3 ?_; intro v5 w5 hown hgrow; rw [← HMM.out] at hown; obtain ⟨A5, c5, rfl, h51, h52, h53⟩ := ow_fresh hown HN'.out; have HO5 := Lib.hid hown; have HGR := Lib.hid hgrow; have HR5 := Lib.hid h53; clear hown hgrow h53))
      have B5 := Lib.hid (Ow.below (w0 := w2.setRow g4 (hcells s1 (N' : Int) (.slice A2 r' c2))) HO3.out (Below.refl _ _) HGR.out hz3)
      have HB5 := Lib.hid (HB3.out.trans (B5.out.mono (by omega)))
      have HG5 := Lib.hid ((B5.out.block g4 (Nat.lt_succ_self _)).trans HG3.out)
      have HX5 := Lib.hid (Rd.grown HR3.out HGR.out (Nat.le_refl _) NO2.out)
      obtain ⟨q, hq⟩ : ∃ q, q = N' - r' := ⟨_, rfl⟩
      have HQ := Lib.hid hq
      have hrN : r' ≤ N' ∧ r' < 64 := by have h1 := HRM.out; omega
      have hN1000 : N' ≤ 1000 := by have h1 := HNN2.out; omega
      have CSQ := Lib.hid (fun w (h : Below w5.heap.size w5 w) => same_rest M N' r' q HN'.out HRM.out hq A2 A5 c2 c5 h51 w ((HX5.out.below h (Nat.le_refl _)).more h.size) ((HR5.out.below h (Nat.le_refl _)).more h.size))
      have RR := Lib.hid (fun w => refRight_is s1 (N' : Int) A2 r' c2 w (by omega))
      rw [show rightB (N' : Int) r' = true by unfold rightB; have h1 := HRM.out; exact decide_eq_true (by omega)] at RR
      have B0 := Lib.hid ((Below.refl w5.heap.size w5).drew)
      have KEEP11 := Lib.hid (show ∀ w', Below w5.heap.size w5 w' → (Below w5.heap.size w5 w' ∧ w'.cell? ⟨g4, 0, none⟩ = some (wv s1.a) ∧ w'.cell? ⟨g4, 1, none⟩ = some (wv s1.b) ∧ w'.cell? ⟨g4, 2, none⟩ = some (wv s1.c) ∧ w'.cell? ⟨g4, 3, none⟩ = some (wv s1.d) ∧ w'.cell? ⟨g4, 4, none⟩ = some (wv s1.e) ∧ w'.cell? ⟨g4, 5, none⟩ = some (wv s1.f) ∧ w'.cell? ⟨g4, 6, none⟩ = some (wv s1.g) ∧ w'.cell? ⟨g4, 7, none⟩ = some (wv s1.h) ∧ w'.cell? ⟨g4, 8, none⟩ = some (.int .i64 (N' : Int)) ∧ w'.cell? ⟨g4, 9, none⟩ = some (.slice A2 r' c2)) from fun w' h => by
        obtain ⟨p0, p1, p2, p3, p4, p5, p6, p7, p8, p9⟩ := cells10 (old_below HG5.out h (Nat.le_refl _))
        exact ⟨h, p0, p1, p2, p3, p4, p5, p6, p7, p8, p9⟩)
      have i1 : ((N' : Int)).tmod 64 = (r' : Int) := by
        have h1 := HRM.out
        rw [Int.tmod_eq_emod_of_nonneg (by omega)]
        omega
      have i2 : (N' : Int) - (r' : Int) = (q : Int) := by omega
      have i3 : IntKind.i64.wrap (q : Int) = (q : Int) := IntWalk.i64_in _ (by omega)
      have i4 : IntKind.i64.wrap (r' : Int) = (r' : Int) := IntWalk.i64_in _ (by omega)
      have i5 : (0 : Int) ≤ (q : Int) := Int.natCast_nonneg _
      have i6 : (q : Int) ≤ (N' : Int) := by omega
      have i7 : (N' : Int) ≤ (c5 : Int) := by omega
      have i8 : ((N' : Int) != (N' : Int)) = false := by simp
      have i9 : (N' : Int) % 64 = (r' : Int) := by have h1 := HRM.out; omega
      clear HG2 HO3 HG3 HR3 HB3 NO2 hc3 hlt2 hz3 HGR B5 CELL ROW PC hq hki
      go_cut [56] (fun v wx => v = .bool false ∧ Below w5.heap.size w5 wx)
      case first =>
        by_cases hcq : c5 = q
        all_goals
          first
          | (subst hcq
             have CS2 := Lib.hid (fun w h => CSQ.out w h)
             rw [if_pos rfl, Nat.sub_self, show N' - c5 = 0 by omega] at CS2)
          | (have CS2 := Lib.hid (fun w h => CSQ.out w h)
             rw [if_neg hcq, Nat.mul_one] at CS2)
          clear CSQ
          go_region_held3 (fun w' => Below w5.heap.size w5 w' ∧ w'.cell? ⟨g4, 0, none⟩ = some (wv s1.a) ∧ w'.cell? ⟨g4, 1, none⟩ = some (wv s1.b) ∧ w'.cell? ⟨g4, 2, none⟩ = some (wv s1.c) ∧ w'.cell? ⟨g4, 3, none⟩ = some (wv s1.d) ∧ w'.cell? ⟨g4, 4, none⟩ = some (wv s1.e) ∧ w'.cell? ⟨g4, 5, none⟩ = some (wv s1.f) ∧ w'.cell? ⟨g4, 6, none⟩ = some (wv s1.g) ∧ w'.cell? ⟨g4, 7, none⟩ = some (wv s1.h) ∧ w'.cell? ⟨g4, 8, none⟩ = some (.int .i64 (N' : Int)) ∧ w'.cell? ⟨g4, 9, none⟩ = some (.slice A2 r' c2))
            (first | with_reducible exact KEEP11.out _ B0.out | with_reducible exact KEEP11.out _ BBa.out)
            (first
            | (go_at_call 21; (with_reducible refine (RR.out _).mono ?_); rintro e wa ⟨rfl, hb⟩; have BBa := Lib.hid (bel_call B0.out hb B0.out.size); clear hb)
            | (go_at_call 11; refine (CS2.out _ BBa.out).mono ?_; rintro e wa' ⟨rfl, rfl⟩))
          go_wp2_with fail
          go_meet
          case rel => exact ⟨rfl, BBa.out⟩
      case rest =>
        obtain ⟨rfl, hbx⟩ := hcut
        clear i1 i2 i3 i4 i5 i6 i7 i8 i9
        have PF := Lib.hid (Pcs.of (W := W) (g4 := g4) HN'.out HR'.out HS1.out h51 h52 (Ow.call HO5.out hbx) (old_below HG5.out hbx (Nat.le_refl _)) x1 x2 ((HX5.out.below hbx (Nat.le_refl _)).more hbx.size) (HB5.out.trans (hbx.mono HB5.out.size)))
        rw [← HFL.out] at PF
        clear hbx
        go_wp2
        go_roundw
        case rel => exact ⟨k + 1, by omega, by go_num, PF.out⟩
        case measure => simp [intOf]; omega
    · have hkn : k = n := by omega
      have HLM := Lib.hid (show ofF L = sumF s0 (left L) N from by rw [hs0, hN]; rfl)
      have SX := Lib.hid (fun w h1 h2 => sum_any s0 N Ar (left L) cr w (by rw [left_length]; omega) (by rw [← hr]; exact hr1) h1 h2 (by omega))
      have OX := Lib.hid (fun w h1 h2 => of_any Aa L ca w (by omega) (by rw [← hN]; exact ha1) h1 h2)
      have PX := Lib.hid (fun w h1 h2 => put_new Aa L ca w (by omega) (by rw [← hN]; exact ha1) h1 h2)
      rw [← HLM.out] at SX
      have hPL : (ofF L).length = 32 := ofF_length L
      generalize ofF L = P at *
      have CX := Lib.hid (same32 P hPL)
      rw [← hr] at SX
      rw [← hN] at OX
      rw [← hN, ← hs0] at PX
      have CS := Lib.hid (fun A' B' c' d' w => refSame_yes s0 (N : Int) (left L) r hr A' B' c' d' w)
      have HRL := Lib.hid hr
      obtain ⟨Aa', ca', e', hx1, hx2, hx3⟩ := ow_fresh HO.out hN
      have ROW := Lib.hid (show Rd wr wr.heap.size Aa L by cases e'; exact hx3)
      clear e' hx1 hx2 hx3 hs0 hN hLt hL hr hPL hkn MB
      go_wp2_with fail
      refine (new_any _).mono ?_
      rintro e w1 ⟨rfl, hb1⟩
      have HB1 := Lib.hid (bel_call HB.out hb1 zz)
      have HG1 := Lib.hid (old_below HG.out hb1 (Nat.le_refl _))
      have HR1 := Lib.hid ((HRD.out.below hb1 (Nat.le_refl _)).more hb1.size)
      have RW1 := Lib.hid ((ROW.out.below hb1 (Nat.le_refl _)).more hb1.size)
      clear hb1 HB HG HRD ROW HO hglt
      go_wp2_with fail
      refine (PX.out _ RW1.out (KB.out _ HB1.out)).mono ?_
      rintro e w2 ⟨⟨A7, c7, rfl, x1, x2, x3⟩, hb2⟩
      rw [← HRL.out] at x1 ⊢
      have b2 := bel_call HB1.out hb2 HB1.out.size
      have v1 := old_alloc (old_below HG1.out hb2 (Nat.le_refl _)) (.cells (hcells s0 (N : Int) (.slice A7 r c7)) 36)
      have v2 := heap_alloc_new w2 (.cells (hcells s0 (N : Int) (.slice A7 r c7)) 36)
      have v3 := b2.alloc b2.size (.cells (hcells s0 (N : Int) (.slice A7 r c7)) 36)
      have v4 := Rd.alloc x3 (.cells (hcells s0 (N : Int) (.slice A7 r c7)) 36)
      have v5 := Rd.alloc ((HR1.out.below hb2 (Nat.le_refl _)).more hb2.size) (.cells (hcells s0 (N : Int) (.slice A7 r c7)) 36)
      have v6 := Rd.alloc ((RW1.out.below hb2 (Nat.le_refl _)).more hb2.size) (.cells (hcells s0 (N : Int) (.slice A7 r c7)) 36)
      obtain ⟨g7, hg7⟩ : ∃ g, g = w2.heap.size := ⟨_, rfl⟩
      rw [← hg7] at v2
      have HG7 := Lib.hid hg7
      have V1 := Lib.hid v1
      have V2 := Lib.hid v2
      have V3 := Lib.hid v3
      have V4 := Lib.hid v4
      have V5 := Lib.hid v5
      have V6 := Lib.hid v6
      clear hb2 b2 v1 v2 v3 v4 v5 v6 hg7 x3 HB1 HG1 HR1 RW1 PX
      dsimp only
      go_upto_region 14 with (fail)
      change Code.wp _ _ _ _ (w2.alloc (.cells (hcells s0 (N : Int) (.slice A7 r c7)) 36))
      rw [← HG7.out]
      generalize w2.alloc (.cells (hcells s0 (N : Int) (.slice A7 r c7)) 36) = V7 at *
      clear HG7 HLM
      go_wp2_with (with_reducible refine at_list ?_; first | refine loadHg V7 (.tmp 4) g4 s0 (N : Int) (.slice Ar r cr) V1.out rfl rfl rfl ?_ | refine loadHg V7 (.tmp 7) g7 s0 (N : Int) (.slice A7 r c7) V2.out rfl rfl rfl ?_)
      refine (CS.out Ar A7 cr c7 _ V5.out V4.out).mono ?_
      rintro e wa ⟨rfl, hb⟩
      have Ba := Lib.hid (bel_call V3.out hb V3.out.size)
      have Ga := Lib.hid (old_below V1.out hb (Nat.le_refl _))
      have Ha := Lib.hid ((V5.out.below hb (Nat.le_refl _)).more hb.size)
      have Ra := Lib.hid ((V6.out.below hb (Nat.le_refl _)).more hb.size)
      clear hb V1 V2 V3 V4 V5 V6
      dsimp only
      go_wp2_with (with_reducible refine at_list ?_; refine loadHg wa (.tmp 4) g4 s0 (N : Int) (.slice Ar r cr) Ga.out rfl rfl rfl ?_)
      refine (SX.out _ Ha.out (KB.out _ Ba.out)).mono ?_
      rintro e wb ⟨⟨A3, c3, rfl, a1, a2, a3⟩, hb⟩
      have Bb := Lib.hid (bel_call Ba.out hb Ba.out.size)
      have Rb := Lib.hid ((Ra.out.below hb (Nat.le_refl _)).more hb.size)
      have Xb := Lib.hid a3
      clear hb a1 a2 a3 Ba Ga Ha Ra
      go_wp2_with fail
      refine (OX.out _ Rb.out (KB.out _ Bb.out)).mono ?_
      rintro e wd ⟨⟨A4, c4, rfl, a1, a2, a3⟩, hb⟩
      have Bd := Lib.hid (bel_call Bb.out hb Bb.out.size)
      have Rd' := Lib.hid ((Rb.out.below hb (Nat.le_refl _)).more hb.size)
      have Xd := Lib.hid ((Xb.out.below hb (Nat.le_refl _)).more hb.size)
      have Yd := Lib.hid a3
      clear hb a1 a2 a3 Bb Rb Xb
      go_wp2_with fail
      refine (CX.out A3 A4 c3 c4 _ Xd.out Yd.out).mono ?_
      rintro e w9 ⟨rfl, rfl⟩
      go_wp2_with fail
      refine (OX.out _ Rd'.out (KB.out _ Bd.out)).mono ?_
      rintro e wf ⟨⟨A6, c6, rfl, a1, a2, a3⟩, hb⟩
      have Bf := Lib.hid (bel_call Bd.out hb Bd.out.size)
      clear hb a1 a2 a3
      go_wp2
      go_ret
      exact ⟨rfl, Bf.out⟩
end Go.Proofs.YtggbcjfcnphenaaDoor
