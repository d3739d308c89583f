
/- The document's answers (iso): Drop. -/
import Derived.Test.YtpfjecjfooefoaaDoorJ03
namespace Go.Proofs.YtpfjecjfooefoaaDoor
open Go.RowKit

set_option maxRecDepth 100000 in
theorem wpList_appF {ops : Array Oper} {rest : List Oper} {o : Oper} {a : Act} {Q : Exit → Act → World → Prop} (w : World) (hw : Region.wanted o (yielded ops a.tmps) = true) (s x : Operand)
    (ho : o.op = .call { callee := .builtin .append, args := #[s, x], argTypes := #[22, 22] })
    (base : Nat) (v : Value) (us : List V2f) (hs : a.eval s = v) (h : OwF w base v us) (b c : Nat) (hx : a.eval x = .slice (some ⟨b, 0, none⟩) 1 c) (z : Int) (A : Option Addr) (n k : Nat)
    (hb0 : w.cell? ⟨b, 0, none⟩ = some (.int .i64 z)) (hb1 : w.cell? ⟨b, 1, none⟩ = some (.slice A n k)) (hlen : us.length ≤ 1000000) (hbase : base ≤ w.heap.size)
    (hK : ∀ v' w', OwF w' base v' (us ++ [(.int .i64 z, .slice A n k)]) → w.grownBy w' v.ownBlock → wpList Tryd.prog ops Q rest (a.put o.dst v') w') : wpList Tryd.prog ops Q (o :: rest) a w := by
  obtain ⟨v', w', hr, h2, h3⟩ := run_appF o.type w base v us h b c z A n k hb0 hb1 hlen hbase
  refine BigFrame.wpList_want hw fun _ hK' => ?_
  unfold Oper.wp execOp
  simp only [ho, resolve, invoke, builtin, Sem.run_bind, Sem.run_pure, Result.andThen_ok, List.map_toArray, List.map_cons, List.map_nil, hs, hx, hr]
  exact hK' _ _ (hK v' w' h2 h3)
set_option maxRecDepth 100000 in
theorem OwF.below {w0 w w' : World} {base : Nat} {v : Value} {us : List V2f} (h : OwF w base v us) (hb : Below base w0 w) (hg : w.grownBy w' v.ownBlock) (hB : base ≤ w.heap.size) : Below base w0 w' :=
  hb.grown hg hB (fun k hk => (World.ownsRow.lt h.owns k hk).1)
set_option maxRecDepth 100000 in
/-- bytes and own rows, where one block alone changes, in which no byte lies -/
theorem Rd.keepM {w w' : World} {g : Nat} {A : Option Addr} {l : List UInt8} {cur : Array Value} {t : TypeId} {fr : Nat × Nat} (h : Rd w w.heap.size A l) (hg : w.heap[g]? = some (.cells cur t fr)) (hn : ∀ x ∈ cur.toList, NoB x = true) (hk : ∀ k, k ≠ g → w'.heap[k]? = w.heap[k]?) (hs : w.heap.size ≤ w'.heap.size) : Rd w' w'.heap.size A l := by
  intro h0
  obtain ⟨b, o, rfl, hb, hc⟩ := h h0
  have hne := Rd.notF (w := w) (B := w.heap.size) (A := some ⟨b, o, none⟩) (l := l) (fun _ => ⟨b, o, rfl, hb, hc⟩) hg hn h0 ⟨b, o, none⟩ rfl
  exact ⟨b, o, rfl, by omega, fun j hj => by rw [World.cell?_of_block (w := w) (a := ⟨b, o + j, none⟩) (hk b hne)]; exact hc j hj⟩
set_option maxRecDepth 100000 in
theorem OwF.keepM {w w' : World} {base g : Nat} {v : Value} {us : List V2f} (h : OwF w base v us) (hg : g < base) (hk : ∀ k, k ≠ g → w'.heap[k]? = w.heap[k]?) : OwF w' base v us := by
  rcases h with h | ⟨g', cap, cur, h0, h1, h2, h3⟩
  · exact .inl h
  · exact .inr ⟨g', cap, cur, h0, h1, (hk g' (by omega)).trans h2, h3⟩
def set2G (w : World) (g : Nat) (x y : Value) : World := (w.setCell ⟨g, 0, none⟩ x).setCell ⟨g, 1, none⟩ y
set_option maxRecDepth 100000 in
theorem set2G_same {w : World} {g : Nat} {t : TypeId} {a b : Value} (x y : Value) (h : w.heap[g]? = some (.cells #[a, b] t (0, 0))) : (set2G w g x y).heap[g]? = some (.cells #[x, y] t (0, 0)) := by
  have h0 := heap_setCell_same w g 0 _ t x h
  have h1 := heap_setCell_same _ g 1 _ t y h0
  unfold set2G
  rw [h1]
  simp only [List.setIfInBounds_toArray, List.set_cons_zero, List.set_cons_succ]
set_option maxRecDepth 100000 in
theorem set2G_other (w : World) (g k : Nat) (x y : Value) (h : k ≠ g) : (set2G w g x y).heap[k]? = w.heap[k]? := by
  unfold set2G
  rw [heap_setCell_other _ _ _ _ h, heap_setCell_other _ _ _ _ h]
set_option maxRecDepth 100000 in
theorem set2G_size (w : World) (g : Nat) (x y : Value) : (set2G w g x y).heap.size = w.heap.size := by simp [set2G, World.setCell]
set_option maxRecDepth 100000 in
theorem Below.set2G {B : Nat} {a w : World} (h : Below B a w) {g : Nat} (hg : B ≤ g) (x y : Value) : Below B a (set2G w g x y) :=
  (h.setCell (p := ⟨g, 0, none⟩) hg _).setCell (p := ⟨g, 1, none⟩) hg _
set_option maxRecDepth 100000 in
theorem retM {fn : Func} {p : Tmp} (h : fn.results = #[.cell p 24]) (tmps : Array Value) (W : World) (g : Nat) (x y : Value) (hp : tmps.getD p undef = .pointer (some ⟨g, 0, none⟩)) (hg : W.heap[g]? = some (.cells #[x, y] 24 (0, 0))) :
    (results fn tmps).run Tryd.prog W = .ok (.agg #[x, y]) W :=
  results_cell_row h tmps W g 24 #[x, y] (0, 0) _ hp hg Tryd.underlying24 rfl (by kernel_rfl)
/-- an answer: a message -/
def AnsM (W' : World) (e : Ending) (t : Int) (l : List Fl) : Prop := ∃ A c, e = .returned (.agg #[.int .i64 t, .slice A l.length c]) ∧ l.length ≤ c ∧ c ≤ 9223372036854775807 ∧ RdF W' W'.heap.size A l
set_option maxRecDepth 100000 in
theorem filter_next (p : Fl → Bool) (l : List Fl) (k : Nat) (hk : k < l.length) : (l.take (k + 1)).filter p = (l.take k).filter p ++ (if p l[k] = true then [l[k]] else []) := by
  rw [List.take_succ_eq_append_getElem hk, List.filter_append]
  congr 1
  by_cases h : p l[k] = true
  · rw [if_pos h, List.filter_cons_of_pos h, List.filter_nil]
  · rw [if_neg h, List.filter_cons_of_neg h, List.filter_nil]
def dropF (l : List Fl) (no : Int) : List Fl := l.filter fun x => decide (x.1 ≠ no)

set_option maxRecDepth 100000 in
set_option maxHeartbeats 4000000 in
theorem refDrop_any (t : Int) (A : Option Addr) (l : List Fl) (c : Nat) (no : Int) (W : World) (hl : l.length ≤ 1000) (_hc : l.length ≤ c) (_hcm : c ≤ 9223372036854775807) (hr : RdF W W.heap.size A l) :
    Calls Tryd.prog 33 #[.agg #[.int .i64 t, .slice A l.length c], .int .i64 no] W fun e W' => AnsM W' e t (dropF l no) ∧ Below W.heap.size W W' := by
  obtain ⟨R, hR⟩ : ∃ R, R = dropF l no := ⟨_, rfl⟩
  rw [← hR]
  have HR := Lib.hid (show R = l.filter fun x => decide (x.1 ≠ no) from hR)
  obtain ⟨n, hn⟩ : ∃ n, n = l.length := ⟨_, rfl⟩
  have HN := Lib.hid hn
  rw [← hn] at hl ⊢
  obtain ⟨V, hV, hb, g1, g2⟩ := box2 W #[.int .i64 t, .slice A n c] #[.int .i64 0, .slice none 0 0] 24 24
  have HG1 := Lib.hid g1
  have HG2 := Lib.hid g2
  have HB := Lib.hid hb
  have HV := Lib.hid hV
  have RF := Lib.hid ((hr.below hb (Nat.le_refl _)).more hb.size)
  have HG2S := Lib.hid (show W.heap.size + 1 < V.heap.size from (Array.getElem?_eq_some_iff.1 g2).1)
  clear hR hn hV hb g1 g2 hr _hc _hcm
  go_enter Tryd.func33, Tryd.ntmps33
  go_wp2
  rw [← HV.out]
  clear HV
  go_loopw [6, 5] (fun i v wr => ∃ k : Nat, ∃ us : List V2f, k ≤ n ∧ i = .int .i64 k ∧ Hid (OwF wr V.heap.size v us) ∧ Hid (FEs wr us ((l.take k).filter fun x => decide (x.1 ≠ no))) ∧ Hid (us.length ≤ k) ∧ Hid (Below V.heap.size V wr)) (fun i _ _ => n - (intOf i).toNat)
  case atStart => exact ⟨0, [], Nat.zero_le _, rfl, Lib.hid OwF.nil, Lib.hid (by rw [List.take_zero]; exact FEs.nil), Lib.hid (Nat.le_refl _), Lib.hid (Below.refl _ _)⟩
  case round =>
    obtain ⟨k, us, hk, rfl, HO, HF, HU, HBV⟩ := hrel
    obtain ⟨e0, e1⟩ := cG2 (oldG HG1.out HBV.out (Nat.le_refl _))
    by_cases hlt : k < n
    · have hk1 : k < l.length := by rw [← HN.out]; exact hlt
      obtain ⟨b1, o1, A1, c1, rfl, hb1, x1, y1, h13, h14, h15⟩ := RdF.at_ ((RF.out.below HBV.out (Nat.le_refl _)).more HBV.out.size) hk1
      have HFN := Lib.hid (filter_next (fun x => decide (x.1 ≠ no)) l k hk1)
      have HFE := Lib.hid (show FE wr wr.heap.size (.int .i64 l[k].1, .slice A1 l[k].2.length c1) l[k] from ⟨A1, c1, rfl, h13, h14, h15⟩)
      have hki : (k : Int) < (n : Int) := by omega
      have hk0 : (0 : Int) ≤ (k : Int) := Int.natCast_nonneg _
      obtain ⟨xk, hxk⟩ : ∃ x, x = l[k].1 := ⟨_, rfl⟩
      have HXK := Lib.hid hxk
      rw [← hxk] at x1 HFE
      generalize l[k].2.length = z1 at *
      clear hxk h13 h14 h15 hb1
      by_cases hno : xk = no
      · have HFN2 := Lib.hid (show (l.take (k + 1)).filter (fun x => decide (x.1 ≠ no)) = (l.take k).filter (fun x => decide (x.1 ≠ no)) by rw [HFN.out, if_neg (by rw [← HXK.out]; simp [hno]), List.append_nil])
        have d1 : (xk != no) = false := by simp [hno]
        clear hno HFN HFE HXK
        go_wp2
        go_roundw
        case rel => exact ⟨k + 1, us, by omega, by go_num, HO, Lib.hid (by rw [HFN2.out]; exact HF.out), Lib.hid (Nat.le_succ_of_le HU.out), HBV⟩
        case measure => simp [intOf]; omega
      · have HFN2 := Lib.hid (show (l.take (k + 1)).filter (fun x => decide (x.1 ≠ no)) = (l.take k).filter (fun x => decide (x.1 ≠ no)) ++ [l[k]] by rw [HFN.out, if_pos (by rw [← HXK.out]; simp [hno])])
        have d1 : (xk != no) = true := by rw [bne_iff_ne]; exact hno
        have HU9 := Lib.hid (show us.length ≤ 1000000 from Nat.le_trans HU.out (by omega))
        clear hno HFN HXK
        go_wp2_with (at_builtin; refine wpList_appF _ rfl (.tmp 22) (.tmp 28) rfl V.heap.size _ us rfl (by exact HO.out.alloc _) wr.heap.size 1 rfl xk A1 z1 c1 (by exact (cG2 (heap_alloc_new wr _)).1) (by exact (cG2 (heap_alloc_new wr _)).2) HU9.out (by exact le_alloc HBV.out.size _) ?_; intro v3 w3 hown3 hgrow3; have hb3 := OwF.below (w0 := V) (by exact HO.out.alloc _) (by exact HBV.out.alloc HBV.out.size _) hgrow3 (by exact le_alloc HBV.out.size _); have HB3 := Lib.hid hb3; have hal := (Below.refl wr.heap.size wr).alloc (Nat.le_refl _) (.cells #[.int .i64 xk, .slice A1 z1 c1] 60); have HF3 := Lib.hid (((HF.out.snoc HFE.out).go hal).keep (fun _ _ hr => Rd.grownF hr (HO.out.alloc _) hgrow3)); have HO3 := Lib.hid hown3; clear hown3 hgrow3 hb3 hal)
        go_roundw
        case rel => exact ⟨k + 1, _, by omega, by go_num, HO3, Lib.hid (by rw [HFN2.out]; exact HF3.out), Lib.hid (by rw [List.length_append]; have := HU.out; show us.length + 1 ≤ k + 1; omega), HB3⟩
        case measure => simp [intOf]; omega
    · have hki : ¬ (k : Int) < (n : Int) := by omega
      have HRT := Lib.hid (show (l.take k).filter (fun x => decide (x.1 ≠ no)) = R by rw [HR.out, List.take_of_length_le (by have := HN.out; omega)])
      obtain ⟨A9, c9, e9, q1, q2⟩ := HO.out.form
      subst e9
      have hg4 := oldG HG2.out HBV.out (Nat.le_refl _)
      obtain ⟨y0, y1⟩ := cG2 hg4
      have z0 := fG hg4 0
      have z1 := fG hg4 1
      have HG4 := Lib.hid hg4
      clear hg4
      obtain ⟨s, hs⟩ : ∃ s, s = W.heap.size + 1 := ⟨_, rfl⟩
      go_wp2
      (try simp only [Exit.inBlock, Exit.then])
      refine bodyPost_ret (retM rfl _ (set2G wr (W.heap.size + 1) (.int .i64 t) (.slice A9 us.length c9)) (W.heap.size + 1) _ _ rfl (set2G_same _ _ HG4.out)) rfl ?_
      have hnb : ∀ x ∈ (#[.int .i64 0, .slice none 0 0] : Array Value).toList, NoB x = true := by
        intro x hx
        simp at hx
        rcases hx with rfl | rfl <;> rfl
      have hoth := fun k hk => set2G_other wr (W.heap.size + 1) k (.int .i64 t) (.slice A9 us.length c9) hk
      have hsz := set2G_size wr (W.heap.size + 1) (.int .i64 t) (.slice A9 us.length c9)
      have hO2 := OwF.keepM HO.out HG2S.out hoth
      have hF2 := FEs.keep HF.out (fun A l hr => Rd.keepM hr HG4.out hnb hoth (by omega))
      rw [HRT.out] at hF2
      refine ⟨⟨A9, c9, by rw [← hF2.1], by rw [← hF2.1]; exact q1, q2, hO2.rd hF2⟩, ?_⟩
      exact Below.set2G (belG HB.out HBV.out HB.out.size) (by omega) _ _
end Go.Proofs.YtpfjecjfooefoaaDoor
/- dig.Digits, dig.Big -/

namespace Go.Proofs.YtpfjecjfooefoaaDoor
open Go.RowKit

/-- the figure (of base b, sign z is nought's) at the place p of w places -/
def dgAt (z b n w p : Nat) : UInt8 := UInt8.ofNat (z + n / b ^ (w - 1 - p) % b)
def dgL (z b n w : Nat) : List UInt8 := (List.range w).map (dgAt z b n w)
set_option maxRecDepth 100000 in
theorem dgL_length (z b n w : Nat) : (dgL z b n w).length = w := by simp [dgL]
set_option maxRecDepth 100000 in
theorem dgL_get (z b n w p : Nat) (h : p < (dgL z b n w).length) : (dgL z b n w)[p] = dgAt z b n w p := by simp [dgL]
set_option maxRecDepth 100000 in
theorem dgAt_nat (z b n w p : Nat) (hb : 0 < b) (h : z + b ≤ 256) : (dgAt z b n w p).toNat = z + n / b ^ (w - 1 - p) % b := by
  have := Nat.mod_lt (n / b ^ (w - 1 - p)) hb
  rw [dgAt, UInt8.toNat_ofNat', Nat.mod_eq_of_lt (by omega)]

set_option maxRecDepth 100000 in
theorem idx_dec (q : Int) (h0 : 0 ≤ q) (h1 : q < 10) (W : World) : (Instr.index 9 (.string ⟨#[48, 49, 50, 51, 52, 53, 54, 55, 56, 57, 97, 98, 99, 100, 101, 102]⟩) (.int .i64 q)).run Tryd.prog W = .ok (.int .u8 (48 + q)) W := by
  obtain ⟨j, rfl⟩ := Int.eq_ofNat_of_zero_le h0
  match j, h1 with
  | 0, _ => rfl | 1, _ => rfl | 2, _ => rfl | 3, _ => rfl | 4, _ => rfl | 5, _ => rfl | 6, _ => rfl | 7, _ => rfl
  | 8, _ => rfl | 9, _ => rfl
  | j + 10, h => exact absurd h (by omega)

set_option maxRecDepth 100000 in
theorem digits_bad (n w : Int) (W : World) (h : w < 1 ∨ 18 < w ∨ n < 0) :
    Calls Tryd.prog 35 #[.int .i64 n, .int .i64 w] W fun e W' => e = .returned (.tuple #[.string ⟨#[]⟩, .int .i64 1]) ∧ Below W.heap.size W W' := by
  by_cases h1 : w < 1
  · go_enter Tryd.func35, Tryd.ntmps35
    go_wp2
    go_ret2
    exact ⟨rfl, Below.refl _ _⟩
  · by_cases h2 : 18 < w
    · go_enter Tryd.func35, Tryd.ntmps35
      go_wp2
      go_ret2
      exact ⟨rfl, Below.refl _ _⟩
    · have h3 : n < 0 := by omega
      go_enter Tryd.func35, Tryd.ntmps35
      go_wp2
      go_ret2
      exact ⟨rfl, Below.refl _ _⟩

def rowD (z b n w m p : Nat) : Value := if p < m then .int .u8 0 else .int .u8 ((dgAt z b n w p).toNat : Int)
set_option maxRecDepth 100000 in
theorem rowD_step (z b n w m p : Nat) (v : Int) (hv : v = ((dgAt z b n w m).toNat : Int)) : (if p = m then Value.int .u8 v else rowD z b n w (m + 1) p) = rowD z b n w m p := by
  unfold rowD
  by_cases h : p = m
  · subst h; simp [hv]
  · rw [if_neg h]
    by_cases h2 : p < m
    · rw [if_pos h2, if_pos (by omega)]
    · rw [if_neg h2, if_neg (by omega)]

def digitsV (n w : Nat) : Value := if n < 10 ^ w then .tuple #[.string ⟨(dgL 48 10 n w).toArray⟩, .int .i64 0] else .tuple #[.string ⟨#[]⟩, .int .i64 1]

set_option maxRecDepth 100000 in
theorem digits_any (n w : Nat) (W : World) (h1 : 1 ≤ w) (h2 : w ≤ 18) (hn : n ≤ 9223372036854775807) :
    Calls Tryd.prog 35 #[.int .i64 n, .int .i64 w] W fun e W' => e = .returned (digitsV n w) ∧ Below W.heap.size W W' := by
  have hmk := run_make_row' (P := Tryd.prog) 27 5 (.int .u8 0) 1 Tryd.underlying27 info5 rfl .i64 .i64 w (by omega) (by omega)
  go_enter Tryd.func35, Tryd.ntmps35
  go_wp2
  have hrow := World.rowIs_made W (.int .u8 0) w 5
  have hbel : Below W.heap.size W (W.alloc (.cells (madeCells #[.int .u8 0] w) 5)) := (Below.refl _ _).alloc (Nat.le_refl _) _
  clear hmk
  go_loopw [0, 7] (fun q i wr => ∃ (m : Nat) (t : Nat), m ≤ w ∧ i = .int .i64 ((m : Int) - 1) ∧ q = .int .i64 t ∧ Hid (t = n / 10 ^ (w - m)) ∧ t ≤ 9223372036854775807 ∧ wr.rowIs W.heap.size 5 w (rowD 48 10 n w m) ∧ Below W.heap.size W wr) (fun _ i _ => (intOf i + 1).toNat)
  case atStart => exact ⟨w, n, Nat.le_refl _, rfl, rfl, Lib.hid (by simp), hn, hrow.congr (fun i hi => by unfold rowD; rw [if_pos hi]), hbel⟩
  case round =>
    obtain ⟨m, t, hm, rfl, rfl, ht, htb, hr, hb⟩ := hrel
    clear hrow hbel
    by_cases hlt : 1 ≤ m
    · obtain ⟨m, rfl⟩ : ∃ k, m = k + 1 := ⟨m - 1, by omega⟩
      have hmod := Int.emod_nonneg (t : Int) (show (10 : Int) ≠ 0 by omega)
      have hmod2 := Int.emod_lt_of_pos (t : Int) (show (0 : Int) < 10 by omega)
      have hix := idx_dec ((t : Int) % 10) hmod hmod2
      have hc := hr.cell (i := m) (by omega)
      have hf := hr.frozen m
      have e : ((m + 1 : Nat) : Int) - 1 = (m : Int) := by omega
      rw [e]
      have HR := Lib.hid hr
      have HB := Lib.hid hb
      clear hr hb e hmod hmod2
      go_wp2
      go_roundw
      case rel =>
        refine ⟨m, t / 10, by omega, rfl, by go_num, Lib.hid ?_, by omega, (HR.out.set m _).congr (fun p hp => ?_), HB.out.setCell (Nat.le_refl _) _⟩
        · rw [ht.out, Nat.div_div_eq_div_mul, ← Nat.pow_succ, show (w - (m + 1)).succ = w - m from by omega]
        · exact rowD_step 48 10 n w m p _ (by
            rw [dgAt_nat 48 10 n w m (by omega) (by omega), show w - 1 - m = w - (m + 1) from by omega, ← ht.out]
            omega)
      case measure => simp [intOf]
    · obtain rfl : m = 0 := by omega
      have e : t = n / 10 ^ w := by rw [ht.out, Nat.sub_zero]
      by_cases h0 : n < 10 ^ w
      · have ht0 : t = 0 := by rw [e]; exact Nat.div_eq_of_lt h0
        have hV : digitsV n w = .tuple #[.string ⟨(dgL 48 10 n w).toArray⟩, .int .i64 0] := by rw [digitsV, if_pos h0]
        have hsl := Sl.row (l := dgL 48 10 n w) hr (dgL_length _ _ _ _) (by omega) (fun j hj => by rw [dgL_get]; unfold rowD; rw [if_neg (by omega)])
        obtain ⟨A, c, hA, _, _, hrd⟩ := hsl
        have hst := run_str (P := Tryd.prog) hrd c _ _ _ Tryd.underlying27 Tryd.underlying5 Tryd.underlying9
        rw [← hA] at hst
        have HV := Lib.hid hV
        have HB := Lib.hid hb
        subst ht0
        clear hV hb hr e ht htb hA hrd h0
        go_wp2
        go_ret2
        exact ⟨by rw [HV.out]; rfl, HB.out⟩
      · have ht0 : 1 ≤ t := by
          rw [e]
          exact (Nat.one_le_div_iff (Nat.pow_pos (by omega))).2 (by omega)
        have hV : digitsV n w = .tuple #[.string ⟨#[]⟩, .int .i64 1] := by rw [digitsV, if_neg h0]
        have HV := Lib.hid hV
        have HB := Lib.hid hb
        clear hV hb hr e ht h0
        go_wp2
        go_ret2
        exact ⟨by rw [HV.out]; rfl, HB.out⟩

/-- what Big answers: the bytes, or none -/
def BigR (n w : Nat) (W' : World) (e : Ending) : Prop :=
  if n < 256 ^ w then ∃ v, e = .returned (.tuple #[v, .int .i64 0]) ∧ Sl W' v (dgL 0 256 n w) else e = .returned (.tuple #[.slice none 0 0, .int .i64 1])

end Go.Proofs.YtpfjecjfooefoaaDoor
/- dig.TakeBig -/

namespace Go.Proofs.YtpfjecjfooefoaaDoor
open Go.RowKit

def numL (l : List UInt8) : Nat := l.foldl (fun n c => 256 * n + c.toNat) 0
set_option maxRecDepth 100000 in
theorem numL_snoc (l : List UInt8) (c : UInt8) : numL (l ++ [c]) = 256 * numL l + c.toNat := by simp [numL]
set_option maxRecDepth 100000 in
theorem numL_lt (l : List UInt8) : numL l < 256 ^ l.length := by
  induction l using snoc_ind with
  | h0 => simp [numL]
  | h1 l a ih =>
    have := a.toNat_lt
    rw [numL_snoc, List.length_append, List.length_cons, List.length_nil, Nat.pow_add]
    omega

def takeBigV (l : List UInt8) (p w : Nat) : Value :=
  if numL ((l.drop p).take w) ≤ 9223372036854775807 then .tuple #[.int .i64 (numL ((l.drop p).take w)), .int .i64 ((p : Int) + w), .int .i64 0] else .tuple #[.int .i64 0, .int .i64 0, .int .i64 2]

set_option maxRecDepth 100000 in
theorem or_byte (n x : Nat) (hn : n < 72057594037927936) (hx : x < 256) : bits BinOp.or IntKind.u64 ((n : Int) * 256) (x : Int) = ((256 * n + x : Nat) : Int) := by
  have h := bits_or_u64_nat (n * 256) x (by omega) (by omega)
  have e : n * 256 ||| x = n * 256 + x := by
    have := Nat.shiftLeft_add_eq_or_of_lt (show x < 2 ^ 8 by omega) n
    rw [Nat.shiftLeft_eq] at this
    exact this.symm
  rw [e] at h
  rw [show ((256 * n + x : Nat) : Int) = ((n * 256 + x : Nat) : Int) by omega, ← h]
  congr 1

end Go.Proofs.YtpfjecjfooefoaaDoor
