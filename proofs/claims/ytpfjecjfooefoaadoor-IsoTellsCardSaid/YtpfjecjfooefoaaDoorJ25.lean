
/- The document's answers (iso): Read. -/
import Derived.Test.YtpfjecjfooefoaaDoorJ15
import Derived.Test.YtpfjecjfooefoaaDoorJ23
import Derived.Test.YtpfjecjfooefoaaDoorJ24
import Derived.Deep.RegionLaw
import Derived.BigRegion
namespace Go.Proofs.YtpfjecjfooefoaaDoor
open Go.RowKit

def rdN (b : List UInt8) : Nat := (valR (tbS b 0 4).1).1
set_option maxRecDepth 100000 in
theorem valR_le (l : List UInt8) : (valR l).1 ≤ 1000000000000000000 := by
  unfold valR
  split
  · rename_i h
    have h1 := val_lt l h.2.2
    have h2 : 10 ^ l.length ≤ 10 ^ 18 := Nat.pow_le_pow_right (by decide) h.2.1
    show val l ≤ _
    omega
  · exact Nat.zero_le _
/-- k values read one behind the other, and the place behind them -/
def rdS (b : List UInt8) (l : List Int) (a : Int) : Nat → List Fl × Int
  | 0 => ([], a)
  | k + 1 => ((rdS b l a k).1 ++ [(l.getD k 0, (readF (l.getD k 0) b (rdS b l a k).2).1)], (readF (l.getD k 0) b (rdS b l a k).2).2.1)
/-- what the value k's reading says -/
def rdX (b : List UInt8) (l : List Int) (a : Int) (k : Nat) : Int := (readF (l.getD k 0) b (rdS b l a k).2).2.2
def rdQ (b : List UInt8) (l : List Int) (a : Int) : Int := (((List.range l.length).map (rdX b l a)).find? (fun x => decide (x ≠ 0))).getD 0
set_option maxRecDepth 100000 in
theorem rdS_length (b : List UInt8) (l : List Int) (a : Int) : ∀ k, (rdS b l a k).1.length = k
  | 0 => rfl
  | k + 1 => by show ((rdS b l a k).1 ++ [_]).length = _; rw [List.length_append, rdS_length b l a k]; rfl
set_option maxRecDepth 100000 in
theorem rdQ_at {b : List UInt8} {l : List Int} {a : Int} {k : Nat} (hk : k < l.length) (h0 : ∀ j, j < k → rdX b l a j = 0) (h1 : rdX b l a k ≠ 0) : rdQ b l a = rdX b l a k := by
  unfold rdQ
  have h : (List.range l.length).find? ((fun x => decide (x ≠ 0)) ∘ rdX b l a) = some k := by
    rw [List.find?_range_eq_some]
    refine ⟨by simpa using h1, by simpa using hk, fun j hj => by simp [h0 j hj]⟩
  rw [List.find?_map, h]
  rfl
set_option maxRecDepth 100000 in
theorem rdQ_none {b : List UInt8} {l : List Int} {a : Int} (h0 : ∀ j, j < l.length → rdX b l a j = 0) : rdQ b l a = 0 := by
  unfold rdQ
  have h : ((List.range l.length).map (rdX b l a)).find? (fun x => decide (x ≠ 0)) = none := by
    rw [List.find?_eq_none]
    intro x hx
    obtain ⟨j, hj, rfl⟩ := List.mem_map.1 hx
    simp [h0 j (List.mem_range.1 hj)]
  rw [h]
  rfl
def readMg (b : List UInt8) : Int × List Fl × Int :=
  if b.length < 2 then (0, [], 3)
  else if ¬ ((tbS b 0 4).2.2 = 0 ∧ typeF (rdN b : Int) = true) then (0, [], 2)
  else if (readM b 2).2.2 ≠ 0 then (0, [], (readM b 2).2.2)
  else if ¬ ∀ x ∈ (readM b 2).1, fk x ≠ 0 then (0, [], 2)
  else if rdQ b (readM b 2).1 (readM b 2).2.1 ≠ 0 then (0, [], rdQ b (readM b 2).1 (readM b 2).2.1)
  else if (rdS b (readM b 2).1 (readM b 2).2.1 (readM b 2).1.length).2 < (b.length : Int) then (0, [], 4)
  else ((rdN b : Int), (rdS b (readM b 2).1 (readM b 2).2.1 (readM b 2).1.length).1, 0)
set_option maxRecDepth 100000 in
theorem tbS_short (b : List UInt8) : (tbS b 0 4).1.length ≤ 10 := by
  unfold tbS
  split
  · simp
  · split
    · simp
    · split
      · rename_i h1 h2 h3
        rw [List.length_drop]
        refine Nat.le_trans (Nat.sub_le _ _) ?_
        rw [hx_length, List.length_take, List.length_drop]
        simp only [show ((4 : Int).toNat + 1) / 2 = 2 from rfl]
        omega
      · simp
set_option maxRecDepth 100000 in
theorem step_appF {ops : Array Oper} {o : Oper} {a : Act} {K : Act → World → Prop} {Q : Exit → Act → World → Prop} {E : Prop} (hgd : o.guard = none) (w : World) (s x : Operand)
    (ho : o.op = .call { callee := .builtin .append, args := #[s, x], argTypes := #[22, 22] })
    (base : Nat) (v : Value) (us : List V2f) (hs : a.eval s = v) (h : OwF w base v us) (b c : Nat) (hx : a.eval x = .slice (some ⟨b, 0, none⟩) 1 c) (z : Int) (A : Option Addr) (n k : Nat)
    (hb0 : w.cell? ⟨b, 0, none⟩ = some (.int .i64 z)) (hb1 : w.cell? ⟨b, 1, none⟩ = some (.slice A n k)) (hlen : us.length ≤ 1000000) (hbase : base ≤ w.heap.size)
    (hK : ∀ v' w', OwF w' base v' (us ++ [(.int .i64 z, .slice A n k)]) → w.grownBy w' v.ownBlock → K (a.put o.dst v') w') :
    if Region.wanted o (yielded ops a.tmps) = true then Oper.wp Tryd.prog o a w K Q else E := by
  have hw : Region.wanted o (yielded ops a.tmps) = true := by simp [Region.wanted, hgd]
  rw [if_pos hw]
  obtain ⟨v', w', hr, h2, h3⟩ := run_appF o.type w base v us h b c z A n k hb0 hb1 hlen hbase
  unfold Oper.wp execOp
  simp only [ho, resolve, invoke, builtin, Sem.run_bind, Sem.run_pure, Result.andThen_ok, List.map_toArray, List.map_cons, List.map_nil, hs, hx, hr]
  exact hK v' w' h2 h3
set_option maxRecDepth 100000 in
/-- a message's block, and its row: the row grown, and laid down in the block -/
theorem msg_put {w2 wa w3 wr : World} {N : Int} {vF v3 : Value} {us us' : List V2f} {fs : List Fl} (hm : w2.heap[wr.heap.size]? = some (.cells #[.int .i64 N, vF] 24 (0, 0))) (ho : OwF w2 (wr.heap.size + 1) vF us)
    (hal : Below w2.heap.size w2 wa) (hoa : OwF wa (wr.heap.size + 1) vF us) (hB : Below wr.heap.size wr w2) (hown : OwF w3 (wr.heap.size + 1) v3 us') (hgrow : wa.grownBy w3 vF.ownBlock) (hf : FEs wa us' fs) :
    Below wr.heap.size wr w3 ∧ w3.heap[wr.heap.size]? = some (.cells #[.int .i64 N, vF] 24 (0, 0)) ∧ (w3.setCell ⟨wr.heap.size, 1, none⟩ v3).heap[wr.heap.size]? = some (.cells #[.int .i64 N, v3] 24 (0, 0)) ∧
      OwF (w3.setCell ⟨wr.heap.size, 1, none⟩ v3) (wr.heap.size + 1) v3 us' ∧ FEs (w3.setCell ⟨wr.heap.size, 1, none⟩ v3) us' fs ∧ Below wr.heap.size wr (w3.setCell ⟨wr.heap.size, 1, none⟩ v3) := by
  have hma := oldG hm hal (Nat.le_refl _)
  have hlt := (Array.getElem?_eq_some_iff.1 hma).1
  have hm3 : w3.heap[wr.heap.size]? = some (.cells #[.int .i64 N, vF] 24 (0, 0)) := (hgrow.block _ hlt (fun e => by have := (World.ownsRow.lt hoa.owns _ e.symm).1; omega)).trans hma
  have hBa : Below wr.heap.size wr wa := belG hB hal hB.size
  have hB3 : Below wr.heap.size wr w3 := hBa.grown hgrow hBa.size (fun k hk => Nat.le_of_succ_le (World.ownsRow.lt hoa.owns k hk).1)
  have hm4 := heap_setCell_same w3 wr.heap.size 1 _ _ v3 hm3
  have hoth : ∀ k, k ≠ wr.heap.size → (w3.setCell ⟨wr.heap.size, 1, none⟩ v3).heap[k]? = w3.heap[k]? := fun k hk => heap_setCell_other _ _ _ _ hk
  have hnb : ∀ x ∈ (#[.int .i64 N, vF] : Array Value).toList, NoB x = true := by
    obtain ⟨Af, cf, rfl, -, -⟩ := hoa.form
    intro x hx
    simp at hx
    rcases hx with rfl | rfl <;> rfl
  have hsz : w3.heap.size ≤ (w3.setCell ⟨wr.heap.size, 1, none⟩ v3).heap.size := by simp [World.setCell]
  refine ⟨hB3, hm3, by rw [hm4]; rfl, hown.keepM (Nat.lt_succ_self _) hoth, ?_, hB3.setCell (p := ⟨wr.heap.size, 1, none⟩) (Nat.le_refl _) _⟩
  exact (hf.keep (fun _ _ hr => Rd.grownF hr hoa hgrow)).keep (fun _ _ hr => Rd.keepM hr hm3 hnb hoth hsz)

set_option maxRecDepth 100000 in
set_option maxHeartbeats 8000000 in
theorem refReadM_any (A : Option Addr) (b : List UInt8) (c : Nat) (W : World) (hl : b.length ≤ 10000) (hc : b.length ≤ c) (hcm : c ≤ 9223372036854775807) (hr : Rd W W.heap.size A b) :
    Calls Tryd.prog 27 #[.slice A b.length c] W fun e W' => AnsMx W' e (readMg b).1 (readMg b).2.1 (readMg b).2.2 ∧ Below W.heap.size W W' := by
  obtain ⟨R, hR⟩ : ∃ R, R = readMg b := ⟨_, rfl⟩
  rw [← hR]
  unfold readMg at hR
  have HR := Lib.hid hR
  have RB := Lib.hid (fun w (h : Below W.heap.size W w) => (hr.below h (Nat.le_refl _)).more h.size)
  have hb := (Below.refl W.heap.size W).alloc (Nat.le_refl _) (.cells #[.int .i64 0, .slice none 0 0] 24)
  have hg := heap_alloc_new W (.cells #[.int .i64 0, .slice none 0 0] 24)
  obtain ⟨V, hV⟩ : ∃ V, V = W.alloc (.cells #[.int .i64 0, .slice none 0 0] 24) := ⟨_, rfl⟩
  rw [← hV] at hb hg
  have CTB := Lib.hid (fun w (h : Below W.heap.size W w) => refTakeBcd_all A b c 0 4 w (by omega) hc (RB.out w h))
  have CV := Lib.hid (fun w => (show Calls Tryd.prog 57 #[.string ⟨(tbS b 0 4).1.toArray⟩] w fun e W' => e = .returned (.tuple #[.int .i64 ((rdN b : Nat) : Int), .int .i64 (valR (tbS b 0 4).1).2]) ∧ Below w.heap.size w W' from refValue_any ⟨(tbS b 0 4).1.toArray⟩ w (by have := tbS_short b; simp [ByteArray.size]; omega)))
  have CT := Lib.hid (fun w => refType_any (rdN b : Int) (by have := valR_le (tbS b 0 4).1; have e : rdN b = (valR (tbS b 0 4).1).1 := rfl; omega) w)
  have CM := Lib.hid (fun w (h : Below W.heap.size W w) => refReadB_any A b c 2 w hl hc hcm (RB.out w h))
  have CR := Lib.hid (fun no a w (h : Below W.heap.size W w) => refRead_any no A b c a w hl hc hcm (RB.out w h))
  have HG := Lib.hid hg
  have HB := Lib.hid hb
  have HV := Lib.hid hV
  have HBL := Lib.hid hl
  obtain ⟨m, hm⟩ : ∃ m, m = b.length := ⟨_, rfl⟩
  rw [← hm] at hl CTB CM CR HR HBL ⊢
  have HM := Lib.hid hm
  clear hR hr hb hg hV hc hcm hm
  by_cases h1 : m < 2
  · have HR1 := Lib.hid (show R = (0, [], 3) from by rw [HR.out, if_pos h1])
    have i1 : (m : Int) < 2 := by omega
    clear HR CTB CV CT CM CR RB
    go_enter Tryd.func27, Tryd.ntmps27
    obtain ⟨y0, y1⟩ := cG2 HG.out
    have z0 := fG HG.out 0
    have z1 := fG HG.out 1
    rw [HV.out] at y0 y1 z0 z1
    go_wp2
    rw [← HV.out]
    (try simp only [Exit.inBlock, Exit.then])
    refine bodyPost_ret (retM2 rfl _ V W.heap.size _ _ _ rfl rfl HG.out) rfl ?_
    exact ⟨by rw [HR1.out]; exact ⟨none, 0, rfl, Nat.le_refl _, by omega, RdF.nil⟩, HB.out⟩
  have i1 : ¬ (m : Int) < 2 := by omega
  replace HR := Lib.hid (HR.out.trans (if_neg h1))
  clear h1
  generalize (valR (tbS b 0 4).1).2 = VE at *
  obtain ⟨t, ht⟩ : ∃ t, t = tbS b 0 4 := ⟨_, rfl⟩
  rw [← ht] at CTB CV HR
  generalize rdN b = N at *
  obtain ⟨Q, hQ⟩ : ∃ Q, Q = readM b 2 := ⟨_, rfl⟩
  have HQL := Lib.hid (show Q.1.length ≤ 200 by rw [hQ]; exact Nat.le_trans (readM_len b 2) (by omega))
  rw [← hQ] at CM HR
  clear ht hQ
  go_enter Tryd.func27, Tryd.ntmps27
  go_wp2_with fail
  rw [← HV.out]
  clear HV
  refine (CTB.out _ HB.out).mono ?_
  rintro e w1 ⟨rfl, hb⟩
  have HB1 := Lib.hid (belG HB.out hb HB.out.size)
  have HG1 := Lib.hid (oldG HG.out hb (Nat.le_refl _))
  clear hb CTB HB HG
  go_wp2_with fail
  refine (CV.out _).mono ?_
  rintro e w2 ⟨rfl, hb⟩
  have HB2 := Lib.hid (belG HB1.out hb HB1.out.size)
  have HG2 := Lib.hid (oldG HG1.out hb (Nat.le_refl _))
  clear hb CV HB1 HG1
  by_cases h2 : ¬ t.2.2 = 0
  · have HR1 := Lib.hid (show R = (0, [], 2) from by rw [HR.out, if_pos (fun h => h2 h.1)])
    have i2 : (t.2.2 != 0) = true := by simpa using h2
    clear HR CT CM CR RB HM HQL h2
    obtain ⟨y0, y1⟩ := cG2 HG2.out
    have z0 := fG HG2.out 0
    have z1 := fG HG2.out 1
    go_wp2

    (try simp only [Exit.inBlock, Exit.then])
    refine bodyPost_ret (retM2 rfl _ (set2G w2 W.heap.size (.int .i64 0) (.slice none 0 0)) W.heap.size _ _ _ rfl rfl (set2G_same _ _ HG2.out)) rfl ?_
    exact ⟨by rw [HR1.out]; exact ⟨none, 0, rfl, Nat.le_refl _, by omega, RdF.nil⟩, Below.set2G HB2.out (Nat.le_refl _) _ _⟩
  have h2 : t.2.2 = 0 := Classical.byContradiction h2
  have i2 : (t.2.2 != 0) = false := by rw [h2]; rfl
  by_cases h3 : ¬ typeF (N : Int) = true
  · have HR1 := Lib.hid (show R = (0, [], 2) from by rw [HR.out, if_pos (fun h => h3 h.2)])
    rw [show typeF (N : Int) = false by simpa using h3] at CT
    clear HR CM CR RB HM HQL h2 h3
    go_wp2_with fail
    refine (CT.out _).mono ?_
    rintro e w3 ⟨rfl, rfl⟩
    obtain ⟨y0, y1⟩ := cG2 HG2.out
    have z0 := fG HG2.out 0
    have z1 := fG HG2.out 1
    go_wp2

    (try simp only [Exit.inBlock, Exit.then])
    refine bodyPost_ret (retM2 rfl _ (set2G w2 W.heap.size (.int .i64 0) (.slice none 0 0)) W.heap.size _ _ _ rfl rfl (set2G_same _ _ HG2.out)) rfl ?_
    exact ⟨by rw [HR1.out]; exact ⟨none, 0, rfl, Nat.le_refl _, by omega, RdF.nil⟩, Below.set2G HB2.out (Nat.le_refl _) _ _⟩
  have h3 : typeF (N : Int) = true := Classical.byContradiction h3
  replace HR := Lib.hid (HR.out.trans (if_neg (fun h => h ⟨h2, h3⟩)))
  rw [h3] at CT
  clear h2 h3
  go_wp2_with fail
  refine (CT.out _).mono ?_
  rintro e w3 ⟨rfl, rfl⟩
  go_wp2_with fail
  refine (CM.out _ HB2.out).mono ?_
  rintro e w3 ⟨⟨AL, cL, rfl, p1, p2, p3⟩, hb⟩
  have HB3 := Lib.hid (belG HB2.out hb HB2.out.size)
  have HG3 := Lib.hid (oldG HG2.out hb (Nat.le_refl _))
  have RL := Lib.hid (fun w (h : Below w3.heap.size w3 w) => p3.go h)
  clear hb CM CT HB2 HG2 p1 p2 p3 i2
  by_cases h4 : Q.2.2 ≠ 0
  · have HR1 := Lib.hid (show R = (0, [], Q.2.2) from by rw [HR.out, if_pos h4])
    have i4 : (Q.2.2 != 0) = true := by simpa using h4
    clear HR CR RB HM HQL h4 RL
    obtain ⟨y0, y1⟩ := cG2 HG3.out
    have z0 := fG HG3.out 0
    have z1 := fG HG3.out 1
    go_wp2

    (try simp only [Exit.inBlock, Exit.then])
    refine bodyPost_ret (retM2 rfl _ (set2G w3 W.heap.size (.int .i64 0) (.slice none 0 0)) W.heap.size _ _ _ rfl rfl (set2G_same _ _ HG3.out)) rfl ?_
    exact ⟨by rw [HR1.out]; exact ⟨none, 0, rfl, Nat.le_refl _, by omega, RdF.nil⟩, Below.set2G HB3.out (Nat.le_refl _) _ _⟩
  have i4 : (Q.2.2 != 0) = false := by simpa using h4
  replace HR := Lib.hid (HR.out.trans (if_neg h4))
  clear h4
  obtain ⟨L, hL⟩ : ∃ L, L = Q.1 := ⟨_, rfl⟩
  obtain ⟨a0, ha0⟩ : ∃ a, a = Q.2.1 := ⟨_, rfl⟩
  rw [← hL, ← ha0] at HR
  rw [← hL] at RL HQL ⊢
  rw [← ha0]
  have HXE := Lib.hid (show ∃ x, x = Q.2.2 from ⟨_, rfl⟩)
  generalize Q.2.2 = QE at *
  clear hL ha0 HXE
  obtain ⟨n, hn⟩ : ∃ n, n = L.length := ⟨_, rfl⟩
  have HN := Lib.hid hn
  have hn200 : n ≤ 200 := by rw [hn]; exact HQL.out
  rw [← hn]
  clear hn
  go_wp2_with fail
  go_loopw [12] (fun i wr => ∃ k : Nat, k ≤ n ∧ i = .int .i64 k ∧ Hid (∀ j (h : j < L.length), j < k → fk L[j] ≠ 0) ∧ Hid (Below w3.heap.size w3 wr)) (fun i _ => n - (intOf i).toNat)
  case atStart => exact ⟨0, Nat.zero_le _, rfl, Lib.hid (fun j h hj => absurd hj (by omega)), Lib.hid (Below.refl _ _)⟩
  case round =>
    obtain ⟨k, hk, rfl, HT, HBV⟩ := hrel
    have HBW := Lib.hid (belG HB3.out HBV.out HB3.out.size)
    have HGW := Lib.hid (oldG HG3.out HBV.out (Nat.le_refl _))
    by_cases hlt : k < n
    · have hk1 : k < L.length := by rw [← HN.out]; exact hlt
      obtain ⟨bL, oL, rfl, hbL, x1⟩ := (RL.out _ HBV.out).at_ hk1
      have hki : (k : Int) < (n : Int) := by omega
      have hk0 : (0 : Int) ≤ (k : Int) := Int.natCast_nonneg _
      obtain ⟨xk, hxk⟩ : ∃ x, x = L[k] := ⟨_, rfl⟩
      rw [← hxk] at x1
      have HXK := Lib.hid hxk
      have CO := Lib.hid (refOf_any xk wr)
      clear hxk hbL
      by_cases h5 : fk xk = 0
      · have HR1 := Lib.hid (show R = (0, [], 2) from by rw [HR.out, if_pos (fun h => h L[k] (List.getElem_mem hk1) (by rw [← HXK.out]; exact h5))])
        rw [decide_eq_false (show ¬ fk xk ≠ 0 by omega)] at CO
        generalize fk xk = kk at *
        generalize fl xk = nn at *
        clear HR CR RB HM HQL HT RL HN h5
        go_wp2_with fail
        refine CO.out.mono ?_
        rintro e w4 ⟨rfl, hb⟩
        have hb1 := hb.alloc hb.size (.cells #[.int .i64 (kk : Int), .int .i64 (nn : Int)] 95)
        have HB5 := Lib.hid (belG HBW.out hb1 HBW.out.size)
        have HG5 := Lib.hid (oldG HGW.out hb1 (Nat.le_refl _))
        obtain ⟨V1, hV1⟩ : ∃ V, V = w4.alloc (.cells #[.int .i64 (kk : Int), .int .i64 (nn : Int)] 95) := ⟨_, rfl⟩
        rw [← hV1] at HB5 HG5
        have HV := Lib.hid hV1
        clear hb hb1 hV1 CO x1
        obtain ⟨y0, y1⟩ := cG2 HG5.out
        have z0 := fG HG5.out 0
        have z1 := fG HG5.out 1
        rw [HV.out] at y0 y1 z0 z1
        go_wp2
        rw [← HV.out]
        (try simp only [Exit.inBlock, Exit.then])
        refine bodyPost_ret (retM2 rfl _ (set2G V1 W.heap.size (.int .i64 0) (.slice none 0 0)) W.heap.size _ _ _ rfl rfl (set2G_same _ _ HG5.out)) rfl ?_
        exact ⟨by rw [HR1.out]; exact ⟨none, 0, rfl, Nat.le_refl _, by omega, RdF.nil⟩, Below.set2G HB5.out (Nat.le_refl _) _ _⟩
      · have HTN := Lib.hid (show ∀ j (h : j < L.length), j < k + 1 → fk L[j] ≠ 0 from fun j h hj => by
          by_cases e : j = k
          · subst e; rw [← HXK.out]; exact h5
          · exact HT.out j h (by omega))
        rw [decide_eq_true (show fk xk ≠ 0 from h5)] at CO
        generalize fk xk = kk at *
        generalize fl xk = nn at *
        clear h5
        go_wp2_with fail
        refine CO.out.mono ?_
        rintro e w4 ⟨rfl, hb⟩
        have hb1 := hb.alloc hb.size (.cells #[.int .i64 (kk : Int), .int .i64 (nn : Int)] 95)
        have HB5 := Lib.hid (belG HBV.out hb1 HBV.out.size)
        clear hb hb1 CO x1
        go_wp2
        go_roundw
        case rel => exact ⟨k + 1, by omega, by go_num, HTN, HB5⟩
        case measure => simp [intOf]; omega
    · have hki : ¬ (k : Int) < (n : Int) := by omega
      have hR5 := HR.out.trans (if_neg (fun h => h fun x hx => by
        obtain ⟨j, hj, rfl⟩ := List.getElem_of_mem hx
        exact HT.out j hj (by have := HN.out; omega)))
      have HR5 := Lib.hid hR5
      clear hR5 HR HT hlt hk
      have hg5 := heap_alloc_new wr (.cells #[.int .i64 (N : Int), .slice none 0 0] 24)
      have hb5 := (Below.refl wr.heap.size wr).alloc (Nat.le_refl _) (.cells #[.int .i64 (N : Int), .slice none 0 0] 24)
      obtain ⟨X, hX⟩ : ∃ X, X = wr.alloc (.cells #[.int .i64 (N : Int), .slice none 0 0] 24) := ⟨_, rfl⟩
      rw [← hX] at hg5 hb5
      have HX := Lib.hid hX
      have HG5 := Lib.hid hg5
      have HVB := Lib.hid hb5
      have RL5 := Lib.hid (fun w (h : Below wr.heap.size wr w) => RL.out w (belG HBV.out h HBV.out.size))
      have HGL := Lib.hid (Array.getElem?_eq_some_iff.1 HGW.out).1
      clear hX hg5 hb5 HB3 HG3 RL HBV
      go_wp2
      rw [← HX.out]
      clear HX
      obtain ⟨wm, hwm⟩ : ∃ w, w = wr := ⟨_, rfl⟩
      subst hwm
      go_loopw [16, 10] (fun i a w => ∃ k : Nat, ∃ vF : Value, ∃ us : List V2f, k ≤ n ∧ i = .int .i64 k ∧ a = .int .i64 (rdS b L a0 k).2 ∧ Hid (w.heap[wm.heap.size]? = some (.cells #[.int .i64 (N : Int), vF] 24 (0, 0))) ∧ Hid (OwF w (wm.heap.size + 1) vF us) ∧ Hid (FEs w us (rdS b L a0 k).1) ∧ Hid (∀ j, j < k → rdX b L a0 j = 0) ∧ Hid (Below wm.heap.size wm w)) (fun i _ _ => n - (intOf i).toNat)
      case atStart => exact ⟨0, _, [], Nat.zero_le _, rfl, rfl, HG5, Lib.hid OwF.nil, Lib.hid FEs.nil, Lib.hid (fun j hj => absurd hj (by omega)), HVB⟩
      case round =>
        obtain ⟨k, vF, us, hk, rfl, rfl, HMS, HO, HF, HE, HBV⟩ := hrel
        have HBX := Lib.hid (belG HBW.out HBV.out HBW.out.size)
        have HGX := Lib.hid (oldG HGW.out HBV.out (Nat.le_refl _))
        have HUL := Lib.hid (show us.length = k by rw [HF.out.1, rdS_length])
        by_cases hlt : k < n
        · have hk1 : k < L.length := by rw [← HN.out]; exact hlt
          obtain ⟨bL, oL, rfl, hbL, x1⟩ := (RL5.out _ HBV.out).at_ hk1
          have hki : (k : Int) < (n : Int) := by omega
          have hk0 : (0 : Int) ≤ (k : Int) := Int.natCast_nonneg _
          have hgd : L.getD k 0 = L[k] := by rw [List.getD_eq_getElem?_getD, List.getElem?_eq_getElem hk1]; rfl
          have hnx : rdS b L a0 (k + 1) = ((rdS b L a0 k).1 ++ [(L[k], (readF L[k] b (rdS b L a0 k).2).1)], (readF L[k] b (rdS b L a0 k).2).2.1) := by
            show ((rdS b L a0 k).1 ++ [(L.getD k 0, (readF (L.getD k 0) b (rdS b L a0 k).2).1)], (readF (L.getD k 0) b (rdS b L a0 k).2).2.1) = _
            rw [hgd]
          have hxx : rdX b L a0 k = (readF L[k] b (rdS b L a0 k).2).2.2 := by unfold rdX; rw [hgd]
          obtain ⟨fs, hfs⟩ : ∃ x, x = (rdS b L a0 k).1 := ⟨_, rfl⟩
          rw [← hfs] at HF hnx
          obtain ⟨ak, hak⟩ : ∃ x, x = (rdS b L a0 k).2 := ⟨_, rfl⟩
          rw [← hak] at hnx hxx ⊢
          obtain ⟨xk, hxk⟩ : ∃ x, x = L[k] := ⟨_, rfl⟩
          rw [← hxk] at x1 hnx hxx
          have CRk := Lib.hid (CR.out xk ak wr HBX.out)
          obtain ⟨QQ, hqq⟩ : ∃ x, x = readF xk b ak := ⟨_, rfl⟩
          rw [← hqq] at CRk hnx hxx
          have HNX := Lib.hid hnx
          have HXX := Lib.hid hxx
          have HBL' := Lib.hid hbL
          clear hfs hak hxk hqq hnx hxx hgd
          go_wp2_with fail
          refine CRk.out.mono ?_
          rintro e w2 ⟨⟨A2, c2, rfl, q1, q2, q3⟩, hb⟩
          have HBV2 := Lib.hid (belG HBV.out hb HBV.out.size)
          have HBX2 := Lib.hid (belG HBX.out hb HBX.out.size)
          have HGX2 := Lib.hid (oldG HGX.out hb (Nat.le_refl _))
          have HMS2 := Lib.hid (oldG HMS.out hb (Nat.le_refl _))
          have HO2 := Lib.hid (HO.out.call hb)
          have HF2 := Lib.hid (HF.out.go hb)
          have HFE := Lib.hid (show FE w2 w2.heap.size (.int .i64 xk, .slice A2 QQ.1.length c2) (xk, QQ.1) from ⟨A2, c2, rfl, q1, q2, q3⟩)
          have x2 := (hb.cell (p := ⟨bL, oL + k, none⟩) HBL'.out).trans x1
          clear hb CRk HBV HBX HGX HMS HO HF x1 q1 q2 q3 HBL' hbL
          by_cases h6 : QQ.2.2 ≠ 0
          · have HR1 := Lib.hid (show R = (0, [], QQ.2.2) from by
              have hq := rdQ_at hk1 HE.out (by rw [HXX.out]; exact h6)
              rw [HXX.out] at hq
              rw [HR5.out, hq, if_pos h6])
            have i6 : (QQ.2.2 != 0) = true := by simpa using h6
            clear HR5 CR RB HM HQL h6 RL5 HMS2 HO2 HF2 HFE HE HNX HXX HUL HN
            obtain ⟨y0, y1⟩ := cG2 HGX2.out
            have z0 := fG HGX2.out 0
            have z1 := fG HGX2.out 1
            go_wp2

            (try simp only [Exit.inBlock, Exit.then])
            refine bodyPost_ret (retM2 rfl _ (set2G w2 W.heap.size (.int .i64 0) (.slice none 0 0)) W.heap.size _ _ _ rfl rfl (set2G_same _ _ HGX2.out)) rfl ?_
            exact ⟨by rw [HR1.out]; exact ⟨none, 0, rfl, Nat.le_refl _, by omega, RdF.nil⟩, Below.set2G HBX2.out (Nat.le_refl _) _ _⟩
          · have i6 : (QQ.2.2 != 0) = false := by simpa using h6
            have HEN := Lib.hid (show ∀ j, j < k + 1 → rdX b L a0 j = 0 from fun j hj => by
              by_cases e : j = k
              · subst e; rw [HXX.out]; exact Classical.byContradiction h6
              · exact HE.out j (by omega))
            have HU9 := Lib.hid (show us.length ≤ 1000000 by have := HUL.out; omega)
            obtain ⟨e0, e1⟩ := cG2 HMS2.out
            have hal := ((Below.refl w2.heap.size w2).alloc (Nat.le_refl _) (.cells #[.int .i64 xk, .slice A2 QQ.1.length c2] 60)).drew
            have HAL := Lib.hid hal
            have HNW := Lib.hid (show (w2.alloc (.cells #[.int .i64 xk, .slice A2 QQ.1.length c2] 60)).drew.heap[w2.heap.size]? = some (.cells #[.int .i64 xk, .slice A2 QQ.1.length c2] 60 (0, 0)) from heap_alloc_new w2 (.cells #[.int .i64 xk, .slice A2 QQ.1.length c2] 60))
            have e1a : (w2.alloc (.cells #[.int .i64 xk, .slice A2 QQ.1.length c2] 60)).drew.cell? ⟨wm.heap.size, 1, none⟩ = some vF := (cG2 (oldG HMS2.out hal (Nat.le_refl _))).2
            have x2d : w2.drew.cell? ⟨bL, oL + k, none⟩ = some (.int .i64 xk) := x2
            have e1d : w2.drew.cell? ⟨wm.heap.size, 1, none⟩ = some vF := e1
            have HFA := Lib.hid ((HF2.out.snoc HFE.out).go hal)
            have HSZ := Lib.hid HBV2.out.size
            have HOA := Lib.hid (show OwF (w2.alloc (.cells #[.int .i64 xk, .slice A2 QQ.1.length c2] 60)).drew (wm.heap.size + 1) vF us from HO2.out.alloc _)
            have HLT := Lib.hid (Array.getElem?_eq_some_iff.1 HMS2.out).1
            have HL1 := Lib.hid (show wm.heap.size + 1 ≤ (w2.alloc (.cells #[.int .i64 xk, .slice A2 QQ.1.length c2] 60)).drew.heap.size from Nat.le_trans (Nat.succ_le_of_lt HLT.out) hal.size)
            have HL3 := Lib.hid (fun (x : V2f) => show (us ++ [x]).length = k + 1 by rw [List.length_append, HUL.out]; rfl)
            clear hal h6
            generalize QQ.1.length = z2 at *
            go_wp2_with fail
            go_region_law (refine step_appF rfl _ (.tmp 94) (.tmp 101) rfl (wm.heap.size + 1) vF us rfl (by exact HOA.out) w2.heap.size 1 rfl xk A2 z2 c2 (by exact (cG2 HNW.out).1) (by exact (cG2 HNW.out).2) HU9.out (by exact HL1.out) ?_; intro v3 w3' hown3 hgrow3; obtain ⟨A3, c3, e3, -, -⟩ := hown3.form; rw [HL3.out] at e3; subst e3; obtain ⟨m1, m2, m3, m4, m5, m6⟩ := msg_put HMS2.out HO2.out HAL.out HOA.out HBV2.out hown3 hgrow3 HFA.out; have M3 := Lib.hid m3; have M4 := Lib.hid m4; have M5 := Lib.hid m5; have M6 := Lib.hid m6; obtain ⟨f0, f1⟩ := cG2 m2; have g1 := fG m2 1; clear m1 m2 m3 m4 m5 m6 hown3 hgrow3)
            all_goals
              clear f0 f1 g1 e0 e1 e1a e1d x2 x2d
              go_wp2
              go_roundw
              case rel => exact ⟨k + 1, _, _, by omega, by go_num, by rw [HNX.out], M3, M4, Lib.hid (by rw [HNX.out]; exact M5.out), HEN, M6⟩
              case measure => simp [intOf]; omega
        · have hki : ¬ (k : Int) < (n : Int) := by omega
          have hkn : k = L.length := by have := HN.out; omega
          have hq0 := rdQ_none (a := a0) (b := b) (l := L) (fun j hj => HE.out j (by omega))
          have hr6 := HR5.out
          rw [hq0, if_neg (by simp), ← hkn] at hr6
          clear hq0 HR5 HE CR RB HQL RL5 hkn HN
          obtain ⟨ak, hak⟩ : ∃ x, x = (rdS b L a0 k).2 := ⟨_, rfl⟩
          rw [← hak] at hr6 ⊢
          obtain ⟨fs, hfs⟩ : ∃ x, x = (rdS b L a0 k).1 := ⟨_, rfl⟩
          rw [← hfs] at HF hr6
          clear hak hfs
          by_cases h7 : ak < (m : Int)
          · have HR1 := Lib.hid (show R = (0, [], 4) by rw [hr6, if_pos h7])
            clear hr6 HMS HO HF HUL HM hlt
            obtain ⟨y0, y1⟩ := cG2 HGX.out
            have z0 := fG HGX.out 0
            have z1 := fG HGX.out 1
            go_wp2

            (try simp only [Exit.inBlock, Exit.then])
            refine bodyPost_ret (retM2 rfl _ (set2G wr W.heap.size (.int .i64 0) (.slice none 0 0)) W.heap.size _ _ _ rfl rfl (set2G_same _ _ HGX.out)) rfl ?_
            exact ⟨by rw [HR1.out]; exact ⟨none, 0, rfl, Nat.le_refl _, by omega, RdF.nil⟩, Below.set2G HBX.out (Nat.le_refl _) _ _⟩
          · have HR1 := Lib.hid (show R = ((N : Int), fs, 0) by rw [hr6, if_neg h7])
            clear hr6 HM
            obtain ⟨Af, cf, rfl, hf1, hf2⟩ := HO.out.form
            have HF1 := Lib.hid hf1
            have HF2 := Lib.hid hf2
            obtain ⟨un, hun⟩ : ∃ x, x = us.length := ⟨_, rfl⟩
            have HUN := Lib.hid hun
            rw [← hun] at HMS HO
            obtain ⟨e0, e1⟩ := cG2 HMS.out
            obtain ⟨y0, y1⟩ := cG2 HGX.out
            have z0 := fG HGX.out 0
            have z1 := fG HGX.out 1
            clear hf1 hf2 hun
            go_wp2
            (try simp only [Exit.inBlock, Exit.then])
            refine bodyPost_ret (retM2 rfl _ (set2G wr W.heap.size (.int .i64 (N : Int)) (.slice Af un cf)) W.heap.size _ _ _ rfl rfl (set2G_same _ _ HGX.out)) rfl ?_
            have hoth := fun k hk => set2G_other wr W.heap.size k (.int .i64 (N : Int)) (.slice Af un cf) hk
            have hnb : ∀ x ∈ (#[.int .i64 0, .slice none 0 0] : Array Value).toList, NoB x = true := by
              intro x hx
              simp at hx
              rcases hx with rfl | rfl <;> rfl
            have hO2 := OwF.keepM HO.out (Nat.lt_succ_of_lt HGL.out) hoth
            have hF2 := HF.out.keep (fun _ _ hr => Rd.keepM hr HGX.out hnb hoth (Nat.le_of_eq (set2G_size _ _ _ _).symm))
            exact ⟨by rw [HR1.out]; exact ⟨Af, cf, by rw [← HF.out.1, ← HUN.out]; rfl, by rw [← HF.out.1]; exact HF1.out, HF2.out, hO2.rd hF2⟩, Below.set2G HBX.out (Nat.le_refl _) _ _⟩
end Go.Proofs.YtpfjecjfooefoaaDoor
