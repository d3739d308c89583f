
/- Package env: Read. -/
import Derived.Test.YtjkkceecagbjjaaJ16
import Derived.Test.YtjkkceecagbjjaaJ04
import Derived.OpenShut
namespace Go.Proofs.Ytjkkceecagbjjaa
open Go.RowKit

def setB (e : Ev) (l : List UInt8) : Ev := ⟨e.kind, e.dir, e.e0, e.e1, e.gen, e.seq, l, e.tag⟩
def setT (e : Ev) (l : List UInt8) : Ev := ⟨e.kind, e.dir, e.e0, e.e1, e.gen, e.seq, e.body, l⟩
set_option maxRecDepth 100000 in
theorem KeyE.putE {w : World} {g : Nat} {T : TypeId} {C : Array Value} {x : Wke} {l : List UInt8} (k : KeyE w x l) (hg : Bx w g T C) (hn : No8 C) (o : Nat) (v : Value) : KeyE (w.setCell ⟨g, o, none⟩ v) x l := ⟨k.1, k.2.1, k.2.2.putX (o := o) hg hn [v]⟩
set_option maxRecDepth 100000 in
theorem all_envE {b : List UInt8} {m : Nat} (hm : b.length - 16 = m) : setT (setB (evR b 6) ((b.drop 30).take (b.length - 46))) (b.drop m) = envOf b := by
  subst hm; rfl
set_option maxRecDepth 100000 in
theorem bad_envE {b : List UInt8} (h : ∃ j, j < 6 ∧ tkK b j < 0) : ¬ RightE (envOf b) := by
  rintro ⟨⟨⟨a1, -⟩, ⟨b1, -⟩, ⟨c1, -⟩, k, d, g1, -, -, -⟩, -⟩
  obtain ⟨j, hj, hn⟩ := h
  match j, hj with
  | 0, _ => have h2 : tkE b 0 1 < 0 := hn; have h3 : tkE b 0 1 = 1 ∨ tkE b 0 1 = 2 := k; omega
  | 1, _ => have h2 : tkE b 1 1 < 0 := hn; have h3 : tkE b 1 1 = 0 ∨ tkE b 1 1 = 1 := d; omega
  | 2, _ => have h2 : tkE b 2 8 < 0 := hn; have h3 : 0 ≤ tkE b 2 8 := a1; omega
  | 3, _ => have h2 : tkE b 10 8 < 0 := hn; have h3 : 0 ≤ tkE b 10 8 := b1; omega
  | 4, _ => have h2 : tkE b 18 4 < 0 := hn; have h3 : 0 ≤ tkE b 18 4 := g1; omega
  | 5, _ => have h2 : tkE b 22 8 < 0 := hn; have h3 : 0 ≤ tkE b 22 8 := c1; omega
set_option maxRecDepth 100000 in
set_option maxHeartbeats 1000000 in
theorem read0_any (x : Wke) (b : List UInt8) (W : World) (hk : KeyE W x b) : Calls Try.prog 20 #[.slice x.1 b.length x.2] W fun e W' => AnsEv W' e (readE b).1 (readE b).2 ∧ Below W.heap.size W W' := by
  obtain ⟨V, hV, hb, hq, hg, hs⟩ := bx2 W 23 25 #[.slice x.1 b.length x.2] (envC we0 ev0)
  have HB := Lib.hid hb
  have HV := Lib.hid (show V = (W.alloc (.cells #[.slice x.1 b.length x.2] 23)).alloc (.cells #[.int .i64 0, .int .i64 0, .int .i64 0, .int .i64 0, .int .i64 0, .int .i64 0, .slice none 0 0, .slice none 0 0] 25) from hV)
  have J := Lib.hid hg
  have HQ := Lib.hid hq
  have HK := Lib.hid hk
  have hcq : V.cell? ⟨W.heap.size, 0, none⟩ = some (.slice x.1 b.length x.2) := hq.cell rfl
  obtain ⟨n, hn⟩ : ∃ n, n = b.length := ⟨_, rfl⟩
  have HN := Lib.hid hn
  rw [← hn] at HV HQ hcq ⊢
  clear hV hb hg hq hs hk
  by_cases h1 : n < 47
  · have HI := Lib.hid (show readE b = (ev0, 3) from by unfold readE; rw [if_pos (by omega)])
    clear hn
    go_enter Try.func20, Try.ntmps20
    go_upto_region 1 with (fail)
    rw [← HV.out]
    go_wp2_with (refine storeX (.tmp 2) (.tmp 11) (W.heap.size + 1) (envC we0 ev0) _ tyEnv rfl (envC_one _ _) J.out rfl rfl rfl rfl rfl ?_)
    (try dsimp only)
    refine bodyPost_ret (retX2 rfl _ _ (W.heap.size + 1) (envC we0 ev0) _ tyEnv rfl rfl rfl (Bx.setRow J.out _)) rfl ?_
    exact ⟨by rw [HI.out]; exact ⟨we0, rfl, envR0 _⟩, Below.setRowG HB.out (Nat.le_succ _) _⟩
  by_cases h2 : 946 < n
  · have HI := Lib.hid (show readE b = (ev0, 4) from by unfold readE; rw [if_neg (by omega), if_pos (by omega)])
    clear hn
    go_enter Try.func20, Try.ntmps20
    go_upto_region 1 with (fail)
    rw [← HV.out]
    go_wp2_with (refine storeX (.tmp 2) (.tmp 15) (W.heap.size + 1) (envC we0 ev0) _ tyEnv rfl (envC_one _ _) J.out rfl rfl rfl rfl rfl ?_)
    (try dsimp only)
    refine bodyPost_ret (retX2 rfl _ _ (W.heap.size + 1) (envC we0 ev0) _ tyEnv rfl rfl rfl (Bx.setRow J.out _)) rfl ?_
    exact ⟨by rw [HI.out]; exact ⟨we0, rfl, envR0 _⟩, Below.setRowG HB.out (Nat.le_succ _) _⟩
  have HR := Lib.hid (show ∀ p : Prop, (RightE (envOf b) → readE b = (envOf b, 0)) ∧ (¬ RightE (envOf b) → readE b = (ev0, 2)) from fun _ => ⟨fun h => by unfold readE; rw [if_neg (by omega), if_neg (by omega), if_pos h], fun h => by unfold readE; rw [if_neg (by omega), if_neg (by omega), if_neg h]⟩)
  have HN1 := Lib.hid (show 47 ≤ b.length from by omega)
  have HN2 := Lib.hid (show b.length ≤ 1000 from by omega)
  clear hn
  go_enter Try.func20, Try.ntmps20
  go_upto_region 1 with (fail)
  rw [← HV.out]
  clear HV
  go_upto_region 7 with (fail)
  obtain ⟨V5, hV, hb, hg, ha, hf, -⟩ := bx3 V 25 3 28 (envC we0 ev0) #[.int .i64 0] #[.int .i64 0]
  have hV' : V5 = ((V.alloc (.cells #[.int .i64 0, .int .i64 0, .int .i64 0, .int .i64 0, .int .i64 0, .int .i64 0, .slice none 0 0, .slice none 0 0] 25)).alloc (.cells #[.int .i64 0] 3)).alloc (.cells #[.int .i64 0] 28) := hV
  rw [← hV']
  have hsz : W.heap.size + 1 < V.heap.size := J.out.lt
  have hsz5 : W.heap.size ≤ V5.heap.size := Nat.le_trans HB.out.size hb.size
  have CE := Lib.hid (each_any 31 (.inr rfl) #[.pointer (some ⟨V.heap.size + 2, 0, none⟩), .pointer (some ⟨W.heap.size, 0, none⟩), .pointer (some ⟨V.heap.size + 1, 0, none⟩)] V.heap.size (PRd W x b V.heap.size (V.heap.size + 1) (V.heap.size + 2)) V5
    (PRd.sd (Nat.lt_trans hsz hg.lt) hg.lt ha.lt hf.lt)
    (readOne W x b V.heap.size (V.heap.size + 1) (V.heap.size + 2) V5.heap.size HN1.out HN2.out HK.out hg.lt ha.lt hf.lt hsz (by omega) (by omega))
    ⟨belG HB.out hb HB.out.size, by rw [← HN.out]; exact HQ.out.go hb, J.out.go hb, ev0, 0, 0, hg, rfl, rfl, ha, hf, .inl ⟨rfl, rfl, fun j h => absurd h (Nat.not_lt_zero j), rfl⟩⟩)
  have LEG := Lib.hid (show W.heap.size ≤ V.heap.size from by omega)
  have hJG : W.heap.size + 1 ≠ V.heap.size := by omega
  clear hV hV' hb hg ha hf hsz hsz5 hcq J HQ HB
  generalize V.heap.size = ge at *
  go_wp2_with fail
  refine CE.out.mono ?_
  rintro r w6 ⟨⟨u, rfl⟩, ⟨hb, hq, hj, e, p, q, hg, hbd, htg, ha, hf, hc⟩, -⟩
  have HB := Lib.hid hb
  have J := Lib.hid hj
  have HQ := Lib.hid hq
  have HG := Lib.hid hg
  have HF := Lib.hid hf
  have HC := Lib.hid hc
  have RB := Lib.hid (HK.out.go hb)
  have NEJG := Lib.hid hJG
  have NEQG := Lib.hid (Bx.ne hq hg (by decide))
  have NEFG := Lib.hid (Bx.ne hf hg (by decide))
  rw [← HN.out] at HQ
  have hcq : w6.cell? ⟨W.heap.size, 0, none⟩ = some (.slice x.1 n x.2) := HQ.out.cell rfl
  obtain ⟨A, c⟩ := x
  obtain ⟨ab, ao, hA, hab, hcell⟩ := HK.out.2.2 (Nat.lt_of_lt_of_le (by decide) HN1.out)
  obtain rfl : A = some ⟨ab, ao, none⟩ := hA
  have hc1 : n ≤ c := by rw [HN.out]; exact HK.out.1
  have hc2 : c ≤ 9223372036854775807 := HK.out.2.1
  have hl47 : 47 ≤ n := by rw [HN.out]; exact HN1.out
  have hl1000 : n ≤ 1000 := by rw [HN.out]; exact HN2.out
  obtain ⟨m, hm⟩ : ∃ m, m = n - 16 := ⟨_, rfl⟩
  have hnm : (n : Int) - 16 = (m : Int) := by omega
  have m1 : (30 : Int) ≤ (m : Int) := by omega
  have m2 : (m : Int) ≤ (n : Int) := by omega
  have m3 : (m : Int) ≤ (c : Int) := by omega
  have m4 : (n : Int) ≤ (c : Int) := by omega
  have m5 : (0 : Int) ≤ (m : Int) := by omega
  have h30 : ¬ c = 30 := by omega
  have hcm : ¬ c = m := by omega
  obtain ⟨LL, hLL⟩ : ∃ l, l = (b.drop 30).take (b.length - 46) := ⟨_, rfl⟩
  obtain ⟨MM, hMM⟩ : ∃ l, l = b.drop m := ⟨_, rfl⟩
  have CA := Lib.hid (fun w (h : KeyE w (some ⟨ab, ao, none⟩, c) b) => by
    have h1 := cloneE_any (some ⟨ab, ao + 30, none⟩, c - 30) ((b.drop 30).take (b.length - 46)) w (by rw [List.length_take, List.length_drop]; have := HN.out; omega) (h.cut 30 (b.length - 46) (by have := HN.out; omega))
    rw [show ((b.drop 30).take (b.length - 46)).length = m - 30 from by rw [List.length_take, List.length_drop]; have := HN.out; omega, ← hLL] at h1
    exact h1)
  have CT := Lib.hid (fun w (h : KeyE w (some ⟨ab, ao, none⟩, c) b) => by
    have h3 := h.cut m (b.length - m) (by have := HN.out; omega)
    rw [List.take_of_length_le (by rw [List.length_drop]; omega)] at h3
    have h1 := cloneE_any (some ⟨ab, ao + m, none⟩, c - m) (b.drop m) w (by rw [List.length_drop]; have := HN.out; omega) h3
    rw [show (b.drop m).length = n - m from by rw [List.length_drop]; have := HN.out; omega, ← hMM] at h1
    exact h1)
  have HLL := Lib.hid hLL
  have HMM := Lib.hid hMM
  have HM := Lib.hid (show b.length - 16 = m from by have := HN.out; omega)
  clear hb hq hj hg hf ha hc hbd htg hLL hMM hab hcell hc1 hl47 hl1000 hm CE HK
  go_upto_region 9 with (fail)
  have BB0 := Lib.hid (HB.out.drew)
  have KEEP := Lib.hid (fun w' (hW : Below W.heap.size W w') (hQ : Bx w' W.heap.size 23 #[Value.slice (some ⟨ab, ao, none⟩) n c]) => (show Below W.heap.size W w' ∧ Bx w' W.heap.size 23 #[Value.slice (some ⟨ab, ao, none⟩) n c] from ⟨hW, hQ⟩))
  have HJ_0 := Lib.hid (Bx.drew J.out)
  have HQ_0 := Lib.hid (Bx.drew HQ.out)
  have HG_0 := Lib.hid (Bx.drew HG.out)
  have HF_0 := Lib.hid (Bx.drew HF.out)
  have RB_0 := Lib.hid (RB.out.go ((Below.refl w6.heap.size w6).drew))
  refine wp_region_noPanic ?_
  refine wp_region_held_drew (S := fun w' => Below W.heap.size W w' ∧ Bx w' W.heap.size 23 #[Value.slice (some ⟨ab, ao, none⟩) n c]) (by kernel_rfl) (KEEP.out _ BB0.out HQ_0.out) (fun hHeld => ?_)
  obtain ⟨wz0, hwz⟩ : ∃ x, x = w6.drew := ⟨_, rfl⟩
  rw [← hwz] at BB0 hHeld HJ_0 HQ_0 HG_0 HF_0 RB_0 ⊢
  clear hwz
  refine wpAnyH_take (i := 0) (oi := ?_) (v := ?_) ?_ (by kernel_rfl) (by decide +kernel) (by decide +kernel) (fun _ _ _ h => h) ?_ (by assumption) ?_
  rotate_left 2
  focus (simp only [List.getElem?_toArray, List.getElem?_cons_zero] <;> rfl)
  · refine Or.inl ⟨by rfl, ?_⟩
    intro w hSw
    have hcell := (hSw.2).cell ((show #[Value.slice (some ⟨ab, ao, none⟩) n c][0]? = some (Value.slice (some ⟨ab, ao, none⟩) n c) from rfl))
    clear hSw
    go_simp <;> with_reducible rfl
  (try simp only [Act.put, List.setIfInBounds_toArray, List.set_cons_zero, List.set_cons_succ])
  refine wpAnyH_take (i := 1) (oi := ?_) (v := ?_) ?_ (by kernel_rfl) (by decide +kernel) (by decide +kernel) (fun _ _ _ h => h) ?_ (by assumption) ?_
  rotate_left 2
  focus (simp only [List.getElem?_toArray, List.getElem?_cons_succ, List.getElem?_cons_zero] <;> rfl)
  · refine Or.inl ⟨by rfl, ?_⟩
    intro w hSw
    (try dsimp only at hSw)
    go_simp <;> with_reducible rfl
  (try simp only [Act.put, List.setIfInBounds_toArray, List.set_cons_zero, List.set_cons_succ])
  refine wpAnyH_take (i := 4) (oi := ?_) (v := ?_) ?_ (by kernel_rfl) (by decide +kernel) (by decide +kernel) (fun _ _ _ h => h) ?_ (by assumption) ?_
  rotate_left 2
  focus (simp only [List.getElem?_toArray, List.getElem?_cons_succ, List.getElem?_cons_zero] <;> rfl)
  · refine Or.inl ⟨by rfl, ?_⟩
    intro w hSw
    have hcell := (hSw.2).cell ((show #[Value.slice (some ⟨ab, ao, none⟩) n c][0]? = some (Value.slice (some ⟨ab, ao, none⟩) n c) from rfl))
    clear hSw
    go_simp <;> with_reducible rfl
  (try simp only [Act.put, List.setIfInBounds_toArray, List.set_cons_zero, List.set_cons_succ])
  refine wpAnyH_take (i := 5) (oi := ?_) (v := ?_) ?_ (by kernel_rfl) (by decide +kernel) (by decide +kernel) (fun _ _ _ h => h) ?_ (by assumption) ?_
  rotate_left 2
  focus (simp only [List.getElem?_toArray, List.getElem?_cons_succ, List.getElem?_cons_zero] <;> rfl)
  · refine Or.inl ⟨by rfl, ?_⟩
    intro w hSw
    (try dsimp only at hSw)
    go_simp <;> with_reducible rfl
  (try simp only [Act.put, List.setIfInBounds_toArray, List.set_cons_zero, List.set_cons_succ])
  refine wpAnyH_take (i := 2) (oi := ?_) (v := ?_) ?_ (by kernel_rfl) (by decide +kernel) (by decide +kernel) (fun _ _ _ h => h) ?_ (by assumption) ?_
  rotate_left 2
  focus (simp only [List.getElem?_toArray, List.getElem?_cons_succ, List.getElem?_cons_zero] <;> rfl)
  · refine Or.inl ⟨by rfl, ?_⟩
    intro w hSw
    (try dsimp only at hSw)
    go_simp <;> with_reducible rfl
  (try simp only [Act.put, List.setIfInBounds_toArray, List.set_cons_zero, List.set_cons_succ])
  refine wpAnyH_take (i := 6) (oi := ?_) (v := ?_) ?_ (by kernel_rfl) (by decide +kernel) (by decide +kernel) (fun _ _ _ h => h) ?_ (by assumption) ?_
  rotate_left 2
  focus (simp only [List.getElem?_toArray, List.getElem?_cons_succ, List.getElem?_cons_zero] <;> rfl)
  · refine Or.inl ⟨by rfl, ?_⟩
    intro w hSw
    (try dsimp only at hSw)
    go_simp <;> with_reducible rfl
  (try simp only [Act.put, List.setIfInBounds_toArray, List.set_cons_zero, List.set_cons_succ])
  refine wpAnyH_ready (rs := [3]) (by decide +kernel) (by simp) ?_
  refine AllReadyH.cons (o := ?_) ?_ (fun K hK => ?_) AllReadyH.nil
  rotate_left 1
  focus (simp only [List.getElem?_toArray, List.getElem?_cons_succ, List.getElem?_cons_zero] <;> rfl)
  (try rw [if_pos (by rfl)])
  go_simp
  go_at_call 33
  refine (CA.out _ RB_0.out).mono ?_
  rintro e wz1 ⟨⟨ya, rfl, hk⟩, hb⟩
  have BB1 := Lib.hid (belG BB0.out hb BB0.out.size)
  have RB_1 := Lib.hid (RB_0.out.go hb)
  have HJ_1 := Lib.hid (Bx.go HJ_0.out hb)
  have HQ_1 := Lib.hid (Bx.go HQ_0.out hb)
  have HG_1 := Lib.hid (Bx.go HG_0.out hb)
  have HF_1 := Lib.hid (Bx.go HF_0.out hb)
  have KYA_1 := Lib.hid hk
  clear hk
  clear hb
  refine hK.out _ _ (KEEP.out _ BB1.out HQ_1.out) (fun hHeld => ?_)
  clear hK K
  (try simp only [Act.put, List.setIfInBounds_toArray, List.set_cons_zero, List.set_cons_succ])
  refine wpAnyH_ready (rs := [7]) (by decide +kernel) (by simp) ?_
  refine AllReadyH.cons (o := ?_) ?_ (fun K hK => ?_) AllReadyH.nil
  rotate_left 1
  focus (simp only [List.getElem?_toArray, List.getElem?_cons_succ, List.getElem?_cons_zero] <;> rfl)
  (try rw [if_pos (by rfl)])
  go_simp
  go_at_call 33
  refine (CT.out _ RB_1.out).mono ?_
  rintro e wz2 ⟨⟨yb, rfl, hk⟩, hb⟩
  have BB2 := Lib.hid (belG BB1.out hb BB1.out.size)
  have RB_2 := Lib.hid (RB_1.out.go hb)
  have KYA_2 := Lib.hid (KYA_1.out.go hb)
  have HJ_2 := Lib.hid (Bx.go HJ_1.out hb)
  have HQ_2 := Lib.hid (Bx.go HQ_1.out hb)
  have HG_2 := Lib.hid (Bx.go HG_1.out hb)
  have HF_2 := Lib.hid (Bx.go HF_1.out hb)
  have KYB_2 := Lib.hid hk
  clear hk
  clear hb
  refine hK.out _ _ (KEEP.out _ BB2.out HQ_2.out) (fun hHeld => ?_)
  clear hK K
  (try simp only [Act.put, List.setIfInBounds_toArray, List.set_cons_zero, List.set_cons_succ])
  refine wpAnyH_take (i := 8) (oi := ?_) (v := ?_) ?_ (by kernel_rfl) (by decide +kernel) (by decide +kernel) (fun _ _ _ h => h) ?_ (by assumption) ?_
  rotate_left 2
  focus (simp only [List.getElem?_toArray, List.getElem?_cons_succ, List.getElem?_cons_zero] <;> rfl)
  · refine Or.inl ⟨by rfl, ?_⟩
    intro w hSw
    (try dsimp only at hSw)
    go_simp <;> with_reducible rfl
  (try simp only [Act.put, List.setIfInBounds_toArray, List.set_cons_zero, List.set_cons_succ])
  refine wpAnyH_ready (rs := [9]) (by decide +kernel) (by simp) ?_
  refine AllReadyH.cons (o := ?_) ?_ (fun K hK => ?_) AllReadyH.nil
  rotate_left 1
  focus (simp only [List.getElem?_toArray, List.getElem?_cons_succ, List.getElem?_cons_zero] <;> rfl)
  have hcell := Bx.cell HG_2.out ((show (envC we0 e)[6]? = some (Value.slice none e.body.length 0) from rfl))
  have hthaw := Bx.thaw HG_2.out 6
  go_simp
  clear hcell hthaw
  obtain ⟨wz3, hwz⟩ : ∃ x, x = wz2.setCell ⟨ge, 6, none⟩ (Value.slice ya.1 LL.length ya.2) := ⟨_, rfl⟩
  have BB3 := Lib.hid (show Below W.heap.size W wz3 from by rw [hwz]; exact Below.setCell BB2.out LEG.out _)
  have hq := Bx.setOther HJ_2.out NEJG.out 6 (Value.slice ya.1 LL.length ya.2)
  rw [← hwz] at hq
  have HJ_3 := Lib.hid hq
  clear hq
  have hq := Bx.setOther HQ_2.out NEQG.out 6 (Value.slice ya.1 LL.length ya.2)
  rw [← hwz] at hq
  have HQ_3 := Lib.hid hq
  clear hq
  have HG_3 := Lib.hid (show Bx wz3 ge 25 (envC ⟨ya, (none, 0)⟩ (setB e LL)) from by rw [hwz]; exact Bx.set HG_2.out rfl)
  have hq := Bx.setOther HF_2.out NEFG.out 6 (Value.slice ya.1 LL.length ya.2)
  rw [← hwz] at hq
  have HF_3 := Lib.hid hq
  clear hq
  have hq := RB_2.out.putE HG_2.out (no8_env _ _) 6 (Value.slice ya.1 LL.length ya.2)
  rw [← hwz] at hq
  have RB_3 := Lib.hid hq
  clear hq
  have hq := KYA_2.out.putE HG_2.out (no8_env _ _) 6 (Value.slice ya.1 LL.length ya.2)
  rw [← hwz] at hq
  have KYA_3 := Lib.hid hq
  clear hq
  have hq := KYB_2.out.putE HG_2.out (no8_env _ _) 6 (Value.slice ya.1 LL.length ya.2)
  rw [← hwz] at hq
  have KYB_3 := Lib.hid hq
  clear hq
  rw [← hwz]
  clear hwz
  refine hK.out _ _ (KEEP.out _ BB3.out HQ_3.out) (fun hHeld => ?_)
  clear hK K
  (try simp only [Act.put, List.setIfInBounds_toArray, List.set_cons_zero, List.set_cons_succ])
  refine wpAnyH_take (i := 10) (oi := ?_) (v := ?_) ?_ (by kernel_rfl) (by decide +kernel) (by decide +kernel) (fun _ _ _ h => h) ?_ (by assumption) ?_
  rotate_left 2
  focus (simp only [List.getElem?_toArray, List.getElem?_cons_succ, List.getElem?_cons_zero] <;> rfl)
  · refine Or.inl ⟨by rfl, ?_⟩
    intro w hSw
    (try dsimp only at hSw)
    go_simp <;> with_reducible rfl
  (try simp only [Act.put, List.setIfInBounds_toArray, List.set_cons_zero, List.set_cons_succ])
  refine wpAnyH_ready (rs := [11]) (by decide +kernel) (by simp) ?_
  refine AllReadyH.cons (o := ?_) ?_ (fun K hK => ?_) AllReadyH.nil
  rotate_left 1
  focus (simp only [List.getElem?_toArray, List.getElem?_cons_succ, List.getElem?_cons_zero] <;> rfl)
  have hcell := Bx.cell HG_3.out ((show (envC ⟨ya, (none, 0)⟩ (setB e LL))[7]? = some (Value.slice none e.tag.length 0) from rfl))
  have hthaw := Bx.thaw HG_3.out 7
  go_simp
  clear hcell hthaw
  obtain ⟨wz4, hwz⟩ : ∃ x, x = wz3.setCell ⟨ge, 7, none⟩ (Value.slice yb.1 MM.length yb.2) := ⟨_, rfl⟩
  have BB4 := Lib.hid (show Below W.heap.size W wz4 from by rw [hwz]; exact Below.setCell BB3.out LEG.out _)
  have hq := Bx.setOther HJ_3.out NEJG.out 7 (Value.slice yb.1 MM.length yb.2)
  rw [← hwz] at hq
  have HJ_4 := Lib.hid hq
  clear hq
  have hq := Bx.setOther HQ_3.out NEQG.out 7 (Value.slice yb.1 MM.length yb.2)
  rw [← hwz] at hq
  have HQ_4 := Lib.hid hq
  clear hq
  have HG_4 := Lib.hid (show Bx wz4 ge 25 (envC ⟨ya, yb⟩ (setT (setB e LL) MM)) from by rw [hwz]; exact Bx.set HG_3.out rfl)
  have hq := Bx.setOther HF_3.out NEFG.out 7 (Value.slice yb.1 MM.length yb.2)
  rw [← hwz] at hq
  have HF_4 := Lib.hid hq
  clear hq
  have hq := RB_3.out.putE HG_3.out (no8_env _ _) 7 (Value.slice yb.1 MM.length yb.2)
  rw [← hwz] at hq
  have RB_4 := Lib.hid hq
  clear hq
  have hq := KYA_3.out.putE HG_3.out (no8_env _ _) 7 (Value.slice yb.1 MM.length yb.2)
  rw [← hwz] at hq
  have KYA_4 := Lib.hid hq
  clear hq
  have hq := KYB_3.out.putE HG_3.out (no8_env _ _) 7 (Value.slice yb.1 MM.length yb.2)
  rw [← hwz] at hq
  have KYB_4 := Lib.hid hq
  clear hq
  rw [← hwz]
  clear hwz
  refine hK.out _ _ (KEEP.out _ BB4.out HQ_4.out) (fun hHeld => ?_)
  clear hK K
  (try simp only [Act.put, List.setIfInBounds_toArray, List.set_cons_zero, List.set_cons_succ])
  refine wpAnyH_done (by decide +kernel) ?_ _
  refine NoPanic.normal ?_
  clear KEEP
  have hcf : wz4.cell? ⟨ge + 2, 0, none⟩ = some (.int .i64 q) := HF_4.out.cell rfl
  rcases HC.out with ⟨rfl, -, hall, rfl⟩ | ⟨rfl, hbad⟩
  case inr =>
    have HI := Lib.hid ((HR.out True).2 (bad_envE hbad))
    clear hbad HC
    go_wp2_with (refine storeX (.tmp 2) (.tmp 38) (W.heap.size + 1) (envC we0 ev0) _ tyEnv rfl (envC_one _ _) HJ_4.out rfl rfl rfl rfl rfl ?_)
    (try dsimp only)
    refine bodyPost_ret (retX2 rfl _ _ (W.heap.size + 1) (envC we0 ev0) _ tyEnv rfl rfl rfl (Bx.setRow HJ_4.out _)) rfl ?_
    exact ⟨by rw [HI.out]; exact ⟨we0, rfl, envR0 _⟩, Below.setRowG BB4.out (Nat.le_succ _) _⟩
  case inl =>
    have HE := Lib.hid (show setT (setB (evR b 6) LL) MM = envOf b from by rw [HLL.out, HMM.out]; exact all_envE HM.out)
    have RG := Lib.hid (show EnvR wz4 ⟨ya, yb⟩ (envOf b) from by rw [← HE.out]; exact ⟨KYA_4.out, KYB_4.out⟩)
    have HGG := Lib.hid (show BxE wz4 ge ⟨ya, yb⟩ (envOf b) from by rw [← HE.out]; exact HG_4.out)
    clear hall HC
    go_wp2_with (refine loadX (.tmp 4) ge _ tyEnv rfl HGG.out rfl rfl rfl ?_)
    refine (right0_any _ _ _).mono ?_
    rintro r w8 ⟨rfl, hb⟩
    have HB8 := Lib.hid (belG BB4.out hb BB4.out.size)
    have G8 := Lib.hid (Bx.go HGG.out hb)
    have J8 := Lib.hid (Bx.go HJ_4.out hb)
    have RE8 := Lib.hid (RG.out.go hb)
    clear hb
    by_cases hr : RightE (envOf b)
    · rw [decide_eq_true hr]
      have HI := Lib.hid ((HR.out True).1 hr)
      clear hr
      go_wp2_with (first | (refine loadX (.tmp 4) ge _ tyEnv rfl G8.out rfl rfl rfl ?_) | (refine storeX (.tmp 2) (.tmp 39) (W.heap.size + 1) (envC ⟨ya, yb⟩ (envOf b)) _ tyEnv rfl (envC_one _ _) J8.out rfl rfl rfl rfl rfl ?_))
      (try dsimp only)
      refine bodyPost_ret (retX2 rfl _ _ (W.heap.size + 1) (envC ⟨ya, yb⟩ (envOf b)) _ tyEnv rfl rfl rfl (Bx.setRow J8.out _)) rfl ?_
      rw [HI.out]
      exact envEnd HB8.out (Nat.le_succ _) J8.out (no8_env _ _) RE8.out
    · rw [decide_eq_false hr]
      have HI := Lib.hid ((HR.out True).2 hr)
      clear hr
      go_wp2_with (refine storeX (.tmp 2) (.tmp 38) (W.heap.size + 1) (envC we0 ev0) _ tyEnv rfl (envC_one _ _) J8.out rfl rfl rfl rfl rfl ?_)
      (try dsimp only)
      refine bodyPost_ret (retX2 rfl _ _ (W.heap.size + 1) (envC we0 ev0) _ tyEnv rfl rfl rfl (Bx.setRow J8.out _)) rfl ?_
      exact ⟨by rw [HI.out]; exact ⟨we0, rfl, envR0 _⟩, Below.setRowG HB8.out (Nat.le_succ _) _⟩
end Go.Proofs.Ytjkkceecagbjjaa
/- Package env: what each call answers. -/

namespace Go.Proofs.Ytjkkceecagbjjaa
open Go.RowKit

set_option maxRecDepth 100000 in
theorem fewE.k {e : Ev} (h : fewE e) : FewEk e := ⟨Nat.le_trans h.1 (by decide), Nat.le_trans h.2 (by decide)⟩
set_option maxRecDepth 100000 in
theorem RightE.k {e : Ev} (h : RightE e) : FewEk e := ⟨by have := h.1.2.2.2.2.2.2.2.2; omega, by have := h.2; omega⟩
set_option maxRecDepth 100000 in
theorem right_64e {e : Ev} (h : RightE e) : Ev64 e := by
  obtain ⟨⟨⟨a1, a2⟩, ⟨b1, b2⟩, ⟨c1, c2⟩, k, d, g1, g2, -, -⟩, -⟩ := h
  refine ⟨?_, ?_, ?_, ?_, ?_, ?_⟩ <;> unfold B64e <;> omega
set_option maxRecDepth 100000 in
theorem read_right {b : List UInt8} (h : (readE b).2 = 0) : RightE (readE b).1 := by
  unfold readE at h ⊢
  split at h
  · exact absurd h (by decide)
  · split at h
    · exact absurd h (by decide)
    · split at h
      · rename_i h1 h2 h3; rw [if_neg h1, if_neg h2, if_pos h3]; exact h3
      · exact absurd h (by decide)
set_option maxRecDepth 100000 in
theorem read_none {b : List UInt8} (h : (readE b).2 ≠ 0) : (readE b).1 = ev0 := by
  unfold readE at h ⊢
  split
  · rfl
  · split
    · rfl
    · split
      · rename_i h1 h2 h3; rw [if_neg h1, if_neg h2, if_pos h3] at h; exact absurd rfl h
      · rfl
set_option maxRecDepth 100000 in
theorem ev0_64 : Ev64 ev0 := by refine ⟨?_, ?_, ?_, ?_, ?_, ?_⟩ <;> unfold B64e <;> decide
set_option maxRecDepth 100000 in
theorem read_64 (b : List UInt8) : Ev64 (readE b).1 := by
  by_cases h : (readE b).2 = 0
  · exact right_64e (read_right h)
  · rw [read_none h]; exact ev0_64
set_option maxRecDepth 100000 in
theorem read_few (b : List UInt8) : FewEk (readE b).1 := by
  by_cases h : (readE b).2 = 0
  · exact (read_right h).k
  · rw [read_none h]; exact ⟨by decide, by decide⟩
set_option maxRecDepth 100000 in
theorem eRight_any (x : We) (e : Ev) (W : World) (_hf : FewEk e) (_hl : Ev64 e) (_hr : EnvR W x e) : Calls Try.prog 16 #[.agg (envC x e)] W fun r W' => r = .returned (.bool (decide (RightE e))) ∧ Below W.heap.size W W' := right0_any x e W
set_option maxRecDepth 100000 in
theorem eSame_any (x y : We) (a b : Ev) (W : World) (_hf : FewEk a) (_hf2 : FewEk b) (_hl : Ev64 a) (_hl2 : Ev64 b) (hr : EnvR W x a) (hs : EnvR W y b) : Calls Try.prog 18 #[.agg (envC x a), .agg (envC y b)] W fun r W' => r = .returned (.bool (decide (a = b))) ∧ Below W.heap.size W W' := same0_any x y a b W hr hs
set_option maxRecDepth 100000 in
theorem eInput_any (x : We) (e : Ev) (W : World) (_hf : FewEk e) (_hl : Ev64 e) (hr : EnvR W x e) : Calls Try.prog 11 #[.agg (envC x e)] W fun r W' => AnsOwE W.heap.size W' r (inputE e).1 (inputE e).2 ∧ Below W.heap.size W W' := input0_any x e W hr
set_option maxRecDepth 100000 in
theorem eWrite_any (x : We) (e : Ev) (W : World) (_hf : FewEk e) (_hl : Ev64 e) (hr : EnvR W x e) : Calls Try.prog 13 #[.agg (envC x e)] W fun r W' => AnsOwE W.heap.size W' r (writeE e).1 (writeE e).2 ∧ Below W.heap.size W W' := write0_any x e W hr
set_option maxRecDepth 100000 in
theorem eRead_any (x : Wke) (b : List UInt8) (W : World) (_hl : b.length ≤ 50000) (hk : KeyE W x b) : Calls Try.prog 20 #[.slice x.1 b.length x.2] W fun r W' => AnsEv W' r (readE b).1 (readE b).2 ∧ Below W.heap.size W W' := read0_any x b W hk

set_option maxRecDepth 100000 in
/-- a slice of the call's own, as a key -/
theorem Ow.keyE {w : World} {B : Nat} {v : Value} {l : List UInt8} (h : Ow w B v l) : ∃ y : Wke, v = .slice y.1 l.length y.2 ∧ KeyE w y l := by
  obtain ⟨A, c, h1, h2, h3, h4⟩ := h.form
  exact ⟨(A, c), h1, h2, h3, h4⟩
/-- a call's answer: bytes, and a number -/
def AnsKe (W' : World) (e : Ending) (l : List UInt8) (m : Nat) (n : Int) : Prop := ∃ y : Wke, e = .returned (.tuple #[.slice y.1 m y.2, .int .i64 n]) ∧ KeyE W' y l
set_option maxRecDepth 100000 in
theorem AnsOwE.ke {B : Nat} {W' : World} {e : Ending} {l : List UInt8} {n : Int} (h : AnsOwE B W' e l n) : AnsKe W' e l l.length n := by
  obtain ⟨v, h1, h2⟩ := h
  obtain ⟨y, rfl, hk⟩ := h2.keyE
  exact ⟨y, h1, hk⟩
set_option maxRecDepth 100000 in
theorem sameE_any (x y : Wke) (l k : List UInt8) (W : World) (hx : KeyE W x l) (hy : KeyE W y k) : Calls Try.prog 15 #[.slice x.1 l.length x.2, .slice y.1 k.length y.2] W fun e W' => e = .returned (.bool (decide (l = k))) ∧ W = W' := same_any x.1 y.1 l k x.2 y.2 _ _ W hx.2.2 hy.2.2
end Go.Proofs.Ytjkkceecagbjjaa
/- An envelope that came in by value, opened. -/

namespace Go.Proofs.Ytjkkceecagbjjaa
open Go.ChangeShapes Go.WideShapes Go.ChangeAt Go.RowKit

set_option maxRecDepth 100000 in
theorem trod_struct7e {P : Program} {H : Type} {enc : TypeId × Value → H} {w : World} {base : Nat} {spare : Nat → Bool} {held : Bool} {t : TypeId} {f0 f1 f2 f3 f4 f5 f6 : Field} {fuel : Nat} {cs : List Value} {x : DataW H × List MemPlace} (ht : P.underlying t = some (.struct #[f0, f1, f2, f3, f4, f5, f6])) (h : DataW.trod enc P w base spare held fuel t cs = some x) :
    ∃ y0 y1 y2 y3 y4 y5 y6 n, DataW.trod enc P w base spare held n f0.type ((cs.drop f0.offset).take (P.cellsOf f0.type)) = some y0 ∧ DataW.trod enc P w base spare held n f1.type ((cs.drop f1.offset).take (P.cellsOf f1.type)) = some y1 ∧ DataW.trod enc P w base spare held n f2.type ((cs.drop f2.offset).take (P.cellsOf f2.type)) = some y2 ∧ DataW.trod enc P w base spare held n f3.type ((cs.drop f3.offset).take (P.cellsOf f3.type)) = some y3 ∧ DataW.trod enc P w base spare held n f4.type ((cs.drop f4.offset).take (P.cellsOf f4.type)) = some y4 ∧ DataW.trod enc P w base spare held n f5.type ((cs.drop f5.offset).take (P.cellsOf f5.type)) = some y5 ∧ DataW.trod enc P w base spare held n f6.type ((cs.drop f6.offset).take (P.cellsOf f6.type)) = some y6 := by
  obtain ⟨xs, n, _, rfl, hl, hlen, hf⟩ := DataW.trod_struct ht h
  match xs, hlen with
  | [y0, y1, y2, y3, y4, y5, y6], _ => exact ⟨y0, y1, y2, y3, y4, y5, y6, n, by simpa using hf 0 f0 rfl, by simpa using hf 1 f1 rfl, by simpa using hf 2 f2 rfl, by simpa using hf 3 f3 rfl, by simpa using hf 4 f4 rfl, by simpa using hf 5 f5 rfl, by simpa using hf 6 f6 rfl⟩
set_option maxRecDepth 100000 in
theorem u16_bd5 {a : Int} (h : (Lit.int .u16 a).wf = true) : 0 ≤ a ∧ a ≤ 65535 := by
  simpa [Lit.wf, IntKind.min, IntKind.max, IntKind.signed, IntKind.bits] using h
set_option maxRecDepth 100000 in
theorem int_inE {H : Type} {enc : TypeId × Value → H} {W : World} {base fuel : Nat} {spare : Nat → Bool} {held : Bool} {a : Value} {y : DataW H × List MemPlace} (hf : DataW.trod enc Try.prog W base spare held fuel 3 [a] = some y) : ∃ u : Int, a = .int .i64 u ∧ B64e u := by
  obtain ⟨u, e, -, w⟩ := DataW.trod_int Try.underlying3 hf
  simp only [List.cons.injEq, and_true] at e
  exact ⟨u, e, i64_bd w⟩
set_option maxRecDepth 100000 in
theorem row_inE {H : Type} {enc : TypeId × Value → H} {W : World} {base fuel : Nat} {held : Bool} {a : Value} {y : DataW H × List MemPlace} (hf : DataW.trod enc Try.prog W base (fun _ => true) held fuel 23 [a] = some y) : ∃ (x : Wke) (l : List UInt8), a = .slice x.1 l.length x.2 ∧ KeyE W x l := by
  obtain ⟨A, m, k, e0⟩ := Go.Joins.slice_form Try.underlying23 hf
  simp only [List.cons.injEq, and_true] at e0
  subst e0
  obtain ⟨l, rfl, p1, p2, p3⟩ := bytes_in hf
  exact ⟨(A, k), l, rfl, p1, p2, p3⟩
set_option maxRecDepth 100000 in
theorem env_cells {H : Type} {enc : TypeId × Value → H} {W : World} {base fuel : Nat} {held : Bool} {v0 v1 v2 v3 v4 v5 v6 v7 : Value} {y : DataW H × List MemPlace}
    (hf : DataW.trod enc Try.prog W base (fun _ => true) held fuel 25 [v0, v1, v2, v3, v4, v5, v6, v7] = some y) :
    ∃ x e, #[v0, v1, v2, v3, v4, v5, v6, v7] = envC x e ∧ Ev64 e ∧ EnvR W x e := by
  obtain ⟨y0, y1, y2, y3, y4, y5, y6, n, h0, h1, h2, h3, h4, h5, h6⟩ := trod_struct7e Try.underlying25 hf
  have k1 : Try.prog.cellsOf 3 = 1 := by kernel_rfl
  have k2 : Try.prog.cellsOf 23 = 1 := by kernel_rfl
  have k3 : Try.prog.cellsOf 22 = 2 := by kernel_rfl
  obtain ⟨a0, rfl, b0⟩ := int_inE (a := v0) (by simpa [k1] using h0)
  obtain ⟨a1, rfl, b1⟩ := int_inE (a := v1) (by simpa [k1] using h1)
  have h2' : DataW.trod enc Try.prog W base (fun _ => true) held n 22 [v2, v3] = some y2 := by simpa [k3] using h2
  obtain ⟨xs, m, _, rfl, hl, hlen, hx⟩ := DataW.trod_array Try.underlying22 h2'
  have hx' : ∀ (i : Nat) (v : Value), i < 2 → [v2, v3][i]? = some v → ∃ u : Int, v = .int .i64 u ∧ B64e u := fun i v hi hv => by
    have q := hx i (by omega)
    rw [k1, Nat.mul_one] at q
    obtain ⟨hlt, he⟩ := List.getElem?_eq_some_iff.1 hv
    rw [show ([v2, v3].drop i).take 1 = [v] by rw [List.drop_eq_getElem_cons hlt, List.take_succ_cons, List.take_zero, he]] at q
    rw [List.getElem?_eq_getElem (show i < xs.length by omega)] at q
    exact int_inE q
  obtain ⟨a2, rfl, b2⟩ := hx' 0 v2 (by decide) rfl
  obtain ⟨a3, rfl, b3⟩ := hx' 1 v3 (by decide) rfl
  obtain ⟨a4, rfl, b4⟩ := int_inE (a := v4) (by simpa [k1] using h3)
  obtain ⟨a5, rfl, b5⟩ := int_inE (a := v5) (by simpa [k1] using h4)
  obtain ⟨x6, l6, rfl, r6⟩ := row_inE (a := v6) (by simpa [k2] using h5)
  obtain ⟨x7, l7, rfl, r7⟩ := row_inE (a := v7) (by simpa [k2] using h6)
  exact ⟨⟨x6, x7⟩, ⟨a0, a1, a2, a3, a4, a5, l6, l7⟩, rfl, ⟨b0, b1, b2, b3, b4, b5⟩, r6, r7⟩
set_option maxRecDepth 100000 in
theorem array8e {α : Type} {cs : Array α} (h : cs.size = 8) : ∃ v0 v1 v2 v3 v4 v5 v6 v7, cs = #[v0, v1, v2, v3, v4, v5, v6, v7] := by
  obtain ⟨l⟩ := cs
  match l, h with
  | [v0, v1, v2, v3, v4, v5, v6, v7], _ => exact ⟨v0, v1, v2, v3, v4, v5, v6, v7, rfl⟩
set_option maxRecDepth 100000 in
theorem env_in {H : Type} {enc : TypeId × Value → H} {W : World} {base : Nat} {held : Bool} {b0 : Nat} {v : Value} {d : DataW H} {p : List MemPlace} (hv : Value.okWide Try.prog W .any b0 25 v) (h : DataW.Trod enc Try.prog W base (fun _ => true) held 25 v d p) :
    ∃ x e, v = .agg (envC x e) ∧ Ev64 e ∧ EnvR W x e := by
  obtain ⟨cs, rfl, hsz⟩ := okWide_struct Try.underlying25 hv
  obtain ⟨v0, v1, v2, v3, v4, v5, v6, v7, rfl⟩ := array8e (hsz.trans (by kernel_rfl))
  obtain ⟨fuel, hf⟩ := h
  obtain ⟨x, r, e, h1, h2⟩ := env_cells hf
  exact ⟨x, r, by rw [e], h1, h2⟩
end Go.Proofs.Ytjkkceecagbjjaa
