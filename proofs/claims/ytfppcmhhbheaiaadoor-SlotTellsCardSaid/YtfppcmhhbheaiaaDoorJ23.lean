
/- Package slot: Take. -/
import Derived.Test.YtfppcmhhbheaiaaDoorJ22
namespace Go.Proofs.YtfppcmhhbheaiaaDoor
open Go.RowKit

/-- bytes in a block of the call's own, of which sixteen are in use -/
def OwS (w : World) (B g c : Nat) (l : List UInt8) : Prop := B ≤ g ∧ 16 ≤ c ∧ c ≤ 9223372036854775807 ∧ Ow w B (.slice (some ⟨g, 0, none⟩) 16 c) l
set_option maxRecDepth 100000 in
theorem OwS.go {w w' : World} {B g c : Nat} {l : List UInt8} (h : OwS w B g c l) (hb : Below w.heap.size w w') : OwS w' B g c l := ⟨h.1, h.2.1, h.2.2.1, h.2.2.2.goB hb⟩
set_option maxRecDepth 100000 in
theorem OwS.lt {w : World} {B g c : Nat} {l : List UInt8} (h : OwS w B g c l) : g < w.heap.size := by
  rcases h.2.2.2.2 with ⟨h1, -⟩ | ⟨g', cap, cur, e, hB, hg, -⟩
  · cases h1
  · simp only [Value.slice.injEq, Option.some.injEq, Addr.mk.injEq] at e
    rw [e.1.1]
    exact (Array.getElem?_eq_some_iff.1 hg).1
set_option maxRecDepth 100000 in
theorem OwS.ne {w : World} {B g c k : Nat} {T : TypeId} {C : Array Value} {l : List UInt8} (h : OwS w B g c l) (hk : Bx w k T C) (hT : T ≠ 5) : g ≠ k := by
  rintro rfl
  rcases h.2.2.2.2 with ⟨h1, -⟩ | ⟨g', cap, cur, e, hB, hg, -⟩
  · cases h1
  · simp only [Value.slice.injEq, Option.some.injEq, Addr.mk.injEq] at e
    rw [← e.1.1] at hg
    have h2 : some (Obj.cells cur 5 (0, 0)) = some (Obj.cells C T (0, 0)) := hg.symm.trans hk
    injection h2 with h2
    injection h2 with h3 h4
    exact hT h4.symm
set_option maxRecDepth 100000 in
theorem OwS.setRow {w : World} {B g c k : Nat} {T : TypeId} {C C' : Array Value} {l : List UInt8} (h : OwS w B g c l) (hk : Bx w k T C) (hT : T ≠ 5) : OwS (w.setRow k C') B g c l := ⟨h.1, h.2.1, h.2.2.1, h.2.2.2.setRowS (h.ne hk hT) C'⟩
set_option maxRecDepth 100000 in
theorem OwS.key {w : World} {B g c : Nat} {l : List UInt8} (h : OwS w B g c l) (_hl : l.length = 16) : KeyB w (some ⟨g, 0, none⟩, c) l := by
  obtain ⟨A, d, e, h1, h2, h3⟩ := h.2.2.2.form
  simp only [Value.slice.injEq] at e
  obtain ⟨rfl, -, rfl⟩ := e
  exact ⟨h1, h2, h3⟩
set_option maxRecDepth 100000 in
theorem OwS.of {w : World} {B B' g c n : Nat} {l : List UInt8} (h : Ow w B (.slice (some ⟨g, 0, none⟩) n c) l) (hn : n = 16) (hB : B' ≤ B) (hg : B ≤ g) (h1 : 16 ≤ c) (h2 : c ≤ 9223372036854775807) : OwS w B' g c l := by
  subst hn
  exact ⟨Nat.le_trans hB hg, h1, h2, h.baseB hB⟩
set_option maxRecDepth 100000 in
theorem no8_two (A B : Option Addr) (n m : Nat) : No8 #[Value.slice A 16 n, Value.slice B 16 m] := by
  intro v hv n
  simp only [List.mem_cons, List.not_mem_nil, or_false] at hv
  rcases hv with rfl | rfl <;> intro h <;> cases h
def SzS (n : Nat) (w : World) : Prop := n ≤ w.heap.size
set_option maxRecDepth 100000 in
theorem SzS.go {n : Nat} {w w' : World} (h : SzS n w) (hb : Below w.heap.size w w') : SzS n w' := Nat.le_trans h hb.size
set_option maxRecDepth 100000 in
theorem SzS.setRow {n k : Nat} {w : World} {T : TypeId} {C C' : Array Value} (h : SzS n w) (_hk : Bx w k T C) (_hT : T ≠ 5) : SzS n (w.setRow k C') := by
  unfold SzS at h ⊢
  have e : (w.setRow k C').heap.size = w.heap.size := by simp [World.setRow]
  omega
set_option maxRecDepth 100000 in
set_option maxHeartbeats 4000000 in
theorem take_any13 (x : Wt) (s : Sr) (cut : Int) (W : World) (hT : Ks W) (hR : RightS s) (_hc : -9223372036854775808 ≤ cut ∧ cut ≤ 9223372036854775807) (hx : StR W x s) : Calls Tryd.prog 22 #[.agg (storC x s), .int .i64 cut] W fun e W' => AnsSt3 W' e (takeS s cut).1 (takeS s cut).2.1 (takeS s cut).2.2 ∧ Below W.heap.size W W' := by
  obtain ⟨⟨XA, xa⟩, ⟨XB, xb⟩⟩ := x
  obtain ⟨V, hV, hb, hg, hj, hs⟩ := bx2 W 24 24 (storC ⟨(XA, xa), (XB, xb)⟩ s) (storC wt0 sr0)
  have HB := Lib.hid hb
  have HV := Lib.hid (show V = (W.alloc (.cells (storC ⟨(XA, xa), (XB, xb)⟩ s) 24)).alloc (.cells #[.slice none 0 0, .slice none 0 0] 24) from hV)
  have G := Lib.hid hg
  have J := Lib.hid hj
  have KA := Lib.hid (show KeyB V (XA, xa) s.a from hx.1.go hb)
  have KB := Lib.hid (show KeyB V (XB, xb) s.b from hx.2.go hb)
  have SZ := Lib.hid (show SzS (W.heap.size + 2) V from Nat.le_of_eq hs.symm)
  have HT := Lib.hid hT
  have HLA := Lib.hid hR.1
  have HLB := Lib.hid hR.2
  have LEG := Lib.hid (Nat.le_refl W.heap.size)
  have NEJG := Lib.hid (show W.heap.size + 1 ≠ W.heap.size from by omega)
  have CA := Lib.hid (fun w h => cloneS_any (XA, xa) s.a w (by rw [HLA.out]; decide) (by rw [HLA.out]; decide) h)
  have CB := Lib.hid (fun w h => cloneS_any (XB, xb) s.b w (by rw [HLB.out]; decide) (by rw [HLB.out]; decide) h)
  obtain ⟨C, hC⟩ : ∃ C, C = storC ⟨(XA, xa), (XB, xb)⟩ s := ⟨_, rfl⟩
  unfold AnsCl at CA CB
  rw [HLA.out] at CA
  rw [HLB.out] at CB
  have G0 := Lib.hid (show Bx V W.heap.size 24 #[.slice XA 16 xa, .slice XB 16 xb] from by
    have h5 := G.out
    unfold storC at h5
    rw [HLA.out, HLB.out] at h5
    exact h5)
  rw [← hC] at HV ⊢
  clear hV hb hg hj hx hs hC G hT _hc
  have G := G0
  clear G0
  go_enter Tryd.func22, Tryd.ntmps22
  go_upto_region 1 with (fail)
  rw [← HV.out]
  clear HV
  go_cut [2] (fun t2 wx => t2 = .pointer (some ⟨W.heap.size, 0, none⟩) ∧ ∃ ga ca gb cb, Below W.heap.size W wx ∧ Bx wx W.heap.size 24 (storC ⟨(some ⟨ga, 0, none⟩, ca), (some ⟨gb, 0, none⟩, cb)⟩ s) ∧ Bx wx (W.heap.size + 1) 24 (storC wt0 sr0) ∧ OwS wx (W.heap.size + 2) ga ca s.a ∧ OwS wx (W.heap.size + 2) gb cb s.b ∧ ga ≠ gb ∧ Ks wx)
  case first =>
    have BB0 := Lib.hid (HB.out.drew)
    have KEEP := Lib.hid (fun w' (hW : Below W.heap.size W w') => (show Below W.heap.size W w' from hW))
    have HG_0 := Lib.hid (Bx.drew G.out)
    have HJ_0 := Lib.hid (Bx.drew J.out)
    have KA_0 := Lib.hid (KA.out.go ((Below.refl V.heap.size V).drew))
    have KB_0 := Lib.hid (KB.out.go ((Below.refl V.heap.size V).drew))
    have SZ_0 := Lib.hid (SZ.out.go ((Below.refl V.heap.size V).drew))
    refine wp_region_noPanic ?_
    refine wp_region_held_drew (S := fun w' => Below W.heap.size W w') (by kernel_rfl) (KEEP.out _ BB0.out) (fun hHeld => ?_)
    obtain ⟨wz0, hwz⟩ : ∃ x, x = V.drew := ⟨_, rfl⟩
    rw [← hwz] at BB0 hHeld HG_0 HJ_0 KA_0 KB_0 SZ_0 ⊢
    clear hwz
    refine wpAnyH_take (i := 0) (oi := ?_) (v := ?_) ?_ (by kernel_rfl) (by decide +kernel) (by decide +kernel) (fun _ _ _ h => h) ?_ (by assumption) ?_
    rotate_left 2
    focus (simp only [List.getElem?_toArray, List.getElem?_cons_zero] <;> rfl)
    · refine Or.inl ⟨by rfl, ?_⟩
      intro w hSw
      (try dsimp only at hSw)
      go_simp <;> with_reducible rfl
    (try simp only [Act.put, List.setIfInBounds_toArray, List.set_cons_zero, List.set_cons_succ])
    refine wpAnyH_take (i := 3) (oi := ?_) (v := ?_) ?_ (by kernel_rfl) (by decide +kernel) (by decide +kernel) (fun _ _ _ h => h) ?_ (by assumption) ?_
    rotate_left 2
    focus (simp only [List.getElem?_toArray, List.getElem?_cons_succ, List.getElem?_cons_zero] <;> rfl)
    · refine Or.inl ⟨by rfl, ?_⟩
      intro w hSw
      (try dsimp only at hSw)
      go_simp <;> with_reducible rfl
    (try simp only [Act.put, List.setIfInBounds_toArray, List.set_cons_zero, List.set_cons_succ])
    refine wpAnyH_ready (rs := [1, 4]) (by decide +kernel) (by simp) ?_
    refine AllReadyH.cons (o := ?_) ?_ (fun K hK => ?_) ?_
    rotate_left 1
    focus (simp only [List.getElem?_toArray, List.getElem?_cons_succ, List.getElem?_cons_zero] <;> rfl)
    · have hcell := Bx.cell HG_0.out (show #[Value.slice XA 16 xa, Value.slice XB 16 xb][0]? = some (Value.slice XA 16 xa) from rfl)
      go_simp
      clear hcell
      refine hK.out _ _ (KEEP.out _ BB0.out) (fun hHeld => ?_)
      clear hK K
      (try simp only [Act.put, List.setIfInBounds_toArray, List.set_cons_zero, List.set_cons_succ])
      refine wpAnyH_ready (rs := [2, 4]) (by decide +kernel) (by simp) ?_
      refine AllReadyH.cons (o := ?_) ?_ (fun K hK => ?_) ?_
      rotate_left 1
      focus (simp only [List.getElem?_toArray, List.getElem?_cons_succ, List.getElem?_cons_zero] <;> rfl)
      · (try rw [if_pos (by rfl)])
        go_simp
        go_at_call 32
        refine (CA.out _ KA_0.out).mono ?_
        rintro e wz2 ⟨⟨ga, ca, rfl, hk⟩, hb⟩
        have BB2 := Lib.hid (belG BB0.out hb BB0.out.size)
        have KA_2 := Lib.hid (KA_0.out.go hb)
        have KB_2 := Lib.hid (KB_0.out.go hb)
        have SZ_2 := Lib.hid (SZ_0.out.go hb)
        have HG_2 := Lib.hid (Bx.go HG_0.out hb)
        have HJ_2 := Lib.hid (Bx.go HJ_0.out hb)
        obtain ⟨hc1, hc2, hge, hlt, hown⟩ := hk
        have OXA_2 := Lib.hid (OwS.of (B' := W.heap.size + 2) hown rfl (by first | exact SZ_0.out | exact SZ_1.out | exact SZ_2.out | exact SZ_3.out | exact SZ_4.out | exact SZ_5.out | exact SZ_6.out | exact SZ_7.out | exact SZ_8.out | exact SZ_9.out | exact SZ_10.out | exact SZ_11.out | exact SZ_12.out | exact SZ_13.out | exact SZ_14.out | exact SZ_15.out | exact SZ_16.out | exact SZ_17.out | exact SZ_18.out | exact SZ_19.out | exact SZ_20.out | exact SZ_21.out | exact SZ_22.out | exact SZ_23.out) hge hc1 hc2)
        have LTA := Lib.hid hlt
        clear hc1 hc2 hge hlt hown
        clear hb
        refine hK.out _ _ (KEEP.out _ BB2.out) (fun hHeld => ?_)
        clear hK K
        (try simp only [Act.put, List.setIfInBounds_toArray, List.set_cons_zero, List.set_cons_succ])
        refine wpAnyH_ready (rs := [4]) (by decide +kernel) (by simp) ?_
        refine AllReadyH.cons (o := ?_) ?_ (fun K hK => ?_) AllReadyH.nil
        rotate_left 1
        focus (simp only [List.getElem?_toArray, List.getElem?_cons_succ, List.getElem?_cons_zero] <;> rfl)
        have hcell := Bx.cell HG_2.out (show #[Value.slice XA 16 xa, Value.slice XB 16 xb][1]? = some (Value.slice XB 16 xb) from rfl)
        go_simp
        clear hcell
        refine hK.out _ _ (KEEP.out _ BB2.out) (fun hHeld => ?_)
        clear hK K
        (try simp only [Act.put, List.setIfInBounds_toArray, List.set_cons_zero, List.set_cons_succ])
        refine wpAnyH_ready (rs := [5]) (by decide +kernel) (by simp) ?_
        refine AllReadyH.cons (o := ?_) ?_ (fun K hK => ?_) AllReadyH.nil
        rotate_left 1
        focus (simp only [List.getElem?_toArray, List.getElem?_cons_succ, List.getElem?_cons_zero] <;> rfl)
        (try rw [if_pos (by rfl)])
        go_simp
        go_at_call 32
        refine (CB.out _ KB_2.out).mono ?_
        rintro e wz4 ⟨⟨gb, cb, rfl, hk⟩, hb⟩
        have BB4 := Lib.hid (belG BB2.out hb BB2.out.size)
        have KA_4 := Lib.hid (KA_2.out.go hb)
        have KB_4 := Lib.hid (KB_2.out.go hb)
        have SZ_4 := Lib.hid (SZ_2.out.go hb)
        have OXA_4 := Lib.hid (OXA_2.out.go hb)
        have HG_4 := Lib.hid (Bx.go HG_2.out hb)
        have HJ_4 := Lib.hid (Bx.go HJ_2.out hb)
        obtain ⟨hc1, hc2, hge, hlt, hown⟩ := hk
        have OXB_4 := Lib.hid (OwS.of (B' := W.heap.size + 2) hown rfl (by first | exact SZ_0.out | exact SZ_1.out | exact SZ_2.out | exact SZ_3.out | exact SZ_4.out | exact SZ_5.out | exact SZ_6.out | exact SZ_7.out | exact SZ_8.out | exact SZ_9.out | exact SZ_10.out | exact SZ_11.out | exact SZ_12.out | exact SZ_13.out | exact SZ_14.out | exact SZ_15.out | exact SZ_16.out | exact SZ_17.out | exact SZ_18.out | exact SZ_19.out | exact SZ_20.out | exact SZ_21.out | exact SZ_22.out | exact SZ_23.out) hge hc1 hc2)
        have NEAB := Lib.hid (show ga ≠ gb from by have h5 := LTA.out; omega)
        clear hc1 hc2 hge hlt hown
        clear hb
        refine hK.out _ _ (KEEP.out _ BB4.out) (fun hHeld => ?_)
        clear hK K
        (try simp only [Act.put, List.setIfInBounds_toArray, List.set_cons_zero, List.set_cons_succ])
        refine wpAnyH_take (i := 6) (oi := ?_) (v := ?_) ?_ (by kernel_rfl) (by decide +kernel) (by decide +kernel) (fun _ _ _ h => h) ?_ (by assumption) ?_
        rotate_left 2
        focus (simp only [List.getElem?_toArray, List.getElem?_cons_succ, List.getElem?_cons_zero] <;> rfl)
        · refine Or.inl ⟨by rfl, ?_⟩
          intro w hSw
          (try dsimp only at hSw)
          go_simp <;> with_reducible rfl
        (try simp only [Act.put, List.setIfInBounds_toArray, List.set_cons_zero, List.set_cons_succ])
        refine wpAnyH_ready (rs := [7]) (by decide +kernel) (by simp) ?_
        refine AllReadyH.cons (o := ?_) ?_ (fun K hK => ?_) AllReadyH.nil
        rotate_left 1
        focus (simp only [List.getElem?_toArray, List.getElem?_cons_succ, List.getElem?_cons_zero] <;> rfl)
        rw [if_pos (by rfl)]
        refine wp_storeX (.tmp 2) (.tmp 18) W.heap.size (storC ⟨(some ⟨ga, 0, none⟩, ca), (some ⟨gb, 0, none⟩, cb)⟩ s) _ tyStore rfl (storC_one _ _) HG_4.out rfl rfl rfl (store_eq rfl rfl HLA.out HLB.out) ?_
        (try simp only [Act.put])
        obtain ⟨wz5, hwz⟩ : ∃ x, x = wz4.setRow W.heap.size (storC ⟨(some ⟨ga, 0, none⟩, ca), (some ⟨gb, 0, none⟩, cb)⟩ s) := ⟨_, rfl⟩
        have BB5 := Lib.hid (show Below W.heap.size W wz5 from by rw [hwz]; exact Below.setRowG BB4.out LEG.out _)
        have HG_5 := Lib.hid (show Bx wz5 W.heap.size 24 (storC ⟨(some ⟨ga, 0, none⟩, ca), (some ⟨gb, 0, none⟩, cb)⟩ s) from by rw [hwz]; exact Bx.setRow HG_4.out _)
        have hq := Bx.setRowOther HJ_4.out NEJG.out (storC ⟨(some ⟨ga, 0, none⟩, ca), (some ⟨gb, 0, none⟩, cb)⟩ s)
        rw [← hwz] at hq
        have HJ_5 := Lib.hid hq
        clear hq
        have hq := KA_4.out.setRow (C' := (storC ⟨(some ⟨ga, 0, none⟩, ca), (some ⟨gb, 0, none⟩, cb)⟩ s)) HG_4.out (by first | exact no8_two _ _ _ _ | decide)
        rw [← hwz] at hq
        have KA_5 := Lib.hid hq
        clear hq
        have hq := KB_4.out.setRow (C' := (storC ⟨(some ⟨ga, 0, none⟩, ca), (some ⟨gb, 0, none⟩, cb)⟩ s)) HG_4.out (by first | exact no8_two _ _ _ _ | decide)
        rw [← hwz] at hq
        have KB_5 := Lib.hid hq
        clear hq
        have hq := SZ_4.out.setRow (C' := (storC ⟨(some ⟨ga, 0, none⟩, ca), (some ⟨gb, 0, none⟩, cb)⟩ s)) HG_4.out (by first | exact no8_two _ _ _ _ | decide)
        rw [← hwz] at hq
        have SZ_5 := Lib.hid hq
        clear hq
        have hq := OXA_4.out.setRow (C' := (storC ⟨(some ⟨ga, 0, none⟩, ca), (some ⟨gb, 0, none⟩, cb)⟩ s)) HG_4.out (by first | exact no8_two _ _ _ _ | decide)
        rw [← hwz] at hq
        have OXA_5 := Lib.hid hq
        clear hq
        have hq := OXB_4.out.setRow (C' := (storC ⟨(some ⟨ga, 0, none⟩, ca), (some ⟨gb, 0, none⟩, cb)⟩ s)) HG_4.out (by first | exact no8_two _ _ _ _ | decide)
        rw [← hwz] at hq
        have OXB_5 := Lib.hid hq
        clear hq
        rw [← hwz]
        clear hwz
        refine hK.out _ _ (KEEP.out _ BB5.out) (fun hHeld => ?_)
        clear hK K
        (try dsimp only)
        refine wpAnyH_done (by decide +kernel) ?_ _
        refine NoPanic.normal ?_
        clear KEEP
        go_wp2_with fail
        go_meet
        case rel => exact ⟨rfl, ga, ca, gb, cb, BB5.out, HG_5.out, HJ_5.out, OXA_5.out, OXB_5.out, NEAB.out, HT.out.below BB5.out HT.out.1⟩
      refine AllReadyH.cons (o := ?_) ?_ (fun K hK => ?_) AllReadyH.nil
      rotate_left 1
      focus (simp only [List.getElem?_toArray, List.getElem?_cons_succ, List.getElem?_cons_zero] <;> rfl)
      have hcell := Bx.cell HG_0.out (show #[Value.slice XA 16 xa, Value.slice XB 16 xb][1]? = some (Value.slice XB 16 xb) from rfl)
      go_simp
      clear hcell
      refine hK.out _ _ (KEEP.out _ BB0.out) (fun hHeld => ?_)
      clear hK K
      (try simp only [Act.put, List.setIfInBounds_toArray, List.set_cons_zero, List.set_cons_succ])
      refine wpAnyH_ready (rs := [2]) (by decide +kernel) (by simp) ?_
      refine AllReadyH.cons (o := ?_) ?_ (fun K hK => ?_) AllReadyH.nil
      rotate_left 1
      focus (simp only [List.getElem?_toArray, List.getElem?_cons_succ, List.getElem?_cons_zero] <;> rfl)
      (try rw [if_pos (by rfl)])
      go_simp
      go_at_call 32
      refine (CA.out _ KA_0.out).mono ?_
      rintro e wz7 ⟨⟨ga, ca, rfl, hk⟩, hb⟩
      have BB7 := Lib.hid (belG BB0.out hb BB0.out.size)
      have KA_7 := Lib.hid (KA_0.out.go hb)
      have KB_7 := Lib.hid (KB_0.out.go hb)
      have SZ_7 := Lib.hid (SZ_0.out.go hb)
      have HG_7 := Lib.hid (Bx.go HG_0.out hb)
      have HJ_7 := Lib.hid (Bx.go HJ_0.out hb)
      obtain ⟨hc1, hc2, hge, hlt, hown⟩ := hk
      have OXA_7 := Lib.hid (OwS.of (B' := W.heap.size + 2) hown rfl (by first | exact SZ_0.out | exact SZ_1.out | exact SZ_2.out | exact SZ_3.out | exact SZ_4.out | exact SZ_5.out | exact SZ_6.out | exact SZ_7.out | exact SZ_8.out | exact SZ_9.out | exact SZ_10.out | exact SZ_11.out | exact SZ_12.out | exact SZ_13.out | exact SZ_14.out | exact SZ_15.out | exact SZ_16.out | exact SZ_17.out | exact SZ_18.out | exact SZ_19.out | exact SZ_20.out | exact SZ_21.out | exact SZ_22.out | exact SZ_23.out) hge hc1 hc2)
      have LTA := Lib.hid hlt
      clear hc1 hc2 hge hlt hown
      clear hb
      refine hK.out _ _ (KEEP.out _ BB7.out) (fun hHeld => ?_)
      clear hK K
      (try simp only [Act.put, List.setIfInBounds_toArray, List.set_cons_zero, List.set_cons_succ])
      refine wpAnyH_ready (rs := [5]) (by decide +kernel) (by simp) ?_
      refine AllReadyH.cons (o := ?_) ?_ (fun K hK => ?_) AllReadyH.nil
      rotate_left 1
      focus (simp only [List.getElem?_toArray, List.getElem?_cons_succ, List.getElem?_cons_zero] <;> rfl)
      (try rw [if_pos (by rfl)])
      go_simp
      go_at_call 32
      refine (CB.out _ KB_7.out).mono ?_
      rintro e wz8 ⟨⟨gb, cb, rfl, hk⟩, hb⟩
      have BB8 := Lib.hid (belG BB7.out hb BB7.out.size)
      have KA_8 := Lib.hid (KA_7.out.go hb)
      have KB_8 := Lib.hid (KB_7.out.go hb)
      have SZ_8 := Lib.hid (SZ_7.out.go hb)
      have OXA_8 := Lib.hid (OXA_7.out.go hb)
      have HG_8 := Lib.hid (Bx.go HG_7.out hb)
      have HJ_8 := Lib.hid (Bx.go HJ_7.out hb)
      obtain ⟨hc1, hc2, hge, hlt, hown⟩ := hk
      have OXB_8 := Lib.hid (OwS.of (B' := W.heap.size + 2) hown rfl (by first | exact SZ_0.out | exact SZ_1.out | exact SZ_2.out | exact SZ_3.out | exact SZ_4.out | exact SZ_5.out | exact SZ_6.out | exact SZ_7.out | exact SZ_8.out | exact SZ_9.out | exact SZ_10.out | exact SZ_11.out | exact SZ_12.out | exact SZ_13.out | exact SZ_14.out | exact SZ_15.out | exact SZ_16.out | exact SZ_17.out | exact SZ_18.out | exact SZ_19.out | exact SZ_20.out | exact SZ_21.out | exact SZ_22.out | exact SZ_23.out) hge hc1 hc2)
      have NEAB := Lib.hid (show ga ≠ gb from by have h5 := LTA.out; omega)
      clear hc1 hc2 hge hlt hown
      clear hb
      refine hK.out _ _ (KEEP.out _ BB8.out) (fun hHeld => ?_)
      clear hK K
      (try simp only [Act.put, List.setIfInBounds_toArray, List.set_cons_zero, List.set_cons_succ])
      refine wpAnyH_take (i := 6) (oi := ?_) (v := ?_) ?_ (by kernel_rfl) (by decide +kernel) (by decide +kernel) (fun _ _ _ h => h) ?_ (by assumption) ?_
      rotate_left 2
      focus (simp only [List.getElem?_toArray, List.getElem?_cons_succ, List.getElem?_cons_zero] <;> rfl)
      · refine Or.inl ⟨by rfl, ?_⟩
        intro w hSw
        (try dsimp only at hSw)
        go_simp <;> with_reducible rfl
      (try simp only [Act.put, List.setIfInBounds_toArray, List.set_cons_zero, List.set_cons_succ])
      refine wpAnyH_ready (rs := [7]) (by decide +kernel) (by simp) ?_
      refine AllReadyH.cons (o := ?_) ?_ (fun K hK => ?_) AllReadyH.nil
      rotate_left 1
      focus (simp only [List.getElem?_toArray, List.getElem?_cons_succ, List.getElem?_cons_zero] <;> rfl)
      rw [if_pos (by rfl)]
      refine wp_storeX (.tmp 2) (.tmp 18) W.heap.size (storC ⟨(some ⟨ga, 0, none⟩, ca), (some ⟨gb, 0, none⟩, cb)⟩ s) _ tyStore rfl (storC_one _ _) HG_8.out rfl rfl rfl (store_eq rfl rfl HLA.out HLB.out) ?_
      (try simp only [Act.put])
      obtain ⟨wz9, hwz⟩ : ∃ x, x = wz8.setRow W.heap.size (storC ⟨(some ⟨ga, 0, none⟩, ca), (some ⟨gb, 0, none⟩, cb)⟩ s) := ⟨_, rfl⟩
      have BB9 := Lib.hid (show Below W.heap.size W wz9 from by rw [hwz]; exact Below.setRowG BB8.out LEG.out _)
      have HG_9 := Lib.hid (show Bx wz9 W.heap.size 24 (storC ⟨(some ⟨ga, 0, none⟩, ca), (some ⟨gb, 0, none⟩, cb)⟩ s) from by rw [hwz]; exact Bx.setRow HG_8.out _)
      have hq := Bx.setRowOther HJ_8.out NEJG.out (storC ⟨(some ⟨ga, 0, none⟩, ca), (some ⟨gb, 0, none⟩, cb)⟩ s)
      rw [← hwz] at hq
      have HJ_9 := Lib.hid hq
      clear hq
      have hq := KA_8.out.setRow (C' := (storC ⟨(some ⟨ga, 0, none⟩, ca), (some ⟨gb, 0, none⟩, cb)⟩ s)) HG_8.out (by first | exact no8_two _ _ _ _ | decide)
      rw [← hwz] at hq
      have KA_9 := Lib.hid hq
      clear hq
      have hq := KB_8.out.setRow (C' := (storC ⟨(some ⟨ga, 0, none⟩, ca), (some ⟨gb, 0, none⟩, cb)⟩ s)) HG_8.out (by first | exact no8_two _ _ _ _ | decide)
      rw [← hwz] at hq
      have KB_9 := Lib.hid hq
      clear hq
      have hq := SZ_8.out.setRow (C' := (storC ⟨(some ⟨ga, 0, none⟩, ca), (some ⟨gb, 0, none⟩, cb)⟩ s)) HG_8.out (by first | exact no8_two _ _ _ _ | decide)
      rw [← hwz] at hq
      have SZ_9 := Lib.hid hq
      clear hq
      have hq := OXA_8.out.setRow (C' := (storC ⟨(some ⟨ga, 0, none⟩, ca), (some ⟨gb, 0, none⟩, cb)⟩ s)) HG_8.out (by first | exact no8_two _ _ _ _ | decide)
      rw [← hwz] at hq
      have OXA_9 := Lib.hid hq
      clear hq
      have hq := OXB_8.out.setRow (C' := (storC ⟨(some ⟨ga, 0, none⟩, ca), (some ⟨gb, 0, none⟩, cb)⟩ s)) HG_8.out (by first | exact no8_two _ _ _ _ | decide)
      rw [← hwz] at hq
      have OXB_9 := Lib.hid hq
      clear hq
      rw [← hwz]
      clear hwz
      refine hK.out _ _ (KEEP.out _ BB9.out) (fun hHeld => ?_)
      clear hK K
      (try dsimp only)
      refine wpAnyH_done (by decide +kernel) ?_ _
      refine NoPanic.normal ?_
      clear KEEP
      go_wp2_with fail
      go_meet
      case rel => exact ⟨rfl, ga, ca, gb, cb, BB9.out, HG_9.out, HJ_9.out, OXA_9.out, OXB_9.out, NEAB.out, HT.out.below BB9.out HT.out.1⟩
    refine AllReadyH.cons (o := ?_) ?_ (fun K hK => ?_) AllReadyH.nil
    rotate_left 1
    focus (simp only [List.getElem?_toArray, List.getElem?_cons_succ, List.getElem?_cons_zero] <;> rfl)
    have hcell := Bx.cell HG_0.out (show #[Value.slice XA 16 xa, Value.slice XB 16 xb][1]? = some (Value.slice XB 16 xb) from rfl)
    go_simp
    clear hcell
    refine hK.out _ _ (KEEP.out _ BB0.out) (fun hHeld => ?_)
    clear hK K
    (try simp only [Act.put, List.setIfInBounds_toArray, List.set_cons_zero, List.set_cons_succ])
    refine wpAnyH_ready (rs := [1]) (by decide +kernel) (by simp) ?_
    refine AllReadyH.cons (o := ?_) ?_ (fun K hK => ?_) AllReadyH.nil
    rotate_left 1
    focus (simp only [List.getElem?_toArray, List.getElem?_cons_succ, List.getElem?_cons_zero] <;> rfl)
    have hcell := Bx.cell HG_0.out (show #[Value.slice XA 16 xa, Value.slice XB 16 xb][0]? = some (Value.slice XA 16 xa) from rfl)
    go_simp
    clear hcell
    refine hK.out _ _ (KEEP.out _ BB0.out) (fun hHeld => ?_)
    clear hK K
    (try simp only [Act.put, List.setIfInBounds_toArray, List.set_cons_zero, List.set_cons_succ])
    refine wpAnyH_ready (rs := [2]) (by decide +kernel) (by simp) ?_
    refine AllReadyH.cons (o := ?_) ?_ (fun K hK => ?_) AllReadyH.nil
    rotate_left 1
    focus (simp only [List.getElem?_toArray, List.getElem?_cons_succ, List.getElem?_cons_zero] <;> rfl)
    (try rw [if_pos (by rfl)])
    go_simp
    go_at_call 32
    refine (CA.out _ KA_0.out).mono ?_
    rintro e wz12 ⟨⟨ga, ca, rfl, hk⟩, hb⟩
    have BB12 := Lib.hid (belG BB0.out hb BB0.out.size)
    have KA_12 := Lib.hid (KA_0.out.go hb)
    have KB_12 := Lib.hid (KB_0.out.go hb)
    have SZ_12 := Lib.hid (SZ_0.out.go hb)
    have HG_12 := Lib.hid (Bx.go HG_0.out hb)
    have HJ_12 := Lib.hid (Bx.go HJ_0.out hb)
    obtain ⟨hc1, hc2, hge, hlt, hown⟩ := hk
    have OXA_12 := Lib.hid (OwS.of (B' := W.heap.size + 2) hown rfl (by first | exact SZ_0.out | exact SZ_1.out | exact SZ_2.out | exact SZ_3.out | exact SZ_4.out | exact SZ_5.out | exact SZ_6.out | exact SZ_7.out | exact SZ_8.out | exact SZ_9.out | exact SZ_10.out | exact SZ_11.out | exact SZ_12.out | exact SZ_13.out | exact SZ_14.out | exact SZ_15.out | exact SZ_16.out | exact SZ_17.out | exact SZ_18.out | exact SZ_19.out | exact SZ_20.out | exact SZ_21.out | exact SZ_22.out | exact SZ_23.out) hge hc1 hc2)
    have LTA := Lib.hid hlt
    clear hc1 hc2 hge hlt hown
    clear hb
    refine hK.out _ _ (KEEP.out _ BB12.out) (fun hHeld => ?_)
    clear hK K
    (try simp only [Act.put, List.setIfInBounds_toArray, List.set_cons_zero, List.set_cons_succ])
    refine wpAnyH_ready (rs := [5]) (by decide +kernel) (by simp) ?_
    refine AllReadyH.cons (o := ?_) ?_ (fun K hK => ?_) AllReadyH.nil
    rotate_left 1
    focus (simp only [List.getElem?_toArray, List.getElem?_cons_succ, List.getElem?_cons_zero] <;> rfl)
    (try rw [if_pos (by rfl)])
    go_simp
    go_at_call 32
    refine (CB.out _ KB_12.out).mono ?_
    rintro e wz13 ⟨⟨gb, cb, rfl, hk⟩, hb⟩
    have BB13 := Lib.hid (belG BB12.out hb BB12.out.size)
    have KA_13 := Lib.hid (KA_12.out.go hb)
    have KB_13 := Lib.hid (KB_12.out.go hb)
    have SZ_13 := Lib.hid (SZ_12.out.go hb)
    have OXA_13 := Lib.hid (OXA_12.out.go hb)
    have HG_13 := Lib.hid (Bx.go HG_12.out hb)
    have HJ_13 := Lib.hid (Bx.go HJ_12.out hb)
    obtain ⟨hc1, hc2, hge, hlt, hown⟩ := hk
    have OXB_13 := Lib.hid (OwS.of (B' := W.heap.size + 2) hown rfl (by first | exact SZ_0.out | exact SZ_1.out | exact SZ_2.out | exact SZ_3.out | exact SZ_4.out | exact SZ_5.out | exact SZ_6.out | exact SZ_7.out | exact SZ_8.out | exact SZ_9.out | exact SZ_10.out | exact SZ_11.out | exact SZ_12.out | exact SZ_13.out | exact SZ_14.out | exact SZ_15.out | exact SZ_16.out | exact SZ_17.out | exact SZ_18.out | exact SZ_19.out | exact SZ_20.out | exact SZ_21.out | exact SZ_22.out | exact SZ_23.out) hge hc1 hc2)
    have NEAB := Lib.hid (show ga ≠ gb from by have h5 := LTA.out; omega)
    clear hc1 hc2 hge hlt hown
    clear hb
    refine hK.out _ _ (KEEP.out _ BB13.out) (fun hHeld => ?_)
    clear hK K
    (try simp only [Act.put, List.setIfInBounds_toArray, List.set_cons_zero, List.set_cons_succ])
    refine wpAnyH_take (i := 6) (oi := ?_) (v := ?_) ?_ (by kernel_rfl) (by decide +kernel) (by decide +kernel) (fun _ _ _ h => h) ?_ (by assumption) ?_
    rotate_left 2
    focus (simp only [List.getElem?_toArray, List.getElem?_cons_succ, List.getElem?_cons_zero] <;> rfl)
    · refine Or.inl ⟨by rfl, ?_⟩
      intro w hSw
      (try dsimp only at hSw)
      go_simp <;> with_reducible rfl
    (try simp only [Act.put, List.setIfInBounds_toArray, List.set_cons_zero, List.set_cons_succ])
    refine wpAnyH_ready (rs := [7]) (by decide +kernel) (by simp) ?_
    refine AllReadyH.cons (o := ?_) ?_ (fun K hK => ?_) AllReadyH.nil
    rotate_left 1
    focus (simp only [List.getElem?_toArray, List.getElem?_cons_succ, List.getElem?_cons_zero] <;> rfl)
    rw [if_pos (by rfl)]
    refine wp_storeX (.tmp 2) (.tmp 18) W.heap.size (storC ⟨(some ⟨ga, 0, none⟩, ca), (some ⟨gb, 0, none⟩, cb)⟩ s) _ tyStore rfl (storC_one _ _) HG_13.out rfl rfl rfl (store_eq rfl rfl HLA.out HLB.out) ?_
    (try simp only [Act.put])
    obtain ⟨wz14, hwz⟩ : ∃ x, x = wz13.setRow W.heap.size (storC ⟨(some ⟨ga, 0, none⟩, ca), (some ⟨gb, 0, none⟩, cb)⟩ s) := ⟨_, rfl⟩
    have BB14 := Lib.hid (show Below W.heap.size W wz14 from by rw [hwz]; exact Below.setRowG BB13.out LEG.out _)
    have HG_14 := Lib.hid (show Bx wz14 W.heap.size 24 (storC ⟨(some ⟨ga, 0, none⟩, ca), (some ⟨gb, 0, none⟩, cb)⟩ s) from by rw [hwz]; exact Bx.setRow HG_13.out _)
    have hq := Bx.setRowOther HJ_13.out NEJG.out (storC ⟨(some ⟨ga, 0, none⟩, ca), (some ⟨gb, 0, none⟩, cb)⟩ s)
    rw [← hwz] at hq
    have HJ_14 := Lib.hid hq
    clear hq
    have hq := KA_13.out.setRow (C' := (storC ⟨(some ⟨ga, 0, none⟩, ca), (some ⟨gb, 0, none⟩, cb)⟩ s)) HG_13.out (by first | exact no8_two _ _ _ _ | decide)
    rw [← hwz] at hq
    have KA_14 := Lib.hid hq
    clear hq
    have hq := KB_13.out.setRow (C' := (storC ⟨(some ⟨ga, 0, none⟩, ca), (some ⟨gb, 0, none⟩, cb)⟩ s)) HG_13.out (by first | exact no8_two _ _ _ _ | decide)
    rw [← hwz] at hq
    have KB_14 := Lib.hid hq
    clear hq
    have hq := SZ_13.out.setRow (C' := (storC ⟨(some ⟨ga, 0, none⟩, ca), (some ⟨gb, 0, none⟩, cb)⟩ s)) HG_13.out (by first | exact no8_two _ _ _ _ | decide)
    rw [← hwz] at hq
    have SZ_14 := Lib.hid hq
    clear hq
    have hq := OXA_13.out.setRow (C' := (storC ⟨(some ⟨ga, 0, none⟩, ca), (some ⟨gb, 0, none⟩, cb)⟩ s)) HG_13.out (by first | exact no8_two _ _ _ _ | decide)
    rw [← hwz] at hq
    have OXA_14 := Lib.hid hq
    clear hq
    have hq := OXB_13.out.setRow (C' := (storC ⟨(some ⟨ga, 0, none⟩, ca), (some ⟨gb, 0, none⟩, cb)⟩ s)) HG_13.out (by first | exact no8_two _ _ _ _ | decide)
    rw [← hwz] at hq
    have OXB_14 := Lib.hid hq
    clear hq
    rw [← hwz]
    clear hwz
    refine hK.out _ _ (KEEP.out _ BB14.out) (fun hHeld => ?_)
    clear hK K
    (try dsimp only)
    refine wpAnyH_done (by decide +kernel) ?_ _
    refine NoPanic.normal ?_
    clear KEEP
    go_wp2_with fail
    go_meet
    case rel => exact ⟨rfl, ga, ca, gb, cb, BB14.out, HG_14.out, HJ_14.out, OXA_14.out, OXB_14.out, NEAB.out, HT.out.below BB14.out HT.out.1⟩
  case rest =>
  obtain ⟨rfl, ga, ca, gb, cb, hb, hg, hj, ha, ho, hne, hT⟩ := hcut
  clear HB G J KA KB SZ HT CA CB
  obtain ⟨w1, hw⟩ : ∃ x, x = wc := ⟨_, rfl⟩
  rw [← hw] at hb hg hj ha ho hT ⊢
  clear hw
  obtain ⟨C, hC⟩ : ∃ C, C = storC ⟨(some ⟨ga, 0, none⟩, ca), (some ⟨gb, 0, none⟩, cb)⟩ s := ⟨_, rfl⟩
  rw [← hC] at hg
  have HB := Lib.hid hb
  have G := Lib.hid hg
  have J := Lib.hid hj
  have OA := Lib.hid ha
  have OB := Lib.hid ho
  have HT := Lib.hid hT
  have HC := Lib.hid hC
  have NEAB := Lib.hid hne
  have HC1 := Lib.hid (show C.all (·.oneCell') = true from by rw [hC]; exact storC_one _ _)
  have HCS2 := Lib.hid (show C.size = 2 from by rw [hC]; rfl)
  have CB := Lib.hid (fun w h (ha : OwS w (W.heap.size + 2) ga ca s.a) (ho : OwS w (W.heap.size + 2) gb cb s.b) => best_any ⟨(some ⟨ga, 0, none⟩, ca), (some ⟨gb, 0, none⟩, cb)⟩ s w h (by rw [HLA.out]; decide) (by rw [HLB.out]; decide) ⟨ha.key HLA.out, ho.key HLB.out⟩)
  rw [← hC] at CB
  have CO := Lib.hid (fun n w h => other_any ⟨(some ⟨ga, 0, none⟩, ca), (some ⟨gb, 0, none⟩, cb)⟩ s n w h)
  rw [← hC, HLA.out, HLB.out] at CO
  have hbi := best_is s
  have htk : takeS s cut = (if (bestS s).2.2 = false then (s, 0, 12) else if (bestS s).1 = 4611686018427387904 then (s, 0, 10) else if manyS cut < 16 then (behindS s cut, 0, 11) else (behindS s cut, (bestS s).1, 0)) := rfl
  have hbh : behindS s cut = (if (bestS s).2.1 = 1 then { s with a := laidS (recL ((bestS s).1 + 1)) s.a (manyS cut) } else { s with b := laidS (recL ((bestS s).1 + 1)) s.b (manyS cut) }) := rfl
  obtain ⟨n, hn⟩ : ∃ n, n = (bestS s).1 := ⟨_, rfl⟩
  obtain ⟨at_, hat⟩ : ∃ n, n = (bestS s).2.1 := ⟨_, rfl⟩
  obtain ⟨is, his⟩ : ∃ n, n = (bestS s).2.2 := ⟨_, rfl⟩
  rw [← hn, ← hat, ← his] at CB
  rw [← hn, ← his] at htk
  rw [← hn, ← hat] at hbh
  rw [← hn, ← hat, ← his] at hbi
  clear hb hg hj ha ho hne hT hC hn hat his hR
  go_upto_region 2 with (fail)
  go_wp2_with (refine loadX (.tmp 2) W.heap.size C tyStore HCS2.out G.out rfl rfl rfl ?_)
  refine (CB.out _ HT.out OA.out OB.out).mono ?_
  rintro e w2 ⟨rfl, hb⟩
  have nHB := Lib.hid (belG HB.out hb HB.out.size)
  have nG := Lib.hid (Bx.go G.out hb)
  have nJ := Lib.hid (Bx.go J.out hb)
  have nOA := Lib.hid (OA.out.go hb)
  have nOB := Lib.hid (OB.out.go hb)
  have nHT := Lib.hid (HT.out.call hb)
  clear hb CB
  clear HB G J OA OB HT
  have HB := nHB
  have G := nG
  have J := nJ
  have OA := nOA
  have OB := nOB
  have HT := nHT
  clear nHB nG nJ nOA nOB nHT
  cases is with
  | false =>
    have HI := Lib.hid (htk.trans (if_pos rfl))
    clear htk hbh hbi
    have RS := Lib.hid (show StR _ ⟨(some ⟨ga, 0, none⟩, ca), (some ⟨gb, 0, none⟩, cb)⟩ s from ⟨OA.out.key HLA.out, OB.out.key HLB.out⟩)
    go_wp2_with (first | (refine loadX (.tmp 2) W.heap.size C tyStore HCS2.out G.out rfl rfl rfl ?_) | (refine storeX (.tmp 4) (.tmp 27) (W.heap.size + 1) C _ tyStore HCS2.out HC1.out J.out rfl rfl rfl rfl rfl ?_))
    (try dsimp only)
    refine bodyPost_ret (retX3 rfl _ _ (W.heap.size + 1) C _ _ tyStore HCS2.out rfl rfl rfl (Bx.setRow J.out _)) rfl ?_
    exact ⟨by rw [HI.out]; exact ⟨⟨(some ⟨ga, 0, none⟩, ca), (some ⟨gb, 0, none⟩, cb)⟩, by rw [← HC.out]; rfl, RS.out.setRow J.out (no8_stor _ _)⟩, Below.setRowG HB.out (Nat.le_succ _) _⟩
  | true =>
  rw [if_neg (by decide)] at htk
  obtain ⟨hen, hat2⟩ : EpS n ∧ (at_ = 0 ∨ at_ = 1) := by
    rcases hbi with ⟨-, h5, h6⟩ | h5
    · exact ⟨h5, h6.imp And.left And.left⟩
    · cases h5.1
  obtain ⟨hn1, hn2⟩ := hen
  clear hbi
  by_cases hlast : n = 4611686018427387904
  · have HI := Lib.hid (htk.trans (if_pos hlast))
    have b0 : (n == 4611686018427387904) = true := beq_iff_eq.2 hlast
    clear htk hbh hlast hat2 hn1 hn2
    have RS := Lib.hid (show StR _ ⟨(some ⟨ga, 0, none⟩, ca), (some ⟨gb, 0, none⟩, cb)⟩ s from ⟨OA.out.key HLA.out, OB.out.key HLB.out⟩)
    go_wp2_with (first | (refine loadX (.tmp 2) W.heap.size C tyStore HCS2.out G.out rfl rfl rfl ?_) | (refine storeX (.tmp 4) (.tmp 30) (W.heap.size + 1) C _ tyStore HCS2.out HC1.out J.out rfl rfl rfl rfl rfl ?_))
    (try dsimp only)
    refine bodyPost_ret (retX3 rfl _ _ (W.heap.size + 1) C _ _ tyStore HCS2.out rfl rfl rfl (Bx.setRow J.out _)) rfl ?_
    exact ⟨by rw [HI.out]; exact ⟨⟨(some ⟨ga, 0, none⟩, ca), (some ⟨gb, 0, none⟩, cb)⟩, by rw [← HC.out]; rfl, RS.out.setRow J.out (no8_stor _ _)⟩, Below.setRowG HB.out (Nat.le_succ _) _⟩
  rw [if_neg hlast] at htk
  have b0 : (n == 4611686018427387904) = false := beq_eq_false_iff_ne.2 hlast
  have hw1 : IntKind.i64.wrap (n + 1) = n + 1 := IntWalk.i64_in _ (by omega)
  have hw2 : wrap64 (n + 1) = n + 1 := by unfold wrap64; omega
  have CR := Lib.hid (fun w h => record_any (n + 1) w h (by omega))
  rw [show recordS (n + 1) = (recL (n + 1), 0) from by unfold recordS; rw [if_pos ⟨by omega, by omega⟩]] at CR
  have HLR := Lib.hid (recL_len (n + 1))
  obtain ⟨nx, hnx⟩ : ∃ l, l = recL (n + 1) := ⟨_, rfl⟩
  rw [← hnx] at CR HLR hbh
  have hn3 : n ≤ 4611686018427387903 := by omega
  clear hnx hlast
  go_upto_region 7 with (fail)
  go_wp2_with fail
  refine (CR.out _ HT.out).mono ?_
  rintro e w3 ⟨⟨v1, rfl, how⟩, hb⟩
  have nHB := Lib.hid (belG HB.out hb HB.out.size)
  have nG := Lib.hid (Bx.go G.out hb)
  have nJ := Lib.hid (Bx.go J.out hb)
  have nOA := Lib.hid (OA.out.go hb)
  have nOB := Lib.hid (OB.out.go hb)
  have nHT := Lib.hid (HT.out.call hb)
  obtain ⟨⟨NA, nc⟩, rfl, hk⟩ := how.keyB
  have hc1 : 16 ≤ nc := by have h5 : nx.length ≤ nc := hk.1; rw [HLR.out] at h5; exact h5
  have K1 := Lib.hid (show KeyB w3 (NA, nc) nx from hk)
  clear hb how hk CR
  clear HB G J OA OB HT
  have HB := nHB
  have G := nG
  have J := nJ
  have OA := nOA
  have OB := nOB
  have HT := nHT
  clear nHB nG nJ nOA nOB nHT
  dsimp only
  rw [HLR.out]
  rcases hat2 with rfl | rfl
  · rw [if_neg (by decide)] at hbh
    by_cases hc : 0 ≤ cut ∧ cut < 16
    · obtain ⟨kc, rfl⟩ := Int.eq_ofNat_of_zero_le hc.1
      have hm : manyS kc = kc := by unfold manyS; rw [if_pos hc, Int.toNat_natCast]
      have hk16 : kc < 16 := by omega
      rw [hm] at htk hbh
      have HI := Lib.hid (show takeS s kc = ({ s with b := laidS nx s.b kc }, 0, 11) from by rw [htk, if_pos hk16, hbh])
      have k0 : (kc : Int) < 16 := by omega
      clear htk hbh hm hc
      have CW := Lib.hid (fun w => CO.out 0 w (.inl rfl))
      rw [if_pos rfl] at CW
      clear CO
      have hk1 : (kc : Int) ≤ (nc : Int) := by omega
      have RN := Lib.hid ((K1.out.take kc).2.2)
      have HLN := Lib.hid (show (nx.take kc).length = kc from by rw [List.length_take, HLR.out]; omega)
      go_upto_region 9 with (fail)
      have BB0 := Lib.hid (HB.out.drew)
      have KEEP := Lib.hid (fun w' (hW : Below W.heap.size W w') (hG : Bx w' W.heap.size 24 C) => (show Below W.heap.size W w' ∧ Bx w' W.heap.size 24 C from ⟨hW, hG⟩))
      have HG_0 := Lib.hid (Bx.drew G.out)
      have HJ_0 := Lib.hid (Bx.drew J.out)
      have OA_0 := Lib.hid (OA.out.go ((Below.refl w3.heap.size w3).drew))
      have OB_0 := Lib.hid (OB.out.go ((Below.refl w3.heap.size w3).drew))
      have RN_0 := Lib.hid (RN.out.go ((Below.refl w3.heap.size w3).drew))
      refine wp_region_noPanic ?_
      refine wp_region_held_drew (S := fun w' => Below W.heap.size W w' ∧ Bx w' W.heap.size 24 C) (by kernel_rfl) (KEEP.out _ BB0.out HG_0.out) (fun hHeld => ?_)
      obtain ⟨wz0, hwz⟩ : ∃ x, x = w3.drew := ⟨_, rfl⟩
      rw [← hwz] at BB0 hHeld HG_0 HJ_0 OA_0 OB_0 RN_0 ⊢
      clear hwz
      refine wpAnyH_take (i := 0) (oi := ?_) (v := .agg C) ?_ (by kernel_rfl) (by decide +kernel) (by decide +kernel) (fun _ _ _ h => h) ?_ (by assumption) ?_
      rotate_left 1
      focus (simp only [List.getElem?_toArray, List.getElem?_cons_zero] <;> rfl)
      · refine yieldsX (T := 24) ?_ (.tmp 2) ?_ ⟨W.heap.size, 0, none⟩ ?_ C ?_
        focus rfl
        focus exact rfl
        focus exact rfl
        exact fun w hSw => run_loadX tyStore HCS2.out (hSw.2)
      (try simp only [Act.put, List.setIfInBounds_toArray, List.set_cons_zero, List.set_cons_succ])
      refine wpAnyH_take (i := 1) (oi := ?_) (v := ?_) ?_ (by kernel_rfl) (by decide +kernel) (by decide +kernel) (fun _ _ _ h => h) ?_ (by assumption) ?_
      rotate_left 2
      focus (simp only [List.getElem?_toArray, List.getElem?_cons_succ, List.getElem?_cons_zero] <;> rfl)
      · refine Or.inl ⟨by rfl, ?_⟩
        intro w hSw
        (try dsimp only at hSw)
        go_simp <;> with_reducible rfl
      (try simp only [Act.put, List.setIfInBounds_toArray, List.set_cons_zero, List.set_cons_succ])
      refine wpAnyH_take (i := 3) (oi := ?_) (v := ?_) ?_ (by kernel_rfl) (by decide +kernel) (by decide +kernel) (fun _ _ _ h => h) ?_ (by assumption) ?_
      rotate_left 2
      focus (simp only [List.getElem?_toArray, List.getElem?_cons_succ, List.getElem?_cons_zero] <;> rfl)
      · refine Or.inl ⟨by rfl, ?_⟩
        intro w hSw
        (try dsimp only at hSw)
        go_simp <;> with_reducible rfl
      (try simp only [Act.put, List.setIfInBounds_toArray, List.set_cons_zero, List.set_cons_succ])
      refine wpAnyH_take (i := 4) (oi := ?_) (v := ?_) ?_ (by kernel_rfl) (by decide +kernel) (by decide +kernel) (fun _ _ _ h => h) ?_ (by assumption) ?_
      rotate_left 2
      focus (simp only [List.getElem?_toArray, List.getElem?_cons_succ, List.getElem?_cons_zero] <;> rfl)
      · refine Or.inl ⟨by rfl, ?_⟩
        intro w hSw
        (try dsimp only at hSw)
        go_simp <;> with_reducible rfl
      (try simp only [Act.put, List.setIfInBounds_toArray, List.set_cons_zero, List.set_cons_succ])
      refine wpAnyH_take (i := 5) (oi := ?_) (v := ?_) ?_ (by kernel_rfl) (by decide +kernel) (by decide +kernel) (fun _ _ _ h => h) ?_ (by assumption) ?_
      rotate_left 2
      focus (simp only [List.getElem?_toArray, List.getElem?_cons_succ, List.getElem?_cons_zero] <;> rfl)
      · refine Or.inl ⟨by rfl, ?_⟩
        intro w hSw
        (try dsimp only at hSw)
        go_simp <;> with_reducible rfl
      (try simp only [Act.put, List.setIfInBounds_toArray, List.set_cons_zero, List.set_cons_succ])
      refine wpAnyH_ready (rs := [2]) (by decide +kernel) (by simp) ?_
      refine AllReadyH.cons (o := ?_) ?_ (fun K hK => ?_) AllReadyH.nil
      rotate_left 1
      focus (simp only [List.getElem?_toArray, List.getElem?_cons_succ, List.getElem?_cons_zero] <;> rfl)
      (try rw [if_pos (by rfl)])
      go_simp
      go_at_call 33
      refine (CW.out _).mono ?_
      rintro e wz1 ⟨rfl, hb⟩
      have BB1 := Lib.hid (belG BB0.out hb BB0.out.size)
      have OA_1 := Lib.hid (OA_0.out.go hb)
      have OB_1 := Lib.hid (OB_0.out.go hb)
      have RN_1 := Lib.hid (RN_0.out.go hb)
      have HG_1 := Lib.hid (Bx.go HG_0.out hb)
      have HJ_1 := Lib.hid (Bx.go HJ_0.out hb)
      clear hb
      refine hK.out _ _ (KEEP.out _ BB1.out HG_1.out) (fun hHeld => ?_)
      clear hK K
      (try simp only [Act.put, List.setIfInBounds_toArray, List.set_cons_zero, List.set_cons_succ])
      refine wpAnyH_ready (rs := [6]) (by decide +kernel) (by simp) ?_
      refine AllReadyH.cons (o := ?_) ?_ (fun K hK => ?_) AllReadyH.nil
      rotate_left 1
      focus (simp only [List.getElem?_toArray, List.getElem?_cons_succ, List.getElem?_cons_zero] <;> rfl)
      (try rw [if_pos (by rfl)])
      refine wp_over _ (.tmp 45) (.tmp 48) rfl (W.heap.size + 2) gb 16 cb s.b (nx.take kc) NA kc nc rfl rfl OB_1.out.2.2.2 HLN.out.symm RN_1.out (by rw [HLN.out, HLB.out]; omega) ?_
      intro Cx hown
      obtain ⟨wz2, hwz⟩ : ∃ x, x = wz1.setRow gb Cx := ⟨_, rfl⟩
      have BB2 := Lib.hid (show Below W.heap.size W wz2 from by rw [hwz]; exact Below.setRowG BB1.out (by have h5 := OB_1.out.1; omega) _)
      have HG_2 := Lib.hid (show Bx wz2 W.heap.size 24 _ from by rw [hwz]; exact Bx.setRowOther HG_1.out (by have h5 := OB_1.out.1; omega) _)
      have HJ_2 := Lib.hid (show Bx wz2 (W.heap.size + 1) 24 _ from by rw [hwz]; exact Bx.setRowOther HJ_1.out (by have h5 := OB_1.out.1; omega) _)
      have OA_2 := Lib.hid (show OwS wz2 _ _ _ _ from by rw [hwz]; exact ⟨OA_1.out.1, OA_1.out.2.1, OA_1.out.2.2.1, OA_1.out.2.2.2.setRowS NEAB.out _⟩)
      have OB_2 := Lib.hid (show OwS wz2 _ _ _ _ from by rw [hwz]; exact ⟨OB_1.out.1, OB_1.out.2.1, OB_1.out.2.2.1, hown⟩)
      rw [← hwz]
      clear hwz hown
      refine hK.out _ _ (KEEP.out _ BB2.out HG_2.out) (fun hHeld => ?_)
      clear hK K
      (try simp only [Act.put, List.setIfInBounds_toArray, List.set_cons_zero, List.set_cons_succ])
      refine wpAnyH_done (by decide +kernel) ?_ _
      refine NoPanic.normal ?_
      clear KEEP
      have HLL := Lib.hid (show (laidS nx s.b kc).length = 16 from laid_len HLR.out HLB.out (by omega))
      have RS := Lib.hid (show StR wz2 ⟨(some ⟨ga, 0, none⟩, ca), (some ⟨gb, 0, none⟩, cb)⟩ { s with b := laidS nx s.b kc } from ⟨OA_2.out.key HLA.out, by have h5 := OB_2.out.key (by rw [List.length_append, List.length_drop, HLN.out, HLB.out]; omega); unfold laidS; rw [HLN.out] at h5; exact h5⟩)
      have HCN := Lib.hid (show C = storC ⟨(some ⟨ga, 0, none⟩, ca), (some ⟨gb, 0, none⟩, cb)⟩ { s with b := laidS nx s.b kc } from by rw [HC.out]; unfold storC; dsimp only; rw [HLB.out, HLL.out])
      clear HB G J OA OB HT
      have HB := BB2
      have G := HG_2
      have J := HJ_2
      go_wp2_with (first | (refine loadX (.tmp 2) W.heap.size C tyStore HCS2.out G.out rfl rfl rfl ?_) | (refine storeX (.tmp 4) (.tmp 50) (W.heap.size + 1) C _ tyStore HCS2.out HC1.out J.out rfl rfl rfl rfl rfl ?_))
      (try dsimp only)
      refine bodyPost_ret (retX3 rfl _ _ (W.heap.size + 1) C _ _ tyStore HCS2.out rfl rfl rfl (Bx.setRow J.out _)) rfl ?_
      exact ⟨by rw [HI.out]; exact ⟨⟨(some ⟨ga, 0, none⟩, ca), (some ⟨gb, 0, none⟩, cb)⟩, by rw [← HCN.out]; rfl, RS.out.setRow J.out (no8_stor _ _)⟩, Below.setRowG HB.out (Nat.le_succ _) _⟩
    · have hm : manyS cut = 16 := by unfold manyS; rw [if_neg hc]
      rw [hm] at htk hbh
      have HI := Lib.hid (show takeS s cut = ({ s with b := laidS nx s.b 16 }, n, 0) from by rw [htk, if_neg (by decide), hbh])
      clear htk hbh hm
      by_cases h0 : 0 ≤ cut
      · have k0 : ¬ cut < 16 := fun h => hc ⟨h0, h⟩
        clear hc
        have CW := Lib.hid (fun w => CO.out 0 w (.inl rfl))
        rw [if_pos rfl] at CW
        clear CO
        go_upto_region 11 with (fail)
        go_wp2_with (refine loadX (.tmp 2) W.heap.size C tyStore HCS2.out G.out rfl rfl rfl ?_)
        refine (CW.out _).mono ?_
        rintro e w4 ⟨rfl, hb⟩
        have nHB := Lib.hid (belG HB.out hb HB.out.size)
        have nG := Lib.hid (Bx.go G.out hb)
        have nJ := Lib.hid (Bx.go J.out hb)
        have nOA := Lib.hid (OA.out.go hb)
        have nOB := Lib.hid (OB.out.go hb)
        have nHT := Lib.hid (HT.out.call hb)
        have nK1 := Lib.hid (K1.out.go hb)
        clear hb K1 CW
        clear HB G J OA OB HT
        have HB := nHB
        have G := nG
        have J := nJ
        have OA := nOA
        have OB := nOB
        have HT := nHT
        clear nHB nG nJ nOA nOB nHT
        have K1 := nK1
        clear nK1
        go_upto_region 12 with (refine wpList_over w4 rfl (.tmp 53) (.tmp 54) rfl (W.heap.size + 2) gb 16 cb s.b nx NA 16 nc rfl rfl OB.out.2.2.2 HLR.out.symm K1.out.2.2 (by rw [HLR.out, HLB.out]; decide) ?_; intro Cx hown; obtain ⟨w5, hwz⟩ : ∃ x, x = w4.setRow gb Cx := ⟨_, rfl⟩; have BB5 := Lib.hid (show Below W.heap.size W w5 from by rw [hwz]; exact Below.setRowG HB.out (by have h5 := OB.out.1; omega) _); have HG5 := Lib.hid (show Bx w5 W.heap.size 24 _ from by rw [hwz]; exact Bx.setRowOther G.out (by have h5 := OB.out.1; omega) _); have HJ5 := Lib.hid (show Bx w5 (W.heap.size + 1) 24 _ from by rw [hwz]; exact Bx.setRowOther J.out (by have h5 := OB.out.1; omega) _); have OY5 := Lib.hid (show OwS w5 _ _ _ _ from by rw [hwz]; exact ⟨OA.out.1, OA.out.2.1, OA.out.2.2.1, OA.out.2.2.2.setRowS NEAB.out _⟩); have OX5 := Lib.hid (show OwS w5 _ _ _ _ from by rw [hwz]; exact ⟨OB.out.1, OB.out.2.1, OB.out.2.2.1, hown⟩); rw [← hwz]; clear hwz hown)
        have HLL := Lib.hid (show (laidS nx s.b 16).length = 16 from laid_len HLR.out HLB.out (by omega))
        have RS := Lib.hid (show StR w5 ⟨(some ⟨ga, 0, none⟩, ca), (some ⟨gb, 0, none⟩, cb)⟩ { s with b := laidS nx s.b 16 } from ⟨OY5.out.key HLA.out, by have h5 := OX5.out.key (by rw [List.length_append, List.length_drop, HLR.out, HLB.out]); unfold laidS; rw [HLR.out] at h5; rw [List.take_of_length_le (by rw [HLR.out]; decide)]; exact h5⟩)
        have HCN := Lib.hid (show C = storC ⟨(some ⟨ga, 0, none⟩, ca), (some ⟨gb, 0, none⟩, cb)⟩ { s with b := laidS nx s.b 16 } from by rw [HC.out]; unfold storC; dsimp only; rw [HLB.out, HLL.out])
        clear HB G J OA OB HT
        have HB := BB5
        have G := HG5
        have J := HJ5
        go_wp2_with (first | (refine loadX (.tmp 2) W.heap.size C tyStore HCS2.out G.out rfl rfl rfl ?_) | (refine storeX (.tmp 4) (.tmp 56) (W.heap.size + 1) C _ tyStore HCS2.out HC1.out J.out rfl rfl rfl rfl rfl ?_))
        (try dsimp only)
        refine bodyPost_ret (retX3 rfl _ _ (W.heap.size + 1) C _ _ tyStore HCS2.out rfl rfl rfl (Bx.setRow J.out _)) rfl ?_
        exact ⟨by rw [HI.out]; exact ⟨⟨(some ⟨ga, 0, none⟩, ca), (some ⟨gb, 0, none⟩, cb)⟩, by rw [← HCN.out]; rfl, RS.out.setRow J.out (no8_stor _ _)⟩, Below.setRowG HB.out (Nat.le_succ _) _⟩
      · clear hc
        have CW := Lib.hid (fun w => CO.out 0 w (.inl rfl))
        rw [if_pos rfl] at CW
        clear CO
        go_upto_region 11 with (fail)
        go_wp2_with (refine loadX (.tmp 2) W.heap.size C tyStore HCS2.out G.out rfl rfl rfl ?_)
        refine (CW.out _).mono ?_
        rintro e w4 ⟨rfl, hb⟩
        have nHB := Lib.hid (belG HB.out hb HB.out.size)
        have nG := Lib.hid (Bx.go G.out hb)
        have nJ := Lib.hid (Bx.go J.out hb)
        have nOA := Lib.hid (OA.out.go hb)
        have nOB := Lib.hid (OB.out.go hb)
        have nHT := Lib.hid (HT.out.call hb)
        have nK1 := Lib.hid (K1.out.go hb)
        clear hb K1 CW
        clear HB G J OA OB HT
        have HB := nHB
        have G := nG
        have J := nJ
        have OA := nOA
        have OB := nOB
        have HT := nHT
        clear nHB nG nJ nOA nOB nHT
        have K1 := nK1
        clear nK1
        go_upto_region 12 with (refine wpList_over w4 rfl (.tmp 53) (.tmp 54) rfl (W.heap.size + 2) gb 16 cb s.b nx NA 16 nc rfl rfl OB.out.2.2.2 HLR.out.symm K1.out.2.2 (by rw [HLR.out, HLB.out]; decide) ?_; intro Cx hown; obtain ⟨w5, hwz⟩ : ∃ x, x = w4.setRow gb Cx := ⟨_, rfl⟩; have BB5 := Lib.hid (show Below W.heap.size W w5 from by rw [hwz]; exact Below.setRowG HB.out (by have h5 := OB.out.1; omega) _); have HG5 := Lib.hid (show Bx w5 W.heap.size 24 _ from by rw [hwz]; exact Bx.setRowOther G.out (by have h5 := OB.out.1; omega) _); have HJ5 := Lib.hid (show Bx w5 (W.heap.size + 1) 24 _ from by rw [hwz]; exact Bx.setRowOther J.out (by have h5 := OB.out.1; omega) _); have OY5 := Lib.hid (show OwS w5 _ _ _ _ from by rw [hwz]; exact ⟨OA.out.1, OA.out.2.1, OA.out.2.2.1, OA.out.2.2.2.setRowS NEAB.out _⟩); have OX5 := Lib.hid (show OwS w5 _ _ _ _ from by rw [hwz]; exact ⟨OB.out.1, OB.out.2.1, OB.out.2.2.1, hown⟩); rw [← hwz]; clear hwz hown)
        have HLL := Lib.hid (show (laidS nx s.b 16).length = 16 from laid_len HLR.out HLB.out (by omega))
        have RS := Lib.hid (show StR w5 ⟨(some ⟨ga, 0, none⟩, ca), (some ⟨gb, 0, none⟩, cb)⟩ { s with b := laidS nx s.b 16 } from ⟨OY5.out.key HLA.out, by have h5 := OX5.out.key (by rw [List.length_append, List.length_drop, HLR.out, HLB.out]); unfold laidS; rw [HLR.out] at h5; rw [List.take_of_length_le (by rw [HLR.out]; decide)]; exact h5⟩)
        have HCN := Lib.hid (show C = storC ⟨(some ⟨ga, 0, none⟩, ca), (some ⟨gb, 0, none⟩, cb)⟩ { s with b := laidS nx s.b 16 } from by rw [HC.out]; unfold storC; dsimp only; rw [HLB.out, HLL.out])
        clear HB G J OA OB HT
        have HB := BB5
        have G := HG5
        have J := HJ5
        go_wp2_with (first | (refine loadX (.tmp 2) W.heap.size C tyStore HCS2.out G.out rfl rfl rfl ?_) | (refine storeX (.tmp 4) (.tmp 56) (W.heap.size + 1) C _ tyStore HCS2.out HC1.out J.out rfl rfl rfl rfl rfl ?_))
        (try dsimp only)
        refine bodyPost_ret (retX3 rfl _ _ (W.heap.size + 1) C _ _ tyStore HCS2.out rfl rfl rfl (Bx.setRow J.out _)) rfl ?_
        exact ⟨by rw [HI.out]; exact ⟨⟨(some ⟨ga, 0, none⟩, ca), (some ⟨gb, 0, none⟩, cb)⟩, by rw [← HCN.out]; rfl, RS.out.setRow J.out (no8_stor _ _)⟩, Below.setRowG HB.out (Nat.le_succ _) _⟩
  · rw [if_pos rfl] at hbh
    by_cases hc : 0 ≤ cut ∧ cut < 16
    · obtain ⟨kc, rfl⟩ := Int.eq_ofNat_of_zero_le hc.1
      have hm : manyS kc = kc := by unfold manyS; rw [if_pos hc, Int.toNat_natCast]
      have hk16 : kc < 16 := by omega
      rw [hm] at htk hbh
      have HI := Lib.hid (show takeS s kc = ({ s with a := laidS nx s.a kc }, 0, 11) from by rw [htk, if_pos hk16, hbh])
      have k0 : (kc : Int) < 16 := by omega
      clear htk hbh hm hc
      have CW := Lib.hid (fun w => CO.out 1 w (.inr rfl))
      rw [if_neg (by decide)] at CW
      clear CO
      have hk1 : (kc : Int) ≤ (nc : Int) := by omega
      have RN := Lib.hid ((K1.out.take kc).2.2)
      have HLN := Lib.hid (show (nx.take kc).length = kc from by rw [List.length_take, HLR.out]; omega)
      go_upto_region 9 with (fail)
      have BB0 := Lib.hid (HB.out.drew)
      have KEEP := Lib.hid (fun w' (hW : Below W.heap.size W w') (hG : Bx w' W.heap.size 24 C) => (show Below W.heap.size W w' ∧ Bx w' W.heap.size 24 C from ⟨hW, hG⟩))
      have HG_0 := Lib.hid (Bx.drew G.out)
      have HJ_0 := Lib.hid (Bx.drew J.out)
      have OA_0 := Lib.hid (OA.out.go ((Below.refl w3.heap.size w3).drew))
      have OB_0 := Lib.hid (OB.out.go ((Below.refl w3.heap.size w3).drew))
      have RN_0 := Lib.hid (RN.out.go ((Below.refl w3.heap.size w3).drew))
      refine wp_region_noPanic ?_
      refine wp_region_held_drew (S := fun w' => Below W.heap.size W w' ∧ Bx w' W.heap.size 24 C) (by kernel_rfl) (KEEP.out _ BB0.out HG_0.out) (fun hHeld => ?_)
      obtain ⟨wz0, hwz⟩ : ∃ x, x = w3.drew := ⟨_, rfl⟩
      rw [← hwz] at BB0 hHeld HG_0 HJ_0 OA_0 OB_0 RN_0 ⊢
      clear hwz
      refine wpAnyH_take (i := 0) (oi := ?_) (v := .agg C) ?_ (by kernel_rfl) (by decide +kernel) (by decide +kernel) (fun _ _ _ h => h) ?_ (by assumption) ?_
      rotate_left 1
      focus (simp only [List.getElem?_toArray, List.getElem?_cons_zero] <;> rfl)
      · refine yieldsX (T := 24) ?_ (.tmp 2) ?_ ⟨W.heap.size, 0, none⟩ ?_ C ?_
        focus rfl
        focus exact rfl
        focus exact rfl
        exact fun w hSw => run_loadX tyStore HCS2.out (hSw.2)
      (try simp only [Act.put, List.setIfInBounds_toArray, List.set_cons_zero, List.set_cons_succ])
      refine wpAnyH_take (i := 1) (oi := ?_) (v := ?_) ?_ (by kernel_rfl) (by decide +kernel) (by decide +kernel) (fun _ _ _ h => h) ?_ (by assumption) ?_
      rotate_left 2
      focus (simp only [List.getElem?_toArray, List.getElem?_cons_succ, List.getElem?_cons_zero] <;> rfl)
      · refine Or.inl ⟨by rfl, ?_⟩
        intro w hSw
        (try dsimp only at hSw)
        go_simp <;> with_reducible rfl
      (try simp only [Act.put, List.setIfInBounds_toArray, List.set_cons_zero, List.set_cons_succ])
      refine wpAnyH_take (i := 3) (oi := ?_) (v := ?_) ?_ (by kernel_rfl) (by decide +kernel) (by decide +kernel) (fun _ _ _ h => h) ?_ (by assumption) ?_
      rotate_left 2
      focus (simp only [List.getElem?_toArray, List.getElem?_cons_succ, List.getElem?_cons_zero] <;> rfl)
      · refine Or.inl ⟨by rfl, ?_⟩
        intro w hSw
        (try dsimp only at hSw)
        go_simp <;> with_reducible rfl
      (try simp only [Act.put, List.setIfInBounds_toArray, List.set_cons_zero, List.set_cons_succ])
      refine wpAnyH_take (i := 4) (oi := ?_) (v := ?_) ?_ (by kernel_rfl) (by decide +kernel) (by decide +kernel) (fun _ _ _ h => h) ?_ (by assumption) ?_
      rotate_left 2
      focus (simp only [List.getElem?_toArray, List.getElem?_cons_succ, List.getElem?_cons_zero] <;> rfl)
      · refine Or.inl ⟨by rfl, ?_⟩
        intro w hSw
        (try dsimp only at hSw)
        go_simp <;> with_reducible rfl
      (try simp only [Act.put, List.setIfInBounds_toArray, List.set_cons_zero, List.set_cons_succ])
      refine wpAnyH_take (i := 5) (oi := ?_) (v := ?_) ?_ (by kernel_rfl) (by decide +kernel) (by decide +kernel) (fun _ _ _ h => h) ?_ (by assumption) ?_
      rotate_left 2
      focus (simp only [List.getElem?_toArray, List.getElem?_cons_succ, List.getElem?_cons_zero] <;> rfl)
      · refine Or.inl ⟨by rfl, ?_⟩
        intro w hSw
        (try dsimp only at hSw)
        go_simp <;> with_reducible rfl
      (try simp only [Act.put, List.setIfInBounds_toArray, List.set_cons_zero, List.set_cons_succ])
      refine wpAnyH_ready (rs := [2]) (by decide +kernel) (by simp) ?_
      refine AllReadyH.cons (o := ?_) ?_ (fun K hK => ?_) AllReadyH.nil
      rotate_left 1
      focus (simp only [List.getElem?_toArray, List.getElem?_cons_succ, List.getElem?_cons_zero] <;> rfl)
      (try rw [if_pos (by rfl)])
      go_simp
      go_at_call 33
      refine (CW.out _).mono ?_
      rintro e wz1 ⟨rfl, hb⟩
      have BB1 := Lib.hid (belG BB0.out hb BB0.out.size)
      have OA_1 := Lib.hid (OA_0.out.go hb)
      have OB_1 := Lib.hid (OB_0.out.go hb)
      have RN_1 := Lib.hid (RN_0.out.go hb)
      have HG_1 := Lib.hid (Bx.go HG_0.out hb)
      have HJ_1 := Lib.hid (Bx.go HJ_0.out hb)
      clear hb
      refine hK.out _ _ (KEEP.out _ BB1.out HG_1.out) (fun hHeld => ?_)
      clear hK K
      (try simp only [Act.put, List.setIfInBounds_toArray, List.set_cons_zero, List.set_cons_succ])
      refine wpAnyH_ready (rs := [6]) (by decide +kernel) (by simp) ?_
      refine AllReadyH.cons (o := ?_) ?_ (fun K hK => ?_) AllReadyH.nil
      rotate_left 1
      focus (simp only [List.getElem?_toArray, List.getElem?_cons_succ, List.getElem?_cons_zero] <;> rfl)
      (try rw [if_pos (by rfl)])
      refine wp_over _ (.tmp 45) (.tmp 48) rfl (W.heap.size + 2) ga 16 ca s.a (nx.take kc) NA kc nc rfl rfl OA_1.out.2.2.2 HLN.out.symm RN_1.out (by rw [HLN.out, HLA.out]; omega) ?_
      intro Cx hown
      obtain ⟨wz2, hwz⟩ : ∃ x, x = wz1.setRow ga Cx := ⟨_, rfl⟩
      have BB2 := Lib.hid (show Below W.heap.size W wz2 from by rw [hwz]; exact Below.setRowG BB1.out (by have h5 := OA_1.out.1; omega) _)
      have HG_2 := Lib.hid (show Bx wz2 W.heap.size 24 _ from by rw [hwz]; exact Bx.setRowOther HG_1.out (by have h5 := OA_1.out.1; omega) _)
      have HJ_2 := Lib.hid (show Bx wz2 (W.heap.size + 1) 24 _ from by rw [hwz]; exact Bx.setRowOther HJ_1.out (by have h5 := OA_1.out.1; omega) _)
      have OB_2 := Lib.hid (show OwS wz2 _ _ _ _ from by rw [hwz]; exact ⟨OB_1.out.1, OB_1.out.2.1, OB_1.out.2.2.1, OB_1.out.2.2.2.setRowS NEAB.out.symm _⟩)
      have OA_2 := Lib.hid (show OwS wz2 _ _ _ _ from by rw [hwz]; exact ⟨OA_1.out.1, OA_1.out.2.1, OA_1.out.2.2.1, hown⟩)
      rw [← hwz]
      clear hwz hown
      refine hK.out _ _ (KEEP.out _ BB2.out HG_2.out) (fun hHeld => ?_)
      clear hK K
      (try simp only [Act.put, List.setIfInBounds_toArray, List.set_cons_zero, List.set_cons_succ])
      refine wpAnyH_done (by decide +kernel) ?_ _
      refine NoPanic.normal ?_
      clear KEEP
      have HLL := Lib.hid (show (laidS nx s.a kc).length = 16 from laid_len HLR.out HLA.out (by omega))
      have RS := Lib.hid (show StR wz2 ⟨(some ⟨ga, 0, none⟩, ca), (some ⟨gb, 0, none⟩, cb)⟩ { s with a := laidS nx s.a kc } from ⟨by have h5 := OA_2.out.key (by rw [List.length_append, List.length_drop, HLN.out, HLA.out]; omega); unfold laidS; rw [HLN.out] at h5; exact h5, OB_2.out.key HLB.out⟩)
      have HCN := Lib.hid (show C = storC ⟨(some ⟨ga, 0, none⟩, ca), (some ⟨gb, 0, none⟩, cb)⟩ { s with a := laidS nx s.a kc } from by rw [HC.out]; unfold storC; dsimp only; rw [HLA.out, HLL.out])
      clear HB G J OA OB HT
      have HB := BB2
      have G := HG_2
      have J := HJ_2
      go_wp2_with (first | (refine loadX (.tmp 2) W.heap.size C tyStore HCS2.out G.out rfl rfl rfl ?_) | (refine storeX (.tmp 4) (.tmp 50) (W.heap.size + 1) C _ tyStore HCS2.out HC1.out J.out rfl rfl rfl rfl rfl ?_))
      (try dsimp only)
      refine bodyPost_ret (retX3 rfl _ _ (W.heap.size + 1) C _ _ tyStore HCS2.out rfl rfl rfl (Bx.setRow J.out _)) rfl ?_
      exact ⟨by rw [HI.out]; exact ⟨⟨(some ⟨ga, 0, none⟩, ca), (some ⟨gb, 0, none⟩, cb)⟩, by rw [← HCN.out]; rfl, RS.out.setRow J.out (no8_stor _ _)⟩, Below.setRowG HB.out (Nat.le_succ _) _⟩
    · have hm : manyS cut = 16 := by unfold manyS; rw [if_neg hc]
      rw [hm] at htk hbh
      have HI := Lib.hid (show takeS s cut = ({ s with a := laidS nx s.a 16 }, n, 0) from by rw [htk, if_neg (by decide), hbh])
      clear htk hbh hm
      by_cases h0 : 0 ≤ cut
      · have k0 : ¬ cut < 16 := fun h => hc ⟨h0, h⟩
        clear hc
        have CW := Lib.hid (fun w => CO.out 1 w (.inr rfl))
        rw [if_neg (by decide)] at CW
        clear CO
        go_upto_region 11 with (fail)
        go_wp2_with (refine loadX (.tmp 2) W.heap.size C tyStore HCS2.out G.out rfl rfl rfl ?_)
        refine (CW.out _).mono ?_
        rintro e w4 ⟨rfl, hb⟩
        have nHB := Lib.hid (belG HB.out hb HB.out.size)
        have nG := Lib.hid (Bx.go G.out hb)
        have nJ := Lib.hid (Bx.go J.out hb)
        have nOA := Lib.hid (OA.out.go hb)
        have nOB := Lib.hid (OB.out.go hb)
        have nHT := Lib.hid (HT.out.call hb)
        have nK1 := Lib.hid (K1.out.go hb)
        clear hb K1 CW
        clear HB G J OA OB HT
        have HB := nHB
        have G := nG
        have J := nJ
        have OA := nOA
        have OB := nOB
        have HT := nHT
        clear nHB nG nJ nOA nOB nHT
        have K1 := nK1
        clear nK1
        go_upto_region 12 with (refine wpList_over w4 rfl (.tmp 53) (.tmp 54) rfl (W.heap.size + 2) ga 16 ca s.a nx NA 16 nc rfl rfl OA.out.2.2.2 HLR.out.symm K1.out.2.2 (by rw [HLR.out, HLA.out]; decide) ?_; intro Cx hown; obtain ⟨w5, hwz⟩ : ∃ x, x = w4.setRow ga Cx := ⟨_, rfl⟩; have BB5 := Lib.hid (show Below W.heap.size W w5 from by rw [hwz]; exact Below.setRowG HB.out (by have h5 := OA.out.1; omega) _); have HG5 := Lib.hid (show Bx w5 W.heap.size 24 _ from by rw [hwz]; exact Bx.setRowOther G.out (by have h5 := OA.out.1; omega) _); have HJ5 := Lib.hid (show Bx w5 (W.heap.size + 1) 24 _ from by rw [hwz]; exact Bx.setRowOther J.out (by have h5 := OA.out.1; omega) _); have OY5 := Lib.hid (show OwS w5 _ _ _ _ from by rw [hwz]; exact ⟨OB.out.1, OB.out.2.1, OB.out.2.2.1, OB.out.2.2.2.setRowS NEAB.out.symm _⟩); have OX5 := Lib.hid (show OwS w5 _ _ _ _ from by rw [hwz]; exact ⟨OA.out.1, OA.out.2.1, OA.out.2.2.1, hown⟩); rw [← hwz]; clear hwz hown)
        have HLL := Lib.hid (show (laidS nx s.a 16).length = 16 from laid_len HLR.out HLA.out (by omega))
        have RS := Lib.hid (show StR w5 ⟨(some ⟨ga, 0, none⟩, ca), (some ⟨gb, 0, none⟩, cb)⟩ { s with a := laidS nx s.a 16 } from ⟨by have h5 := OX5.out.key (by rw [List.length_append, List.length_drop, HLR.out, HLA.out]); unfold laidS; rw [HLR.out] at h5; rw [List.take_of_length_le (by rw [HLR.out]; decide)]; exact h5, OY5.out.key HLB.out⟩)
        have HCN := Lib.hid (show C = storC ⟨(some ⟨ga, 0, none⟩, ca), (some ⟨gb, 0, none⟩, cb)⟩ { s with a := laidS nx s.a 16 } from by rw [HC.out]; unfold storC; dsimp only; rw [HLA.out, HLL.out])
        clear HB G J OA OB HT
        have HB := BB5
        have G := HG5
        have J := HJ5
        go_wp2_with (first | (refine loadX (.tmp 2) W.heap.size C tyStore HCS2.out G.out rfl rfl rfl ?_) | (refine storeX (.tmp 4) (.tmp 56) (W.heap.size + 1) C _ tyStore HCS2.out HC1.out J.out rfl rfl rfl rfl rfl ?_))
        (try dsimp only)
        refine bodyPost_ret (retX3 rfl _ _ (W.heap.size + 1) C _ _ tyStore HCS2.out rfl rfl rfl (Bx.setRow J.out _)) rfl ?_
        exact ⟨by rw [HI.out]; exact ⟨⟨(some ⟨ga, 0, none⟩, ca), (some ⟨gb, 0, none⟩, cb)⟩, by rw [← HCN.out]; rfl, RS.out.setRow J.out (no8_stor _ _)⟩, Below.setRowG HB.out (Nat.le_succ _) _⟩
      · clear hc
        have CW := Lib.hid (fun w => CO.out 1 w (.inr rfl))
        rw [if_neg (by decide)] at CW
        clear CO
        go_upto_region 11 with (fail)
        go_wp2_with (refine loadX (.tmp 2) W.heap.size C tyStore HCS2.out G.out rfl rfl rfl ?_)
        refine (CW.out _).mono ?_
        rintro e w4 ⟨rfl, hb⟩
        have nHB := Lib.hid (belG HB.out hb HB.out.size)
        have nG := Lib.hid (Bx.go G.out hb)
        have nJ := Lib.hid (Bx.go J.out hb)
        have nOA := Lib.hid (OA.out.go hb)
        have nOB := Lib.hid (OB.out.go hb)
        have nHT := Lib.hid (HT.out.call hb)
        have nK1 := Lib.hid (K1.out.go hb)
        clear hb K1 CW
        clear HB G J OA OB HT
        have HB := nHB
        have G := nG
        have J := nJ
        have OA := nOA
        have OB := nOB
        have HT := nHT
        clear nHB nG nJ nOA nOB nHT
        have K1 := nK1
        clear nK1
        go_upto_region 12 with (refine wpList_over w4 rfl (.tmp 53) (.tmp 54) rfl (W.heap.size + 2) ga 16 ca s.a nx NA 16 nc rfl rfl OA.out.2.2.2 HLR.out.symm K1.out.2.2 (by rw [HLR.out, HLA.out]; decide) ?_; intro Cx hown; obtain ⟨w5, hwz⟩ : ∃ x, x = w4.setRow ga Cx := ⟨_, rfl⟩; have BB5 := Lib.hid (show Below W.heap.size W w5 from by rw [hwz]; exact Below.setRowG HB.out (by have h5 := OA.out.1; omega) _); have HG5 := Lib.hid (show Bx w5 W.heap.size 24 _ from by rw [hwz]; exact Bx.setRowOther G.out (by have h5 := OA.out.1; omega) _); have HJ5 := Lib.hid (show Bx w5 (W.heap.size + 1) 24 _ from by rw [hwz]; exact Bx.setRowOther J.out (by have h5 := OA.out.1; omega) _); have OY5 := Lib.hid (show OwS w5 _ _ _ _ from by rw [hwz]; exact ⟨OB.out.1, OB.out.2.1, OB.out.2.2.1, OB.out.2.2.2.setRowS NEAB.out.symm _⟩); have OX5 := Lib.hid (show OwS w5 _ _ _ _ from by rw [hwz]; exact ⟨OA.out.1, OA.out.2.1, OA.out.2.2.1, hown⟩); rw [← hwz]; clear hwz hown)
        have HLL := Lib.hid (show (laidS nx s.a 16).length = 16 from laid_len HLR.out HLA.out (by omega))
        have RS := Lib.hid (show StR w5 ⟨(some ⟨ga, 0, none⟩, ca), (some ⟨gb, 0, none⟩, cb)⟩ { s with a := laidS nx s.a 16 } from ⟨by have h5 := OX5.out.key (by rw [List.length_append, List.length_drop, HLR.out, HLA.out]); unfold laidS; rw [HLR.out] at h5; rw [List.take_of_length_le (by rw [HLR.out]; decide)]; exact h5, OY5.out.key HLB.out⟩)
        have HCN := Lib.hid (show C = storC ⟨(some ⟨ga, 0, none⟩, ca), (some ⟨gb, 0, none⟩, cb)⟩ { s with a := laidS nx s.a 16 } from by rw [HC.out]; unfold storC; dsimp only; rw [HLA.out, HLL.out])
        clear HB G J OA OB HT
        have HB := BB5
        have G := HG5
        have J := HJ5
        go_wp2_with (first | (refine loadX (.tmp 2) W.heap.size C tyStore HCS2.out G.out rfl rfl rfl ?_) | (refine storeX (.tmp 4) (.tmp 56) (W.heap.size + 1) C _ tyStore HCS2.out HC1.out J.out rfl rfl rfl rfl rfl ?_))
        (try dsimp only)
        refine bodyPost_ret (retX3 rfl _ _ (W.heap.size + 1) C _ _ tyStore HCS2.out rfl rfl rfl (Bx.setRow J.out _)) rfl ?_
        exact ⟨by rw [HI.out]; exact ⟨⟨(some ⟨ga, 0, none⟩, ca), (some ⟨gb, 0, none⟩, cb)⟩, by rw [← HCN.out]; rfl, RS.out.setRow J.out (no8_stor _ _)⟩, Below.setRowG HB.out (Nat.le_succ _) _⟩
end Go.Proofs.YtfppcmhhbheaiaaDoor
