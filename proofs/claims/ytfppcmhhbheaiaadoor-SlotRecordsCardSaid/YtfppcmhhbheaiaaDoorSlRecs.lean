
/- SlotRecords' walk. -/
import Derived.Test.YtfppcmhhbheaiaaDoorSlS
import Derived.Test.YtfppcmhhbheaiaaDoorJ24
namespace Go.Proofs.YtfppcmhhbheaiaaDoor
open Go.RowKit

set_option maxRecDepth 100000 in
theorem tySRec : Ty 47 4 := ⟨⟨_, Tryd.underlying47, rfl⟩, by kernel_rfl⟩
set_option maxRecDepth 100000 in
theorem Ow.setS {w : World} {base g n cap : Nat} {l : List UInt8} (h : Ow w base (.slice (some ⟨g, 0, none⟩) n cap) l) (i : Nat) (z : UInt8) :
    Ow (w.setCell ⟨g, i, none⟩ (.int .u8 (z.toNat : Int))) base (.slice (some ⟨g, 0, none⟩) n cap) (l.set i z) := by
  refine ⟨by simp [cs], ?_⟩
  rcases h.2 with ⟨e, _⟩ | ⟨g', cap', cur, e, hb, hg, hn, hcap, hsz, htake⟩
  · cases e
  · cases e
    refine .inr ⟨g, cap, cur.setIfInBounds i (.int .u8 (z.toNat : Int)), by rw [List.length_set], hb, ?_, by rw [List.length_set]; exact hn, hcap, by rw [Array.size_setIfInBounds]; exact hsz, ?_⟩
    · exact heap_setCell_same w g i _ _ _ hg
    · rw [List.length_set, Array.toList_setIfInBounds, List.take_set, htake]
      simp [cs, List.map_set]
set_option maxRecDepth 100000 in
theorem Ow.atS {w : World} {base g n cap : Nat} {l : List UInt8} (h : Ow w base (.slice (some ⟨g, 0, none⟩) n cap) l) (i : Nat) (hi : i < l.length) : w.cell? ⟨g, i, none⟩ = some (.int .u8 ((l.getD i 0).toNat : Int)) ∧ w.frozen? ⟨g, i, none⟩ = false := by
  constructor
  · have := World.ownsRow.cells h (g := g) rfl i _ (cs_get l i hi)
    rw [Addr.add_lit, Nat.zero_add] at this
    rw [this, show l.getD i 0 = l[i] from by simp [List.getD, hi]]
  · rcases h.2 with ⟨e, _⟩ | ⟨g', cap', cur, e, hb, hg, _⟩
    · cases e
    · cases e
      exact frozen_of_row w g i _ _ hg
set_option maxRecDepth 100000 in
theorem xorS (a b : UInt8) : bits .xor .u8 (a.toNat : Int) (b.toNat : Int) = ((a ^^^ b).toNat : Int) := by
  rw [u8_xor_nat _ _ a.toNat_lt b.toNat_lt, UInt8.toNat_xor]
set_option maxRecDepth 100000 in
/-- a byte changed: what rec_byte asks -/
theorem set_byteS {n : Int} (h : EpS n) {i : Nat} (hi : i < 16) {x : UInt8} (hx : x ≠ 0) (hg : (goodS ((recL n).set i ((recL n).getD i 0 ^^^ x))).2 = true) :
    i < 8 ∧ (ofF (yettL ++ ((recL n).set i ((recL n).getD i 0 ^^^ x)).take 8)).take 8 = ((recL n).set i ((recL n).getD i 0 ^^^ x)).drop 8 := by
  have hl := recL_len n
  refine rec_byte h (by rw [List.length_set]; exact hl) hi ?_ (fun j hj => List.getElem?_set_ne (Ne.symm hj)) hg
  rw [List.getElem?_set_self (by omega), List.getElem?_eq_getElem (by omega)]
  intro e
  have e2 := Option.some.inj e
  rw [show (recL n).getD i 0 = (recL n)[i] from by rw [List.getD_eq_getElem?_getD, List.getElem?_eq_getElem (by omega)]; rfl] at e2
  exact hx (by
    have h3 : (recL n)[i] ^^^ ((recL n)[i] ^^^ x) = (recL n)[i] ^^^ (recL n)[i] := congrArg (fun z => (recL n)[i] ^^^ z) e2
    rw [← UInt8.xor_assoc, UInt8.xor_self, UInt8.zero_xor] at h3
    exact h3)
set_option maxRecDepth 100000 in
set_option maxHeartbeats 4000000 in
theorem slotRecords_walk (m n at_ by_ : Int) (W : World) (hm : B64t m) (hn : B64t n) (ha : 0 ≤ at_ ∧ at_ ≤ 255) (hb : 0 ≤ by_ ∧ by_ ≤ 255) (hT : Ks W) :
    Calls Tryd.prog 5 #[.agg (sRecC m n at_ by_)] W fun e W' => e = .returned (.bool true) ∧ Below W.heap.size W W' := by
  have HT := Lib.hid hT
  obtain ⟨tn, rfl⟩ := Int.eq_ofNat_of_zero_le ha.1
  obtain ⟨ub, rfl⟩ := Int.eq_ofNat_of_zero_le hb.1
  obtain ⟨x, hx⟩ : ∃ x : UInt8, ub = x.toNat := ⟨UInt8.ofNat ub, by rw [UInt8.toNat_ofNat']; have := hb.2; omega⟩
  subst hx
  have ha2 := ha.2
  have HM := Lib.hid hm
  have HN := Lib.hid hn
  have ER := Lib.hid (fun w hT => sRecord_any m w hT HM.out)
  have EQ := Lib.hid (fun w hT => sRecord_any n w hT HN.out)
  have HC0 := Lib.hid (show (sRecC m n (tn : Int) (x.toNat : Int))[0]? = some (.int .i64 m) from rfl)
  have HC1 := Lib.hid (show (sRecC m n (tn : Int) (x.toNat : Int))[1]? = some (.int .i64 n) from rfl)
  have HC2 := Lib.hid (show (sRecC m n (tn : Int) (x.toNat : Int))[2]? = some (.int .u8 (tn : Int)) from rfl)
  have HC3 := Lib.hid (show (sRecC m n (tn : Int) (x.toNat : Int))[3]? = some (.int .u8 (x.toNat : Int)) from rfl)
  obtain ⟨CC, hCC⟩ : ∃ CC, CC = sRecC m n (tn : Int) (x.toNat : Int) := ⟨_, rfl⟩
  rw [← hCC] at HC0 HC1 HC2 HC3 ⊢
  clear hCC hT hm hn ha hb
  obtain ⟨V0, hV, hb, hg⟩ := bx1 W 47 CC
  have HB := Lib.hid hb
  have G0 := Lib.hid hg
  have HV := Lib.hid hV
  clear hb hg hV
  go_enter Tryd.func5, Tryd.ntmps5
  go_upto_region 1 with (fail)
  rw [← HV.out]
  clear HV
  have x0 := Bx.cell G0.out HC0.out
  have x1 := Bx.cell G0.out HC1.out
  have x2 := Bx.cell G0.out HC2.out
  have x3 := Bx.cell G0.out HC3.out
  go_wp2_with fail
  clear x0 x1 x2 x3 HC0 HC1 HC2 HC3
  refine (shown13_any _ (HT.out.below HB.out HT.out.1)).mono ?_
  rintro e w1 ⟨rfl, hb⟩
  have nHB := Lib.hid (belG HB.out hb HB.out.size)
  have nG0 := Lib.hid (Bx.go G0.out hb)
  clear hb
  clear HB G0
  have HB := nHB
  have G0 := nG0
  clear nHB nG0
  clear G0
  go_upto_region 6 with fail
  by_cases hem : EpS m
  case neg =>
    rw [show recordS m = ([], 1) from by unfold recordS; rw [if_neg hem]] at ER
    have hlo : ¬ (1 ≤ m ∧ m ≤ 4611686018427387904) := hem
    clear hem
    obtain ⟨ln, hln⟩ : ∃ l, l = (recordS n).1 := ⟨_, rfl⟩
    obtain ⟨nn, hnn⟩ : ∃ l, l = (recordS n).2 := ⟨_, rfl⟩
    rw [← hln, ← hnn] at EQ
    clear hln hnn
    go_wp2_with fail
    refine (ER.out _ (HT.out.below HB.out HT.out.1)).mono ?_
    rintro e w2 ⟨⟨v1, rfl, how⟩, hb⟩
    have nHB := Lib.hid (belG HB.out hb HB.out.size)
    clear hb
    clear HB 
    have HB := nHB
    clear nHB 
    obtain ⟨y1, rfl, hk⟩ := how.keyB
    have K1 := Lib.hid hk
    clear hk how
    (try rw [List.length_nil])
    go_wp2_with fail
    refine (EQ.out _ (HT.out.below HB.out HT.out.1)).mono ?_
    rintro e w3 ⟨⟨v2, rfl, how⟩, hb⟩
    have nHB := Lib.hid (belG HB.out hb HB.out.size)
    have nK1 := Lib.hid (K1.out.go hb)
    clear hb
    clear HB K1
    have HB := nHB
    have K1 := nK1
    clear nHB nK1
    obtain ⟨y2, rfl, hk⟩ := how.keyB
    have K2 := Lib.hid hk
    clear hk how
    by_cases h1 : 1 ≤ m
    · have h2 : ¬ m ≤ 4611686018427387904 := fun h => hlo ⟨h1, h⟩
      clear hlo
      go_wp2_with fail
      go_ret
      exact ⟨by first | rfl | (simp; done), HB.out⟩
    · clear hlo
      go_wp2_with fail
      go_ret
      exact ⟨by first | rfl | (simp; done), HB.out⟩
  rw [show recordS m = (recL m, 0) from by unfold recordS; rw [if_pos hem]] at ER
  have HE := Lib.hid hem
  obtain ⟨h1, h2⟩ : 1 ≤ m ∧ m ≤ 4611686018427387904 := hem
  obtain ⟨la, hla⟩ : ∃ l, l = recL m := ⟨_, rfl⟩
  have HLA := Lib.hid (show la.length = 16 from by rw [hla]; exact recL_len m)
  have HA := Lib.hid hla
  rw [← hla] at ER
  clear hla
  by_cases hen : EpS n
  case neg =>
    rw [show recordS n = ([], 1) from by unfold recordS; rw [if_neg hen]] at EQ
    clear hen
    go_wp2_with fail
    refine (ER.out _ (HT.out.below HB.out HT.out.1)).mono ?_
    rintro e w2 ⟨⟨v1, rfl, how⟩, hb⟩
    have nHB := Lib.hid (belG HB.out hb HB.out.size)
    clear hb
    clear HB 
    have HB := nHB
    clear nHB 
    obtain ⟨y1, rfl, hk⟩ := how.keyB
    have K1 := Lib.hid hk
    clear hk how
    rw [HLA.out]
    go_wp2_with fail
    refine (EQ.out _ (HT.out.below HB.out HT.out.1)).mono ?_
    rintro e w3 ⟨⟨v2, rfl, how⟩, hb⟩
    have nHB := Lib.hid (belG HB.out hb HB.out.size)
    have nK1 := Lib.hid (K1.out.go hb)
    clear hb
    clear HB K1
    have HB := nHB
    have K1 := nK1
    clear nHB nK1
    obtain ⟨y2, rfl, hk⟩ := how.keyB
    have K2 := Lib.hid hk
    clear hk how
    (try rw [List.length_nil])
    go_wp2_with fail
    go_ret
    exact ⟨by first | rfl | (simp; done), HB.out⟩
  rw [show recordS n = (recL n, 0) from by unfold recordS; rw [if_pos hen]] at EQ
  have HEN := Lib.hid hen
  obtain ⟨lb, hlb⟩ : ∃ l, l = recL n := ⟨_, rfl⟩
  have HLB := Lib.hid (show lb.length = 16 from by rw [hlb]; exact recL_len n)
  have HBB := Lib.hid hlb
  rw [← hlb] at EQ
  clear hlb
  by_cases hx0 : x = 0
  case pos =>
    have hxz : ((x.toNat : Int) == 0) = true := by rw [hx0]; rfl
    clear hx0
    go_wp2_with fail
    refine (ER.out _ (HT.out.below HB.out HT.out.1)).mono ?_
    rintro e w2 ⟨⟨v1, rfl, how⟩, hb⟩
    have nHB := Lib.hid (belG HB.out hb HB.out.size)
    clear hb
    clear HB 
    have HB := nHB
    clear nHB 
    obtain ⟨y1, rfl, hk⟩ := how.keyB
    have K1 := Lib.hid hk
    clear hk how
    rw [HLA.out]
    go_wp2_with fail
    refine (EQ.out _ (HT.out.below HB.out HT.out.1)).mono ?_
    rintro e w3 ⟨⟨v2, rfl, how⟩, hb⟩
    have nHB := Lib.hid (belG HB.out hb HB.out.size)
    have nK1 := Lib.hid (K1.out.go hb)
    clear hb
    clear HB K1
    have HB := nHB
    have K1 := nK1
    clear nHB nK1
    obtain ⟨y2, rfl, hk⟩ := how.keyB
    have K2 := Lib.hid hk
    clear hk how
    rw [HLB.out]
    go_wp2_with fail
    go_ret
    exact ⟨by first | rfl | (simp; done), HB.out⟩
  have hxz : ((x.toNat : Int) == 0) = false := beq_eq_false_iff_ne.2 (fun h => hx0 (UInt8.toNat_inj.1 (by rw [show (0 : UInt8).toNat = 0 from rfl]; omega)))
  obtain ⟨i, hi⟩ : ∃ i, i = tn % 16 := ⟨_, rfl⟩
  have hi16 : i < 16 := by omega
  have i4 : (tn : Int).tmod 16 = (i : Int) := by rw [Int.tmod_eq_emod_of_nonneg (by omega), hi]; push_cast; rfl
  have i5 : (tn : Int) % 16 = (i : Int) := by rw [hi]; push_cast; rfl
  have hiI : (i : Int) < 16 := by omega
  have hi0 : (0 : Int) ≤ (i : Int) := by omega
  have EG := Lib.hid (fun y w hT (h : KeyB w y la) => sGood_any y la w hT (by rw [HLA.out]; decide) h)
  rw [show goodS la = (m, true) from by rw [HA.out]; exact good_rec HE.out, HLA.out] at EG
  obtain ⟨lc, hlc⟩ : ∃ l, l = la.set i (la.getD i 0 ^^^ x) := ⟨_, rfl⟩
  have HLC := Lib.hid (show lc.length = 16 from by rw [hlc, List.length_set]; exact HLA.out)
  have EC := Lib.hid (fun y w hT (h : KeyB w y lc) => sGood_any y lc w hT (by rw [HLC.out]; decide) h)
  rw [HLC.out] at EC
  have HGB := Lib.hid (show (goodS lc).2 = true → i < 8 ∧ (ofF (yettL ++ lc.take 8)).take 8 = lc.drop 8 from fun h => by rw [hlc, HA.out] at h ⊢; exact set_byteS HE.out hi16 hx0 h)
  obtain ⟨gc, hgc⟩ : ∃ q, q = (goodS lc).1 := ⟨_, rfl⟩
  obtain ⟨gy, hgy⟩ : ∃ q, q = (goodS lc).2 := ⟨_, rfl⟩
  rw [← hgc, ← hgy] at EC
  rw [← hgy] at HGB
  have HSET := Lib.hid hlc
  have SAB := Lib.hid (fun (u v : Wkb) w h k => sameB_any u v la lb w h k)
  rw [HLA.out, HLB.out] at SAB
  have HAB := Lib.hid (show la = lb ↔ m = n from by rw [HA.out, HBB.out]; exact recL_inj HE.out HEN.out)
  obtain ⟨l8, hl8⟩ : ∃ l, l = lc.take 8 := ⟨_, rfl⟩
  have HL8 := Lib.hid (show l8.length = 8 from by rw [hl8, List.length_take, HLC.out]; decide)
  have HE8 := Lib.hid hl8
  have HLO := Lib.hid (show (yettL ++ l8).length = 12 from by rw [List.length_append, HL8.out]; rfl)
  have CO := Lib.hid (fun A c w h1 h2 => refOf_own A (yettL ++ l8) c w (by rw [HLO.out]; decide) h1 h2)
  rw [HLO.out] at CO
  obtain ⟨so, hso⟩ : ∃ l, l = ofF (yettL ++ l8) := ⟨_, rfl⟩
  rw [← hl8, ← hso] at HGB
  rw [← hso] at CO
  have HLS := Lib.hid (show so.length = 32 from by rw [hso]; exact ofF_len _)
  have SSC := Lib.hid (fun (u v : Wkb) w h k => sameB_any u v (so.take 8) (lc.drop 8) w h k)
  rw [show (so.take 8).length = 8 from by rw [List.length_take, HLS.out]; decide, show (lc.drop 8).length = 8 from by rw [List.length_drop, HLC.out]] at SSC
  have kc := fun (w : World) (C : Array Value) (n c : Nat) => Lib.run_convert_bytes_const (P := Tryd.prog) w 22 5 C n c Tryd.underlying22 Tryd.underlying5
  clear hlc hgc hgy hl8 hso hi hx0
  go_wp2_with fail
  refine (ER.out _ (HT.out.below HB.out HT.out.1)).mono ?_
  rintro e w2 ⟨⟨v1, rfl, how⟩, hb⟩
  have nHB := Lib.hid (belG HB.out hb HB.out.size)
  clear hb
  clear HB 
  have HB := nHB
  clear nHB 
  obtain ⟨y1, rfl, hk⟩ := how.keyB
  have K1 := Lib.hid hk
  clear hk how
  rw [HLA.out]
  go_wp2_with fail
  refine (EQ.out _ (HT.out.below HB.out HT.out.1)).mono ?_
  rintro e w3 ⟨⟨v2, rfl, how⟩, hb⟩
  have nHB := Lib.hid (belG HB.out hb HB.out.size)
  have nK1 := Lib.hid (K1.out.go hb)
  clear hb
  clear HB K1
  have HB := nHB
  have K1 := nK1
  clear nHB nK1
  obtain ⟨y2, rfl, hk⟩ := how.keyB
  have K2 := Lib.hid hk
  clear hk how
  rw [HLB.out]
  go_wp2_with fail
  refine (EG.out y1 _ (HT.out.below HB.out HT.out.1) K1.out).mono ?_
  rintro e w4 ⟨rfl, hb⟩
  have nHB := Lib.hid (belG HB.out hb HB.out.size)
  have nK1 := Lib.hid (K1.out.go hb)
  have nK2 := Lib.hid (K2.out.go hb)
  clear hb
  clear HB K1 K2
  have HB := nHB
  have K1 := nK1
  have K2 := nK2
  clear nHB nK1 nK2
  have hsz := HB.out.size
  go_upto_region 14 with (at_builtin; refine wpList_appS (w4.alloc (.cells #[] 5)) rfl (.tmp 90) (.tmp 91) rfl w4.heap.size _ [] la rfl (by exact Ow.made0 w4 (Nat.le_refl _)) y1.1 16 y1.2 _ rfl HLA.out.symm (by exact (K1.out.go ((Below.refl w4.heap.size w4).alloc (Nat.le_refl _) _)).2.2) (by simp only [List.length_nil]; have := HLA.out; omega) (by exact le_alloc (Nat.le_refl _) _) ?_; intro v5 w5 hown5 hgrow5; have HB5 := Lib.hid (Ow.below (w0 := w4) (by exact Ow.made0 w4 (Nat.le_refl _)) (by exact (Below.refl w4.heap.size w4).alloc (Nat.le_refl _) _) hgrow5 (by exact le_alloc (Nat.le_refl _) _)); rw [List.nil_append] at hown5; obtain ⟨g, c5, e5, hg5, -⟩ := World.ownsRow.form hown5 (by have := HLA.out; omega); rw [HLA.out] at e5; subst e5; have HO5 := Lib.hid hown5; have HG5 := Lib.hid hg5; clear hown5 hgrow5 hg5)
  obtain ⟨k1, k2⟩ := Ow.atS HO5.out i (by rw [HLA.out]; exact hi16)
  generalize hyy : la.getD i 0 = yy at *
  go_upto_region 16 with (fail)
  have hs6 := HO5.out.setS i (yy ^^^ x)
  rw [← xorS] at hs6
  have hb6 := HB5.out.setCell (p := ⟨g, i, none⟩) HG5.out (.int .u8 (bits .xor .u8 (yy.toNat : Int) (x.toNat : Int)))
  generalize w5.setCell ⟨g, i, none⟩ (.int .u8 (bits .xor .u8 (yy.toNat : Int) (x.toNat : Int))) = w6 at *
  rw [← HSET.out] at hs6
  have hcap6 : (16 : Int) ≤ (c5 : Int) := by
    obtain ⟨A, c, e, q1, q2, q3⟩ := hs6.form
    simp only [Value.slice.injEq] at e
    obtain ⟨-, -, rfl⟩ := e
    rw [HLC.out] at q1; omega
  have KC := Lib.hid (show KeyB w6 (some ⟨g, 0, none⟩, c5) lc from by
    obtain ⟨A, c, e, q1, q2, q3⟩ := hs6.form
    simp only [Value.slice.injEq] at e
    obtain ⟨rfl, -, rfl⟩ := e
    exact ⟨q1, q2, q3⟩)
  have nHB := Lib.hid (belG HB.out hb6 HB.out.size)
  have nK1 := Lib.hid (K1.out.go hb6)
  have nK2 := Lib.hid (K2.out.go hb6)
  clear hs6 hb6 HB5 HO5 HG5 hsz hyy k1 k2 HSET
  clear HB K1 K2
  have HB := nHB
  have K1 := nK1
  have K2 := nK2
  clear nHB nK1 nK2
  go_wp2_with fail
  refine (EC.out (some ⟨g, 0, none⟩, c5) _ (HT.out.below HB.out HT.out.1) KC.out).mono ?_
  rintro e w7 ⟨rfl, hb⟩
  have nHB := Lib.hid (belG HB.out hb HB.out.size)
  have nK1 := Lib.hid (K1.out.go hb)
  have nK2 := Lib.hid (K2.out.go hb)
  have nKC := Lib.hid (KC.out.go hb)
  clear hb
  clear HB K1 K2 KC
  have HB := nHB
  have K1 := nK1
  have K2 := nK2
  have KC := nKC
  clear nHB nK1 nK2 nKC
  obtain ⟨V, hV⟩ : ∃ x, x = w7.alloc (.cells (cs yettL).toArray 5 (4, 5)) := ⟨_, rfl⟩
  have ha := (Below.refl w7.heap.size w7).alloc (Nat.le_refl _) (.cells (cs yettL).toArray 5 (4, 5))
  have hy := rd_made w7 yettL (4, 5)
  rw [← hV] at ha hy
  have nHB := Lib.hid (belG HB.out ha HB.out.size)
  have nK1 := Lib.hid (K1.out.go ha)
  have nK2 := Lib.hid (K2.out.go ha)
  have nKC := Lib.hid (KC.out.go ha)
  have RY := Lib.hid hy
  have R8 := Lib.hid (show Rd V V.heap.size (some ⟨g, 0, none⟩) l8 from by rw [HE8.out]; exact ((KC.out.go ha).take 8).2.2)
  have HV := Lib.hid (show V = w7.alloc (.cells #[.int .u8 121, .int .u8 101, .int .u8 116, .int .u8 116] 5 (4, 5)) from hV)
  have hcap8 : (8 : Int) ≤ (c5 : Int) := by omega
  clear hV ha hy
  clear HB K1 K2 KC
  have HB := nHB
  have K1 := nK1
  have K2 := nK2
  have KC := nKC
  clear nHB nK1 nK2 nKC
  go_upto_region 17 with (fail)
  go_wp2_with (at_builtin; rw [← HV.out]; (refine wpList_appG _ rfl (.tmp 111) (.tmp 113) rfl ⟨w7.heap.size, 0, none⟩ yettL l8 (some ⟨g, 0, none⟩) 4 8 c5 _ _ rfl rfl rfl HL8.out.symm RY.out R8.out (by decide) (by rw [HL8.out]; decide) (by rw [HL8.out]; decide) ?_); intro v8 w8 hown hb; have nHB := Lib.hid (belG HB.out hb HB.out.size); have nK1 := Lib.hid (K1.out.go hb); have nK2 := Lib.hid (K2.out.go hb); have nKC := Lib.hid (KC.out.go hb); obtain ⟨A2, c2, e2, q1, q2, q3⟩ := hown.form; rw [HLO.out] at e2 q1; subst e2; have R2 := Lib.hid q3; have Q1 := Lib.hid q1; clear hown hb q3 q1 q2)
  clear HB K1 K2 KC
  have HB := nHB
  have K1 := nK1
  have K2 := nK2
  have KC := nKC
  clear nHB nK1 nK2 nKC
  refine (CO.out A2 c2 _ Q1.out R2.out).mono ?_
  rintro e w9 ⟨⟨v9, rfl, how⟩, hb⟩
  have nHB := Lib.hid (belG HB.out hb HB.out.size)
  have nK1 := Lib.hid (K1.out.go hb)
  have nK2 := Lib.hid (K2.out.go hb)
  have nKC := Lib.hid (KC.out.go hb)
  clear hb
  clear HB K1 K2 KC
  have HB := nHB
  have K1 := nK1
  have K2 := nK2
  have KC := nKC
  clear nHB nK1 nK2 nKC
  obtain ⟨yo, rfl, hk⟩ := how.keyB
  have hcapo : (8 : Int) ≤ (yo.2 : Int) := by have h5 : so.length ≤ yo.2 := hk.1; rw [HLS.out] at h5; omega
  have KO := Lib.hid (hk.take 8)
  clear how hk R2 Q1 RY R8 HV
  rw [HLS.out]
  have KD := Lib.hid (show KeyB w9 (some ⟨g, 8, none⟩, c5 - 8) (lc.drop 8) from by have h9 := KC.out.drop 8 (by rw [HLC.out]; decide); rwa [Nat.zero_add] at h9)
  have hc58 : ¬ c5 = 8 := by omega
  have hc516 : (16 : Int) ≤ (c5 : Int) := hcap6
  go_upto_region 18 with fail
  cases gy with
  | false =>
    clear HGB
    by_cases hi8 : (8 : Int) ≤ (i : Int)
    · have BB0 := Lib.hid ((Below.refl w9.heap.size w9).drew)
      have KEEP := Lib.hid (fun w' (hW : Below w9.heap.size w9 w') => (show Below w9.heap.size w9 w' from hW))
      refine wp_region_noPanic ?_
      refine wp_region_held_drew (S := fun w' => Below w9.heap.size w9 w') (by kernel_rfl) (KEEP.out _ BB0.out) (fun hHeld => ?_)
      obtain ⟨wz0, hwz⟩ : ∃ x, x = w9.drew := ⟨_, rfl⟩
      rw [← hwz] at BB0 hHeld ⊢
      clear hwz
      refine wpAnyH_take (i := 0) (oi := ?_) (v := ?_) ?_ (by kernel_rfl) (by decide +kernel) (by decide +kernel) (fun _ _ _ h => h) ?_ (by assumption) ?_
      rotate_left 2
      focus (simp only [List.getElem?_toArray, List.getElem?_cons_zero] <;> rfl)
      · refine Or.inl ⟨by rfl, ?_⟩
        intro w hSw
        (try dsimp only at hSw)
        go_simp <;> with_reducible rfl
      (try simp only [Act.put, List.setIfInBounds_toArray, List.set_cons_zero, List.set_cons_succ])
      refine wpAnyH_take (i := 1) (oi := ?_) (v := ?_) ?_ (by kernel_rfl) (by decide +kernel) (by decide +kernel) (fun _ _ _ h => h) ?_ (by assumption) ?_
      rotate_left 2
      focus (simp only [List.getElem?_toArray, List.getElem?_cons_succ, List.getElem?_cons_zero] <;> rfl)
      · refine Or.inl ⟨by rfl, ?_⟩
        intro w hSw
        (try dsimp only at hSw)
        go_simp <;> with_reducible rfl
      (try simp only [Act.put, List.setIfInBounds_toArray, List.set_cons_zero, List.set_cons_succ])
      refine wpAnyH_take (i := 2) (oi := ?_) (v := ?_) ?_ (by kernel_rfl) (by decide +kernel) (by decide +kernel) (fun _ _ _ h => h) ?_ (by assumption) ?_
      rotate_left 2
      focus (simp only [List.getElem?_toArray, List.getElem?_cons_succ, List.getElem?_cons_zero] <;> rfl)
      · refine Or.inl ⟨by rfl, ?_⟩
        intro w hSw
        (try dsimp only at hSw)
        go_simp <;> with_reducible rfl
      (try simp only [Act.put, List.setIfInBounds_toArray, List.set_cons_zero, List.set_cons_succ])
      refine wpAnyH_take (i := 3) (oi := ?_) (v := ?_) ?_ (by kernel_rfl) (by decide +kernel) (by decide +kernel) (fun _ _ _ h => h) ?_ (by assumption) ?_
      rotate_left 2
      focus (simp only [List.getElem?_toArray, List.getElem?_cons_succ, List.getElem?_cons_zero] <;> rfl)
      · refine Or.inl ⟨by rfl, ?_⟩
        intro w hSw
        (try dsimp only at hSw)
        go_simp <;> with_reducible rfl
      (try simp only [Act.put, List.setIfInBounds_toArray, List.set_cons_zero, List.set_cons_succ])
      refine wpAnyH_take (i := 4) (oi := ?_) (v := ?_) ?_ (by kernel_rfl) (by decide +kernel) (by decide +kernel) (fun _ _ _ h => h) ?_ (by assumption) ?_
      rotate_left 2
      focus (simp only [List.getElem?_toArray, List.getElem?_cons_succ, List.getElem?_cons_zero] <;> rfl)
      · refine Or.inl ⟨by rfl, ?_⟩
        intro w hSw
        (try dsimp only at hSw)
        go_simp <;> with_reducible rfl
      (try simp only [Act.put, List.setIfInBounds_toArray, List.set_cons_zero, List.set_cons_succ])
      refine wpAnyH_take (i := 5) (oi := ?_) (v := ?_) ?_ (by kernel_rfl) (by decide +kernel) (by decide +kernel) (fun _ _ _ h => h) ?_ (by assumption) ?_
      rotate_left 2
      focus (simp only [List.getElem?_toArray, List.getElem?_cons_succ, List.getElem?_cons_zero] <;> rfl)
      · refine Or.inl ⟨by rfl, ?_⟩
        intro w hSw
        (try dsimp only at hSw)
        go_simp <;> with_reducible rfl
      (try simp only [Act.put, List.setIfInBounds_toArray, List.set_cons_zero, List.set_cons_succ])
      refine wpAnyH_take (i := 6) (oi := ?_) (v := ?_) ?_ (by kernel_rfl) (by decide +kernel) (by decide +kernel) (fun _ _ _ h => h) ?_ (by assumption) ?_
      rotate_left 2
      focus (simp only [List.getElem?_toArray, List.getElem?_cons_succ, List.getElem?_cons_zero] <;> rfl)
      · refine Or.inl ⟨by rfl, ?_⟩
        intro w hSw
        (try dsimp only at hSw)
        go_simp <;> with_reducible rfl
      (try simp only [Act.put, List.setIfInBounds_toArray, List.set_cons_zero, List.set_cons_succ])
      refine wpAnyH_take (i := 7) (oi := ?_) (v := ?_) ?_ (by kernel_rfl) (by decide +kernel) (by decide +kernel) (fun _ _ _ h => h) ?_ (by assumption) ?_
      rotate_left 2
      focus (simp only [List.getElem?_toArray, List.getElem?_cons_succ, List.getElem?_cons_zero] <;> rfl)
      · refine Or.inl ⟨by rfl, ?_⟩
        intro w hSw
        (try dsimp only at hSw)
        go_simp <;> with_reducible rfl
      (try simp only [Act.put, List.setIfInBounds_toArray, List.set_cons_zero, List.set_cons_succ])
      refine wpAnyH_take (i := 8) (oi := ?_) (v := undef) ?_ (by kernel_rfl) (by decide +kernel) (by decide +kernel) (fun _ _ _ h => h) ?_ (by assumption) ?_
      rotate_left 1
      focus (simp only [List.getElem?_toArray, List.getElem?_cons_succ, List.getElem?_cons_zero] <;> rfl)
      · exact Or.inr ⟨by rfl, rfl⟩
      (try simp only [Act.put, List.setIfInBounds_toArray, List.set_cons_zero, List.set_cons_succ])
      refine wpAnyH_take (i := 10) (oi := ?_) (v := undef) ?_ (by kernel_rfl) (by decide +kernel) (by decide +kernel) (fun _ _ _ h => h) ?_ (by assumption) ?_
      rotate_left 1
      focus (simp only [List.getElem?_toArray, List.getElem?_cons_succ, List.getElem?_cons_zero] <;> rfl)
      · exact Or.inr ⟨by rfl, rfl⟩
      (try simp only [Act.put, List.setIfInBounds_toArray, List.set_cons_zero, List.set_cons_succ])
      refine wpAnyH_take (i := 9) (oi := ?_) (v := undef) ?_ (by kernel_rfl) (by decide +kernel) (by decide +kernel) (fun _ _ _ h => h) ?_ (by assumption) ?_
      rotate_left 1
      focus (simp only [List.getElem?_toArray, List.getElem?_cons_succ, List.getElem?_cons_zero] <;> rfl)
      · exact Or.inr ⟨by rfl, rfl⟩
      (try simp only [Act.put, List.setIfInBounds_toArray, List.set_cons_zero, List.set_cons_succ])
      refine wpAnyH_take (i := 11) (oi := ?_) (v := undef) ?_ (by kernel_rfl) (by decide +kernel) (by decide +kernel) (fun _ _ _ h => h) ?_ (by assumption) ?_
      rotate_left 1
      focus (simp only [List.getElem?_toArray, List.getElem?_cons_succ, List.getElem?_cons_zero] <;> rfl)
      · exact Or.inr ⟨by rfl, rfl⟩
      (try simp only [Act.put, List.setIfInBounds_toArray, List.set_cons_zero, List.set_cons_succ])
      refine wpAnyH_take (i := 12) (oi := ?_) (v := undef) ?_ (by kernel_rfl) (by decide +kernel) (by decide +kernel) (fun _ _ _ h => h) ?_ (by assumption) ?_
      rotate_left 1
      focus (simp only [List.getElem?_toArray, List.getElem?_cons_succ, List.getElem?_cons_zero] <;> rfl)
      · exact Or.inr ⟨by rfl, rfl⟩
      (try simp only [Act.put, List.setIfInBounds_toArray, List.set_cons_zero, List.set_cons_succ])
      refine wpAnyH_take (i := 13) (oi := ?_) (v := undef) ?_ (by kernel_rfl) (by decide +kernel) (by decide +kernel) (fun _ _ _ h => h) ?_ (by assumption) ?_
      rotate_left 1
      focus (simp only [List.getElem?_toArray, List.getElem?_cons_succ, List.getElem?_cons_zero] <;> rfl)
      · exact Or.inr ⟨by rfl, rfl⟩
      (try simp only [Act.put, List.setIfInBounds_toArray, List.set_cons_zero, List.set_cons_succ])
      refine wpAnyH_take (i := 14) (oi := ?_) (v := ?_) ?_ (by kernel_rfl) (by decide +kernel) (by decide +kernel) (fun _ _ _ h => h) ?_ (by assumption) ?_
      rotate_left 2
      focus (simp only [List.getElem?_toArray, List.getElem?_cons_succ, List.getElem?_cons_zero] <;> rfl)
      · refine Or.inl ⟨by rfl, ?_⟩
        intro w hSw
        (try dsimp only at hSw)
        go_simp <;> with_reducible rfl
      (try simp only [Act.put, List.setIfInBounds_toArray, List.set_cons_zero, List.set_cons_succ])
      refine wpAnyH_take (i := 15) (oi := ?_) (v := ?_) ?_ (by kernel_rfl) (by decide +kernel) (by decide +kernel) (fun _ _ _ h => h) ?_ (by assumption) ?_
      rotate_left 2
      focus (simp only [List.getElem?_toArray, List.getElem?_cons_succ, List.getElem?_cons_zero] <;> rfl)
      · refine Or.inl ⟨by rfl, ?_⟩
        intro w hSw
        (try dsimp only at hSw)
        go_simp <;> with_reducible rfl
      (try simp only [Act.put, List.setIfInBounds_toArray, List.set_cons_zero, List.set_cons_succ])
      refine wpAnyH_done (by decide +kernel) ?_ _
      refine NoPanic.normal ?_
      clear KEEP
      obtain ⟨w10, hw⟩ : ∃ x, x = wz0 := ⟨_, rfl⟩
      have hb : Below w9.heap.size w9 w10 := by rw [hw]; exact BB0.out
      rw [← hw]
      have nHB := Lib.hid (belG HB.out hb HB.out.size)
      have nK1 := Lib.hid (K1.out.go hb)
      have nK2 := Lib.hid (K2.out.go hb)
      have nKC := Lib.hid (KC.out.go hb)
      have nKO := Lib.hid (KO.out.go hb)
      have nKD := Lib.hid (KD.out.go hb)
      clear hb hw
      clear HB K1 K2 KC KO KD
      have HB := nHB
      have K1 := nK1
      have K2 := nK2
      have KC := nKC
      have KO := nKO
      have KD := nKD
      clear nHB nK1 nK2 nKC nKO nKD
      by_cases hmn : m = n
      · have d1 : decide (la = lb) = true := decide_eq_true (HAB.out.2 hmn)
        have d2 : (m == n) = true := by rw [hmn]; simp
        have d3 : (m == m) = true := by simp
        rw [d1] at SAB
        clear d1 hmn
        go_wp2_with fail
        refine (SAB.out y1 y2 _ K1.out K2.out).mono ?_
        rintro e w11 ⟨rfl, rfl⟩
        go_wp2_with fail
        go_ret
        exact ⟨by first | rfl | (simp; done), HB.out⟩
      · have d1 : decide (la = lb) = false := decide_eq_false (fun h => hmn (HAB.out.1 h))
        have d2 : (m == n) = false := beq_eq_false_iff_ne.2 hmn
        have d3 : (m == m) = true := by simp
        rw [d1] at SAB
        clear d1 hmn
        go_wp2_with fail
        refine (SAB.out y1 y2 _ K1.out K2.out).mono ?_
        rintro e w11 ⟨rfl, rfl⟩
        go_wp2_with fail
        go_ret
        exact ⟨by first | rfl | (simp; done), HB.out⟩
    · have BB0 := Lib.hid ((Below.refl w9.heap.size w9).drew)
      have KEEP := Lib.hid (fun w' (hW : Below w9.heap.size w9 w') => (show Below w9.heap.size w9 w' from hW))
      refine wp_region_noPanic ?_
      refine wp_region_held_drew (S := fun w' => Below w9.heap.size w9 w') (by kernel_rfl) (KEEP.out _ BB0.out) (fun hHeld => ?_)
      obtain ⟨wz0, hwz⟩ : ∃ x, x = w9.drew := ⟨_, rfl⟩
      rw [← hwz] at BB0 hHeld ⊢
      clear hwz
      refine wpAnyH_take (i := 0) (oi := ?_) (v := ?_) ?_ (by kernel_rfl) (by decide +kernel) (by decide +kernel) (fun _ _ _ h => h) ?_ (by assumption) ?_
      rotate_left 2
      focus (simp only [List.getElem?_toArray, List.getElem?_cons_zero] <;> rfl)
      · refine Or.inl ⟨by rfl, ?_⟩
        intro w hSw
        (try dsimp only at hSw)
        go_simp <;> with_reducible rfl
      (try simp only [Act.put, List.setIfInBounds_toArray, List.set_cons_zero, List.set_cons_succ])
      refine wpAnyH_take (i := 1) (oi := ?_) (v := ?_) ?_ (by kernel_rfl) (by decide +kernel) (by decide +kernel) (fun _ _ _ h => h) ?_ (by assumption) ?_
      rotate_left 2
      focus (simp only [List.getElem?_toArray, List.getElem?_cons_succ, List.getElem?_cons_zero] <;> rfl)
      · refine Or.inl ⟨by rfl, ?_⟩
        intro w hSw
        (try dsimp only at hSw)
        go_simp <;> with_reducible rfl
      (try simp only [Act.put, List.setIfInBounds_toArray, List.set_cons_zero, List.set_cons_succ])
      refine wpAnyH_take (i := 2) (oi := ?_) (v := ?_) ?_ (by kernel_rfl) (by decide +kernel) (by decide +kernel) (fun _ _ _ h => h) ?_ (by assumption) ?_
      rotate_left 2
      focus (simp only [List.getElem?_toArray, List.getElem?_cons_succ, List.getElem?_cons_zero] <;> rfl)
      · refine Or.inl ⟨by rfl, ?_⟩
        intro w hSw
        (try dsimp only at hSw)
        go_simp <;> with_reducible rfl
      (try simp only [Act.put, List.setIfInBounds_toArray, List.set_cons_zero, List.set_cons_succ])
      refine wpAnyH_take (i := 3) (oi := ?_) (v := undef) ?_ (by kernel_rfl) (by decide +kernel) (by decide +kernel) (fun _ _ _ h => h) ?_ (by assumption) ?_
      rotate_left 1
      focus (simp only [List.getElem?_toArray, List.getElem?_cons_succ, List.getElem?_cons_zero] <;> rfl)
      · exact Or.inr ⟨by rfl, rfl⟩
      (try simp only [Act.put, List.setIfInBounds_toArray, List.set_cons_zero, List.set_cons_succ])
      refine wpAnyH_take (i := 4) (oi := ?_) (v := ?_) ?_ (by kernel_rfl) (by decide +kernel) (by decide +kernel) (fun _ _ _ h => h) ?_ (by assumption) ?_
      rotate_left 2
      focus (simp only [List.getElem?_toArray, List.getElem?_cons_succ, List.getElem?_cons_zero] <;> rfl)
      · refine Or.inl ⟨by rfl, ?_⟩
        intro w hSw
        (try dsimp only at hSw)
        go_simp <;> with_reducible rfl
      (try simp only [Act.put, List.setIfInBounds_toArray, List.set_cons_zero, List.set_cons_succ])
      refine wpAnyH_take (i := 5) (oi := ?_) (v := ?_) ?_ (by kernel_rfl) (by decide +kernel) (by decide +kernel) (fun _ _ _ h => h) ?_ (by assumption) ?_
      rotate_left 2
      focus (simp only [List.getElem?_toArray, List.getElem?_cons_succ, List.getElem?_cons_zero] <;> rfl)
      · refine Or.inl ⟨by rfl, ?_⟩
        intro w hSw
        (try dsimp only at hSw)
        go_simp <;> with_reducible rfl
      (try simp only [Act.put, List.setIfInBounds_toArray, List.set_cons_zero, List.set_cons_succ])
      refine wpAnyH_take (i := 6) (oi := ?_) (v := ?_) ?_ (by kernel_rfl) (by decide +kernel) (by decide +kernel) (fun _ _ _ h => h) ?_ (by assumption) ?_
      rotate_left 2
      focus (simp only [List.getElem?_toArray, List.getElem?_cons_succ, List.getElem?_cons_zero] <;> rfl)
      · refine Or.inl ⟨by rfl, ?_⟩
        intro w hSw
        (try dsimp only at hSw)
        go_simp <;> with_reducible rfl
      (try simp only [Act.put, List.setIfInBounds_toArray, List.set_cons_zero, List.set_cons_succ])
      refine wpAnyH_take (i := 7) (oi := ?_) (v := ?_) ?_ (by kernel_rfl) (by decide +kernel) (by decide +kernel) (fun _ _ _ h => h) ?_ (by assumption) ?_
      rotate_left 2
      focus (simp only [List.getElem?_toArray, List.getElem?_cons_succ, List.getElem?_cons_zero] <;> rfl)
      · refine Or.inl ⟨by rfl, ?_⟩
        intro w hSw
        (try dsimp only at hSw)
        go_simp <;> with_reducible rfl
      (try simp only [Act.put, List.setIfInBounds_toArray, List.set_cons_zero, List.set_cons_succ])
      refine wpAnyH_take (i := 8) (oi := ?_) (v := undef) ?_ (by kernel_rfl) (by decide +kernel) (by decide +kernel) (fun _ _ _ h => h) ?_ (by assumption) ?_
      rotate_left 1
      focus (simp only [List.getElem?_toArray, List.getElem?_cons_succ, List.getElem?_cons_zero] <;> rfl)
      · exact Or.inr ⟨by rfl, rfl⟩
      (try simp only [Act.put, List.setIfInBounds_toArray, List.set_cons_zero, List.set_cons_succ])
      refine wpAnyH_take (i := 10) (oi := ?_) (v := undef) ?_ (by kernel_rfl) (by decide +kernel) (by decide +kernel) (fun _ _ _ h => h) ?_ (by assumption) ?_
      rotate_left 1
      focus (simp only [List.getElem?_toArray, List.getElem?_cons_succ, List.getElem?_cons_zero] <;> rfl)
      · exact Or.inr ⟨by rfl, rfl⟩
      (try simp only [Act.put, List.setIfInBounds_toArray, List.set_cons_zero, List.set_cons_succ])
      refine wpAnyH_take (i := 9) (oi := ?_) (v := undef) ?_ (by kernel_rfl) (by decide +kernel) (by decide +kernel) (fun _ _ _ h => h) ?_ (by assumption) ?_
      rotate_left 1
      focus (simp only [List.getElem?_toArray, List.getElem?_cons_succ, List.getElem?_cons_zero] <;> rfl)
      · exact Or.inr ⟨by rfl, rfl⟩
      (try simp only [Act.put, List.setIfInBounds_toArray, List.set_cons_zero, List.set_cons_succ])
      refine wpAnyH_take (i := 11) (oi := ?_) (v := undef) ?_ (by kernel_rfl) (by decide +kernel) (by decide +kernel) (fun _ _ _ h => h) ?_ (by assumption) ?_
      rotate_left 1
      focus (simp only [List.getElem?_toArray, List.getElem?_cons_succ, List.getElem?_cons_zero] <;> rfl)
      · exact Or.inr ⟨by rfl, rfl⟩
      (try simp only [Act.put, List.setIfInBounds_toArray, List.set_cons_zero, List.set_cons_succ])
      refine wpAnyH_take (i := 12) (oi := ?_) (v := undef) ?_ (by kernel_rfl) (by decide +kernel) (by decide +kernel) (fun _ _ _ h => h) ?_ (by assumption) ?_
      rotate_left 1
      focus (simp only [List.getElem?_toArray, List.getElem?_cons_succ, List.getElem?_cons_zero] <;> rfl)
      · exact Or.inr ⟨by rfl, rfl⟩
      (try simp only [Act.put, List.setIfInBounds_toArray, List.set_cons_zero, List.set_cons_succ])
      refine wpAnyH_take (i := 13) (oi := ?_) (v := undef) ?_ (by kernel_rfl) (by decide +kernel) (by decide +kernel) (fun _ _ _ h => h) ?_ (by assumption) ?_
      rotate_left 1
      focus (simp only [List.getElem?_toArray, List.getElem?_cons_succ, List.getElem?_cons_zero] <;> rfl)
      · exact Or.inr ⟨by rfl, rfl⟩
      (try simp only [Act.put, List.setIfInBounds_toArray, List.set_cons_zero, List.set_cons_succ])
      refine wpAnyH_take (i := 14) (oi := ?_) (v := ?_) ?_ (by kernel_rfl) (by decide +kernel) (by decide +kernel) (fun _ _ _ h => h) ?_ (by assumption) ?_
      rotate_left 2
      focus (simp only [List.getElem?_toArray, List.getElem?_cons_succ, List.getElem?_cons_zero] <;> rfl)
      · refine Or.inl ⟨by rfl, ?_⟩
        intro w hSw
        (try dsimp only at hSw)
        go_simp <;> with_reducible rfl
      (try simp only [Act.put, List.setIfInBounds_toArray, List.set_cons_zero, List.set_cons_succ])
      refine wpAnyH_take (i := 15) (oi := ?_) (v := ?_) ?_ (by kernel_rfl) (by decide +kernel) (by decide +kernel) (fun _ _ _ h => h) ?_ (by assumption) ?_
      rotate_left 2
      focus (simp only [List.getElem?_toArray, List.getElem?_cons_succ, List.getElem?_cons_zero] <;> rfl)
      · refine Or.inl ⟨by rfl, ?_⟩
        intro w hSw
        (try dsimp only at hSw)
        go_simp <;> with_reducible rfl
      (try simp only [Act.put, List.setIfInBounds_toArray, List.set_cons_zero, List.set_cons_succ])
      refine wpAnyH_done (by decide +kernel) ?_ _
      refine NoPanic.normal ?_
      clear KEEP
      obtain ⟨w10, hw⟩ : ∃ x, x = wz0 := ⟨_, rfl⟩
      have hb : Below w9.heap.size w9 w10 := by rw [hw]; exact BB0.out
      rw [← hw]
      have nHB := Lib.hid (belG HB.out hb HB.out.size)
      have nK1 := Lib.hid (K1.out.go hb)
      have nK2 := Lib.hid (K2.out.go hb)
      have nKC := Lib.hid (KC.out.go hb)
      have nKO := Lib.hid (KO.out.go hb)
      have nKD := Lib.hid (KD.out.go hb)
      clear hb hw
      clear HB K1 K2 KC KO KD
      have HB := nHB
      have K1 := nK1
      have K2 := nK2
      have KC := nKC
      have KO := nKO
      have KD := nKD
      clear nHB nK1 nK2 nKC nKO nKD
      by_cases hmn : m = n
      · have d1 : decide (la = lb) = true := decide_eq_true (HAB.out.2 hmn)
        have d2 : (m == n) = true := by rw [hmn]; simp
        have d3 : (m == m) = true := by simp
        rw [d1] at SAB
        clear d1 hmn
        go_wp2_with fail
        refine (SAB.out y1 y2 _ K1.out K2.out).mono ?_
        rintro e w11 ⟨rfl, rfl⟩
        go_wp2_with fail
        go_ret
        exact ⟨by first | rfl | (simp; done), HB.out⟩
      · have d1 : decide (la = lb) = false := decide_eq_false (fun h => hmn (HAB.out.1 h))
        have d2 : (m == n) = false := beq_eq_false_iff_ne.2 hmn
        have d3 : (m == m) = true := by simp
        rw [d1] at SAB
        clear d1 hmn
        go_wp2_with fail
        refine (SAB.out y1 y2 _ K1.out K2.out).mono ?_
        rintro e w11 ⟨rfl, rfl⟩
        go_wp2_with fail
        go_ret
        exact ⟨by first | rfl | (simp; done), HB.out⟩
  | true =>
    obtain ⟨hi8, hse⟩ := HGB.out rfl
    clear HGB
    have hi8I : ¬ (8 : Int) ≤ (i : Int) := by omega
    rw [decide_eq_true hse] at SSC
    clear hse hi8
    have BB0 := Lib.hid ((Below.refl w9.heap.size w9).drew)
    have KEEP := Lib.hid (fun w' (hW : Below w9.heap.size w9 w') => (show Below w9.heap.size w9 w' from hW))
    refine wp_region_noPanic ?_
    refine wp_region_held_drew (S := fun w' => Below w9.heap.size w9 w') (by kernel_rfl) (KEEP.out _ BB0.out) (fun hHeld => ?_)
    obtain ⟨wz0, hwz⟩ : ∃ x, x = w9.drew := ⟨_, rfl⟩
    rw [← hwz] at BB0 hHeld ⊢
    clear hwz
    refine wpAnyH_take (i := 0) (oi := ?_) (v := ?_) ?_ (by kernel_rfl) (by decide +kernel) (by decide +kernel) (fun _ _ _ h => h) ?_ (by assumption) ?_
    rotate_left 2
    focus (simp only [List.getElem?_toArray, List.getElem?_cons_zero] <;> rfl)
    · refine Or.inl ⟨by rfl, ?_⟩
      intro w hSw
      (try dsimp only at hSw)
      go_simp <;> with_reducible rfl
    (try simp only [Act.put, List.setIfInBounds_toArray, List.set_cons_zero, List.set_cons_succ])
    refine wpAnyH_take (i := 1) (oi := ?_) (v := ?_) ?_ (by kernel_rfl) (by decide +kernel) (by decide +kernel) (fun _ _ _ h => h) ?_ (by assumption) ?_
    rotate_left 2
    focus (simp only [List.getElem?_toArray, List.getElem?_cons_succ, List.getElem?_cons_zero] <;> rfl)
    · refine Or.inl ⟨by rfl, ?_⟩
      intro w hSw
      (try dsimp only at hSw)
      go_simp <;> with_reducible rfl
    (try simp only [Act.put, List.setIfInBounds_toArray, List.set_cons_zero, List.set_cons_succ])
    refine wpAnyH_take (i := 2) (oi := ?_) (v := ?_) ?_ (by kernel_rfl) (by decide +kernel) (by decide +kernel) (fun _ _ _ h => h) ?_ (by assumption) ?_
    rotate_left 2
    focus (simp only [List.getElem?_toArray, List.getElem?_cons_succ, List.getElem?_cons_zero] <;> rfl)
    · refine Or.inl ⟨by rfl, ?_⟩
      intro w hSw
      (try dsimp only at hSw)
      go_simp <;> with_reducible rfl
    (try simp only [Act.put, List.setIfInBounds_toArray, List.set_cons_zero, List.set_cons_succ])
    refine wpAnyH_take (i := 3) (oi := ?_) (v := undef) ?_ (by kernel_rfl) (by decide +kernel) (by decide +kernel) (fun _ _ _ h => h) ?_ (by assumption) ?_
    rotate_left 1
    focus (simp only [List.getElem?_toArray, List.getElem?_cons_succ, List.getElem?_cons_zero] <;> rfl)
    · exact Or.inr ⟨by rfl, rfl⟩
    (try simp only [Act.put, List.setIfInBounds_toArray, List.set_cons_zero, List.set_cons_succ])
    refine wpAnyH_take (i := 4) (oi := ?_) (v := ?_) ?_ (by kernel_rfl) (by decide +kernel) (by decide +kernel) (fun _ _ _ h => h) ?_ (by assumption) ?_
    rotate_left 2
    focus (simp only [List.getElem?_toArray, List.getElem?_cons_succ, List.getElem?_cons_zero] <;> rfl)
    · refine Or.inl ⟨by rfl, ?_⟩
      intro w hSw
      (try dsimp only at hSw)
      go_simp <;> with_reducible rfl
    (try simp only [Act.put, List.setIfInBounds_toArray, List.set_cons_zero, List.set_cons_succ])
    refine wpAnyH_take (i := 5) (oi := ?_) (v := ?_) ?_ (by kernel_rfl) (by decide +kernel) (by decide +kernel) (fun _ _ _ h => h) ?_ (by assumption) ?_
    rotate_left 2
    focus (simp only [List.getElem?_toArray, List.getElem?_cons_succ, List.getElem?_cons_zero] <;> rfl)
    · refine Or.inl ⟨by rfl, ?_⟩
      intro w hSw
      (try dsimp only at hSw)
      go_simp <;> with_reducible rfl
    (try simp only [Act.put, List.setIfInBounds_toArray, List.set_cons_zero, List.set_cons_succ])
    refine wpAnyH_take (i := 6) (oi := ?_) (v := ?_) ?_ (by kernel_rfl) (by decide +kernel) (by decide +kernel) (fun _ _ _ h => h) ?_ (by assumption) ?_
    rotate_left 2
    focus (simp only [List.getElem?_toArray, List.getElem?_cons_succ, List.getElem?_cons_zero] <;> rfl)
    · refine Or.inl ⟨by rfl, ?_⟩
      intro w hSw
      (try dsimp only at hSw)
      go_simp <;> with_reducible rfl
    (try simp only [Act.put, List.setIfInBounds_toArray, List.set_cons_zero, List.set_cons_succ])
    refine wpAnyH_take (i := 7) (oi := ?_) (v := ?_) ?_ (by kernel_rfl) (by decide +kernel) (by decide +kernel) (fun _ _ _ h => h) ?_ (by assumption) ?_
    rotate_left 2
    focus (simp only [List.getElem?_toArray, List.getElem?_cons_succ, List.getElem?_cons_zero] <;> rfl)
    · refine Or.inl ⟨by rfl, ?_⟩
      intro w hSw
      (try dsimp only at hSw)
      go_simp <;> with_reducible rfl
    (try simp only [Act.put, List.setIfInBounds_toArray, List.set_cons_zero, List.set_cons_succ])
    refine wpAnyH_take (i := 8) (oi := ?_) (v := ?_) ?_ (by kernel_rfl) (by decide +kernel) (by decide +kernel) (fun _ _ _ h => h) ?_ (by assumption) ?_
    rotate_left 2
    focus (simp only [List.getElem?_toArray, List.getElem?_cons_succ, List.getElem?_cons_zero] <;> rfl)
    · refine Or.inl ⟨by rfl, ?_⟩
      intro w hSw
      (try dsimp only at hSw)
      go_simp <;> with_reducible rfl
    (try simp only [Act.put, List.setIfInBounds_toArray, List.set_cons_zero, List.set_cons_succ])
    refine wpAnyH_take (i := 10) (oi := ?_) (v := ?_) ?_ (by kernel_rfl) (by decide +kernel) (by decide +kernel) (fun _ _ _ h => h) ?_ (by assumption) ?_
    rotate_left 2
    focus (simp only [List.getElem?_toArray, List.getElem?_cons_succ, List.getElem?_cons_zero] <;> rfl)
    · refine Or.inl ⟨by rfl, ?_⟩
      intro w hSw
      (try dsimp only at hSw)
      go_simp <;> with_reducible rfl
    (try simp only [Act.put, List.setIfInBounds_toArray, List.set_cons_zero, List.set_cons_succ])
    refine wpAnyH_take (i := 9) (oi := ?_) (v := ?_) ?_ (by kernel_rfl) (by decide +kernel) (by decide +kernel) (fun _ _ _ h => h) ?_ (by assumption) ?_
    rotate_left 2
    focus (simp only [List.getElem?_toArray, List.getElem?_cons_succ, List.getElem?_cons_zero] <;> rfl)
    · refine Or.inl ⟨by rfl, ?_⟩
      intro w hSw
      (try dsimp only at hSw)
      go_simp <;> with_reducible rfl
    (try simp only [Act.put, List.setIfInBounds_toArray, List.set_cons_zero, List.set_cons_succ])
    refine wpAnyH_take (i := 11) (oi := ?_) (v := ?_) ?_ (by kernel_rfl) (by decide +kernel) (by decide +kernel) (fun _ _ _ h => h) ?_ (by assumption) ?_
    rotate_left 2
    focus (simp only [List.getElem?_toArray, List.getElem?_cons_succ, List.getElem?_cons_zero] <;> rfl)
    · refine Or.inl ⟨by rfl, ?_⟩
      intro w hSw
      (try dsimp only at hSw)
      go_simp <;> with_reducible rfl
    (try simp only [Act.put, List.setIfInBounds_toArray, List.set_cons_zero, List.set_cons_succ])
    refine wpAnyH_ready (rs := [12]) (by decide +kernel) (by simp) ?_
    refine AllReadyH.cons rfl (fun K hK => ?_) AllReadyH.nil
    go_simp
    go_at_call 14
    refine (SSC.out yo (some ⟨g, 8, none⟩, c5 - 8) _ (KO.out.go BB0.out) (KD.out.go BB0.out)).mono ?_
    rintro e wz1 ⟨rfl, hw⟩
    obtain rfl := hw
    refine hK.out _ _ (KEEP.out _ BB0.out) (fun hHeld => ?_)
    clear hK K
    (try simp only [Act.put, List.setIfInBounds_toArray, List.set_cons_zero, List.set_cons_succ])
    refine wpAnyH_take (i := 13) (oi := ?_) (v := ?_) ?_ (by kernel_rfl) (by decide +kernel) (by decide +kernel) (fun _ _ _ h => h) ?_ (by assumption) ?_
    rotate_left 2
    focus (simp only [List.getElem?_toArray, List.getElem?_cons_succ, List.getElem?_cons_zero] <;> rfl)
    · refine Or.inl ⟨by rfl, ?_⟩
      intro w hSw
      (try dsimp only at hSw)
      go_simp <;> with_reducible rfl
    (try simp only [Act.put, List.setIfInBounds_toArray, List.set_cons_zero, List.set_cons_succ])
    refine wpAnyH_take (i := 14) (oi := ?_) (v := ?_) ?_ (by kernel_rfl) (by decide +kernel) (by decide +kernel) (fun _ _ _ h => h) ?_ (by assumption) ?_
    rotate_left 2
    focus (simp only [List.getElem?_toArray, List.getElem?_cons_succ, List.getElem?_cons_zero] <;> rfl)
    · refine Or.inl ⟨by rfl, ?_⟩
      intro w hSw
      (try dsimp only at hSw)
      go_simp <;> with_reducible rfl
    (try simp only [Act.put, List.setIfInBounds_toArray, List.set_cons_zero, List.set_cons_succ])
    refine wpAnyH_take (i := 15) (oi := ?_) (v := ?_) ?_ (by kernel_rfl) (by decide +kernel) (by decide +kernel) (fun _ _ _ h => h) ?_ (by assumption) ?_
    rotate_left 2
    focus (simp only [List.getElem?_toArray, List.getElem?_cons_succ, List.getElem?_cons_zero] <;> rfl)
    · refine Or.inl ⟨by rfl, ?_⟩
      intro w hSw
      (try dsimp only at hSw)
      go_simp <;> with_reducible rfl
    (try simp only [Act.put, List.setIfInBounds_toArray, List.set_cons_zero, List.set_cons_succ])
    refine wpAnyH_done (by decide +kernel) ?_ _
    refine NoPanic.normal ?_
    clear KEEP
    obtain ⟨w10, hw⟩ : ∃ x, x = wz0 := ⟨_, rfl⟩
    have hb : Below w9.heap.size w9 w10 := by rw [hw]; exact BB0.out
    rw [← hw]
    have nHB := Lib.hid (belG HB.out hb HB.out.size)
    have nK1 := Lib.hid (K1.out.go hb)
    have nK2 := Lib.hid (K2.out.go hb)
    have nKC := Lib.hid (KC.out.go hb)
    have nKO := Lib.hid (KO.out.go hb)
    have nKD := Lib.hid (KD.out.go hb)
    clear hb hw
    clear HB K1 K2 KC KO KD
    have HB := nHB
    have K1 := nK1
    have K2 := nK2
    have KC := nKC
    have KO := nKO
    have KD := nKD
    clear nHB nK1 nK2 nKC nKO nKD
    by_cases hmn : m = n
    · have d1 : decide (la = lb) = true := decide_eq_true (HAB.out.2 hmn)
      have d2 : (m == n) = true := by rw [hmn]; simp
      have d3 : (m == m) = true := by simp
      rw [d1] at SAB
      clear d1 hmn
      go_wp2_with fail
      refine (SAB.out y1 y2 _ K1.out K2.out).mono ?_
      rintro e w11 ⟨rfl, rfl⟩
      go_wp2_with fail
      go_ret
      exact ⟨by first | rfl | (simp; done), HB.out⟩
    · have d1 : decide (la = lb) = false := decide_eq_false (fun h => hmn (HAB.out.1 h))
      have d2 : (m == n) = false := beq_eq_false_iff_ne.2 hmn
      have d3 : (m == m) = true := by simp
      rw [d1] at SAB
      clear d1 hmn
      go_wp2_with fail
      refine (SAB.out y1 y2 _ K1.out K2.out).mono ?_
      rintro e w11 ⟨rfl, rfl⟩
      go_wp2_with fail
      go_ret
      exact ⟨by first | rfl | (simp; done), HB.out⟩
end Go.Proofs.YtfppcmhhbheaiaaDoor
