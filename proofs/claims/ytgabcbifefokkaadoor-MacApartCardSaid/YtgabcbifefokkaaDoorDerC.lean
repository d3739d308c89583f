/- The document's Told. -/
import Derived.Test.YtgabcbifefokkaaDoorDerA
import Derived.Test.YtgabcbifefokkaaDoorSum2
namespace Go.Proofs.YtgabcbifefokkaaDoor
open Go.RowKit

/-- '[]byte(s)' -/
theorem conv_str (s : ByteArray) : ∃ (cc : World → Nat) (ww : World → World), ∀ W, (convert 9 22 (.string s)).run Tryd.prog W = .ok (.slice (some ⟨W.heap.size, 0, none⟩) s.size (cc W)) (ww W) ∧ Rd (ww W) (ww W).heap.size (some ⟨W.heap.size, 0, none⟩) s.data.toList ∧ Below W.heap.size W (ww W) := by
  refine ⟨fun W => grownCap W s.size 0 5, fun W => W.drew.alloc (.cells (bytesRow s (grownCap W s.size 0 5)) 5 ((bytesRow s (grownCap W s.size 0 5)).size, (bytesRow s (grownCap W s.size 0 5)).size + 1)), fun W => ⟨run_bytes_of_string W 9 22 5 s Tryd.underlying9 Tryd.underlying22 Tryd.underlying5, ?_, (Below.refl _ _).drew.alloc (Nat.le_refl _) _⟩⟩
  intro h0
  refine ⟨W.heap.size, 0, rfl, by rw [World.size_alloc]; exact Nat.lt_succ_self _, fun j hj => ?_⟩
  rw [Nat.zero_add]
  have hg := heap_alloc_new W.drew (.cells (bytesRow s (grownCap W s.size 0 5)) 5 ((bytesRow s (grownCap W s.size 0 5)).size, (bytesRow s (grownCap W s.size 0 5)).size + 1))
  refine (cell_of_row _ _ _ _ _ _ hg).trans ?_
  have hj2 : j < s.data.size := by simpa using hj
  unfold bytesRow
  rw [Array.getElem?_append_left (by rw [Array.size_map]; exact hj2), Array.getElem?_map, Array.getElem?_eq_getElem hj2]
  simp

set_option maxRecDepth 100000 in
set_option maxHeartbeats 2000000 in
theorem told_any (P : Option Addr) (ps : List (List UInt8)) (d : Nat) (s : ByteArray) (w : World) (hs : s.size ≤ 255) (hps : ps.length ≤ 16) (hto : tot ps ps.length ≤ 2000) (hm : Mat w w.heap.size P ps) :
    Calls Tryd.prog 24 #[.string s, .slice P ps.length d] w fun e w' => AnsO w.heap.size w' e (toldF s.data.toList ps) ∧ Below w.heap.size w w' := by
  obtain ⟨cc, ww, hcw⟩ := conv_str s
  have hcv := fun W => (hcw W).1
  have HCW := Lib.hid (fun W => (hcw W).2)
  clear hcw
  have HM0 := Lib.hid hm
  obtain ⟨S, hS⟩ : ∃ S, S = s.data.toList := ⟨_, rfl⟩
  have hSl : S.length = s.size := by rw [hS, str_len]
  have HTL := Lib.hid (fun j hj => told_length S ps j hj)
  have HTS := Lib.hid (fun j hj => told_succ S ps j hj)
  have HTM := Lib.hid (fun j hj => tot_mono ps j hj)
  have HT0 := Lib.hid (told_zero S ps)
  rw [← hS]
  rw [← hS] at HCW
  have HSL := Lib.hid hSl
  obtain ⟨q, hq⟩ : ∃ q, q = ps.length := ⟨_, rfl⟩
  have HQ := Lib.hid hq
  have HTF := Lib.hid (show toldF S ps = toldN S ps q by rw [hq]; rfl)
  rw [HTF.out]
  obtain ⟨F, hF⟩ : ∃ F, F = toldN S ps := ⟨_, rfl⟩
  rw [← hF] at HTL HTS HT0 ⊢
  rw [← hq] at HTL HTS HTM hps hto ⊢
  have LB := Lib.hid (show (s.size : Int) = ((UInt8.ofNat S.length).toNat : Int) by rw [UInt8.toNat_ofNat', hSl]; omega)
  have HL0 := Lib.hid hs
  clear hm hS hSl hq hF
  have HW0 := Lib.hid (Ow.made1i w (Nat.le_refl _) _ _ LB.out)
  have HB0 := Lib.hid ((Below.refl w.heap.size w).alloc (Nat.le_refl _) (.cells #[.int .u8 (s.size : Int)] 5))
  have HC1 := Lib.hid (show Rd (ww (w.alloc (.cells #[.int .u8 (s.size : Int)] 5))) (ww (w.alloc (.cells #[.int .u8 (s.size : Int)] 5))).heap.size (some ⟨w.heap.size + 1, 0, none⟩) S by have h := (HCW.out (w.alloc (.cells #[.int .u8 (s.size : Int)] 5))).1; rw [World.size_alloc] at h; exact h)
  go_enter Tryd.func24, Tryd.ntmps24
  go_wp2_with (at_builtin; refine wpList_appS (ww (w.alloc (.cells #[.int .u8 (s.size : Int)] 5))) rfl (.tmp 10) (.tmp 12) rfl w.heap.size _ [UInt8.ofNat S.length] S rfl (by exact HW0.out.call (HCW.out _).2) _ s.size _ _ rfl HSL.out.symm (by exact HC1.out) (by simp only [List.length_cons, List.length_nil]; have := HL0.out; have := HSL.out; omega) (by exact Nat.le_trans HB0.out.size (HCW.out _).2.size) ?_; intro v1 w1 hown1 hgrow1; have HB1 := Lib.hid (Ow.below (w0 := w) (by exact HW0.out.call (HCW.out _).2) (by exact bel_call HB0.out (HCW.out _).2 HB0.out.size) hgrow1 (by exact Nat.le_trans HB0.out.size (HCW.out _).2.size)); rw [← HT0.out] at hown1; have HO1 := Lib.hid hown1; clear hown1 hgrow1)
  clear hcv HCW HW0 HB0 HC1
  go_loopw [5, 6] (fun v i wr => ∃ j : Nat, j ≤ q ∧ i = .int .i64 j ∧ Ow wr w.heap.size v (F j) ∧ Below w.heap.size w wr) (fun _ i _ => q - (intOf i).toNat)
  case atStart => exact ⟨0, by omega, rfl, HO1.out, HB1.out⟩
  case round =>
    clear HO1 HB1
    obtain ⟨j, hj, rfl, hown, hbel⟩ := hrel
    have HO := Lib.hid hown
    have HB := Lib.hid hbel
    have hsz2 := hbel.size
    clear hown hbel
    by_cases hlt : j < q
    · obtain ⟨b, o, rfl, hb, hrow⟩ := HM0.out (by have := HQ.out; omega)
      obtain ⟨A', c', hcell, hc1, hc2, hrd⟩ := hrow j (by have := HQ.out; omega)
      have ep : ps.getD j [] = ps[j]'(by have := HQ.out; omega) := by rw [List.getD_eq_getElem?_getD, List.getElem?_eq_getElem (by have := HQ.out; omega)]; rfl
      have HSU := Lib.hid (HTS.out j hlt)
      have HLN := Lib.hid (HTL.out j (by omega))
      have HMO := Lib.hid (HTM.out (j + 1) (by omega))
      have HTO := Lib.hid (tot_succ ps j (by have := HQ.out; omega))
      rw [← ep] at hcell hc1 hrd HTO
      have hcw := (HB.out.cell (p := ⟨b, o + j, none⟩) hb).trans hcell
      generalize ps.getD j [] = p at *
      obtain ⟨L, hL⟩ : ∃ L, L = p.length := ⟨_, rfl⟩
      have HL := Lib.hid hL
      have hL2 : L ≤ 2000 := by have := HMO.out; have := HTO.out; omega
      rw [← hL] at hcw hc1 HSU hcell
      have HCE := Lib.hid hcell
      have hcd : wr.drew.cell? ⟨b, o + j, none⟩ = some (.slice A' L c') := hcw
      have HRD := Lib.hid (fun w' (h : Below w.heap.size w w') => (hrd.below h (Nat.le_refl _)).more h.size)
      have N1 := Lib.hid (show IntKind.u8.wrap (IntKind.i64.wrap ((L : Int) / 256)) = ((UInt8.ofNat (L / 256)).toNat : Int) by rw [IntWalk.i64_in _ (by omega), IntKind.wrap_u8, UInt8.toNat_ofNat']; omega)
      have N2 := Lib.hid (show IntKind.u8.wrap ((L : Int).tmod 256) = ((UInt8.ofNat L).toNat : Int) by rw [Int.tmod_eq_emod_of_nonneg (by omega), IntKind.wrap_u8, UInt8.toNat_ofNat']; omega)
      have HFL := Lib.hid (show (F j).length + L + 2 ≤ 5000 by have := HLN.out; have := HMO.out; have := HTO.out; have := HL.out; have := HL0.out; have := HSL.out; omega)
      have hlti : (j : Int) < (q : Int) := by omega
      have hj0 : (0 : Int) ≤ (j : Int) := Int.natCast_nonneg _
      have hsx : w.heap.size < wr.heap.size + 1 := by omega
      have hbw : b < wr.heap.size := by omega
      clear hrow hcell hL hrd ep
      go_wp2_with fail
      go_region_held3 (fun w' => w'.cell? ⟨b, o + j, none⟩ = some (.slice A' L c'))
        (first
         | ((try dsimp only); with_reducible assumption)
         | ((try dsimp only); (with_reducible refine far1 ?_ ?_) <;> (first | (with_reducible assumption) | omega))
         | ((try dsimp only); (with_reducible refine far1d ?_ ?_) <;> (first | (with_reducible assumption) | omega)))
        (first
         | (rw [if_pos (by rfl)]; (refine wp_app _ (.tmp 20) (.tmp 35) (by rfl) w.heap.size _ _ [UInt8.ofNat (L / 256), UInt8.ofNat L] (by rfl) (by exact HO.out.alloc _) ⟨_, 0, none⟩ 2 _ (by rfl) (by rfl) (by exact news2i _ _ _ _ _ N1.out N2.out) (by have := HFL.out; simp only [List.length_cons, List.length_nil]; omega) (by exact le_alloc hsz2 _) ?_); intro v2 w2 hown2 hgrow2; have HB2 := Lib.hid (Ow.below (w0 := w) (by exact HO.out.alloc _) (by exact (HB.out.alloc hsz2 _).drew) hgrow2 (by exact le_alloc hsz2 _)); have HW2 := Lib.hid hown2; have hsz3 := HB2.out.size; have hc2 : w2.cell? ⟨b, o + j, none⟩ = some (.slice A' L c') := (HB2.out.cell (p := ⟨b, o + j, none⟩) hb).trans HCE.out; clear hgrow2 hown2))
      go_wp2_with (at_builtin; (refine wpList_appS w2 rfl (.tmp 37) (.tmp 41) rfl w.heap.size _ _ p rfl (by exact HW2.out) A' L c' _ rfl HL.out (by exact HRD.out _ HB2.out) (by have := HFL.out; have := HL.out; simp only [List.length_append, List.length_cons, List.length_nil]; omega) hsz3 ?_); intro v3 w3 hown3 hgrow3; have HB3 := Lib.hid (Ow.below (w0 := w) (by exact HW2.out) (by exact HB2.out) hgrow3 hsz3); rw [← HSU.out] at hown3; have HW3 := Lib.hid hown3; clear hgrow3 hown3)
      go_roundw
      case rel => exact ⟨j + 1, by omega, by go_num, HW3.out, HB3.out⟩
      case measure => simp [intOf]; omega
    · have hjq : j = q := by omega
      rw [hjq] at HO
      go_wp2
      go_ret
      exact ⟨⟨_, rfl, HO.out⟩, HB.out⟩
end Go.Proofs.YtgabcbifefokkaaDoor
