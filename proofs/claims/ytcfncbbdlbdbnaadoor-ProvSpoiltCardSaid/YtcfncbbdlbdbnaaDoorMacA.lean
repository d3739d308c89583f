
/- mac, plain: a key's block, tags; mac.Block. -/
import Derived.Test.YtcfncbbdlbdbnaaDoorOf
namespace Go.Proofs.YtcfncbbdlbdbnaaDoor
open Go.RowKit

/-- a key's block -/
def blkK (l : List UInt8) : List UInt8 := (if 64 < l.length then ofF l else l) ++ List.replicate (64 - (if 64 < l.length then ofF l else l).length) 0
def xorL (x : UInt8) (l : List UInt8) : List UInt8 := l.map (· ^^^ x)
/-- a tag -/
def tagF (k b : List UInt8) : List UInt8 := ofF (xorL 92 (blkK k) ++ ofF (xorL 54 (blkK k) ++ b))
theorem ofF_len (l : List UInt8) : (ofF l).length = 32 := by
  unfold ofF sumF
  exact take_bytes_length _ 8 (by omega)
theorem blkK_length (l : List UInt8) : (blkK l).length = 64 := by
  unfold blkK
  rw [List.length_append, List.length_replicate]
  split
  · rw [ofF_len]
  · omega
theorem xorL_length (x : UInt8) (l : List UInt8) : (xorL x l).length = l.length := by unfold xorL; rw [List.length_map]
theorem tagF_length (k b : List UInt8) : (tagF k b).length = 32 := ofF_len _

theorem row_cs {w : World} {b n : Nat} {t : TypeId} {f : Nat → Value} {L : List UInt8} (h : w.rowIs b t n f) (hn : L.length = n) (hf : ∀ j (hj : j < L.length), f j = .int .u8 (L[j].toNat : Int)) :
    w.heap[b]? = some (.cells (cs L).toArray t (0, 0)) := by
  obtain ⟨c, hb, hc, hg⟩ := h
  rw [hb]
  congr 2
  apply Array.ext_getElem?
  intro i
  by_cases hi : i < n
  · rw [hg i hi, List.getElem?_toArray, cs_get L i (by omega), hf i (by omega)]
  · rw [Array.getElem?_eq_none (by omega), Array.getElem?_eq_none (by simp [cs_length]; omega)]
theorem cs_row {w : World} {b : Nat} {t : TypeId} {L : List UInt8} (h : w.heap[b]? = some (.cells (cs L).toArray t (0, 0))) : w.rowIs b t L.length (fun j => .int .u8 ((L.getD j 0).toNat : Int)) :=
  ⟨_, h, by simp [cs_length], fun j hj => by
    show _ = some (Value.int .u8 ((L.getD j 0).toNat : Int))
    rw [List.getElem?_toArray, cs_get L j hj, List.getD_eq_getElem?_getD, List.getElem?_eq_getElem hj]; rfl⟩
/-- a call's answer: 64 bytes in a block of its own -/
def AnsK (B : Nat) (W' : World) (e : Ending) (L : List UInt8) : Prop := ∃ g, e = .returned (.slice (some ⟨g, 0, none⟩) 64 64) ∧ W'.heap[g]? = some (.cells (cs L).toArray 5 (0, 0)) ∧ B ≤ g
theorem pad64 (l : List UInt8) (h : l.length ≤ 64) : spl (List.replicate 64 0) 0 l = l ++ List.replicate (64 - l.length) 0 := by
  unfold spl
  rw [List.take_zero, List.nil_append, List.drop_replicate]
  congr 2
  omega

set_option maxRecDepth 100000 in
set_option maxHeartbeats 1000000 in
theorem macBlock_any (A : Option Addr) (l : List UInt8) (c : Nat) (w : World) (hl : l.length ≤ 100000) (hc : l.length ≤ c) (hr : Rd w w.heap.size A l) (hk : Ks w) :
    Calls Tryd.prog 41 #[.slice A l.length c] w fun e w' => AnsK w.heap.size w' e (blkK l) ∧ Below w.heap.size w w' := by
  obtain ⟨i0, hi, hz0, hz1, hz2⟩ := info_parts info5
  have RB := Lib.hid (fun w' (h : Below w.heap.size w w') => (hr.below h (Nat.le_refl _)).more h.size)
  have HM := Lib.hid (fun (W : World) => show (W.alloc (.cells (madeCells #[.int .u8 0] 64) 5)).heap[W.heap.size]? = some (.cells (cs (List.replicate 64 0)).toArray 5 (0, 0)) by rw [madeB]; exact heap_alloc_new _ _)
  have HB0 := Lib.hid (fun (W : World) => show Below W.heap.size W (W.alloc (.cells (madeCells #[.int .u8 0] 64) 5)) from (Below.refl _ _).alloc (Nat.le_refl _) _)
  by_cases h64 : 64 < l.length
  · have HO := Lib.hid (fun W h1 h2 => of_any A l c W hl hc h1 h2)
    have HE := Lib.hid (show blkK l = ofF l ++ List.replicate 32 0 by unfold blkK; rw [if_pos h64, ofF_len])
    have HP := Lib.hid (ofF_len l)
    have KB := Lib.hid hk
    rw [HE.out]
    generalize ofF l = P at *
    obtain ⟨n, hn⟩ : ∃ n, n = l.length := ⟨_, rfl⟩
    rw [← hn] at h64 HO ⊢
    have h64i : (64 : Int) < (n : Int) := by omega
    clear hr hk hn hl hc HE
    go_enter Tryd.func41, Tryd.ntmps41
    go_wp2_with fail
    refine (HO.out _ (RB.out _ (Below.refl _ _)) KB.out).mono ?_
    rintro e w1 ⟨⟨A1, c1, rfl, h1, h2, h3⟩, hb1⟩
    have H3 := Lib.hid h3
    have HB1 := Lib.hid hb1
    clear h3 hb1 HO KB
    go_wp2_with (first
      | (at_make; refine wpList_make_row w1 rfl _ _ 25 rfl 5 i0 (.int .u8 0) Tryd.underlying25 hi hz0 hz1 rfl .i64 .i64 64 rfl rfl (by rw [hz2]; omega) (by omega) ?_; have hm := HM.out w1; have hb := HB0.out w1; generalize w1.alloc (.cells (madeCells #[.int .u8 0] 64) 5) = W1 at *; have HM1 := Lib.hid hm; have HBB1 := Lib.hid hb; clear hm hb)
      | (refine copyB W1 (.tmp 10) (.tmp 11) w1.heap.size 0 _ P (some ⟨w1.heap.size, 0, none⟩) A1 64 64 c1 32 (by rfl) (by rfl) (by rfl) (by rfl) HM1.out HP.out.symm (by rw [List.length_replicate, HP.out]; omega) (by rw [HP.out]; omega) (fun _ => rfl) ((H3.out.below HBB1.out (Nat.le_refl _)).more HBB1.out.size) w1.heap.size w1 HBB1.out (Nat.le_refl _) ?_; intro W2 HM2 hb2; have HB2 := Lib.hid hb2; clear hb2))
    go_ret
    have h4 := HM2.out
    rw [pad64 P (by rw [HP.out]; omega), HP.out] at h4
    exact ⟨⟨w1.heap.size, rfl, h4, HB1.out.size⟩, HB1.out.trans (HB2.out.mono HB1.out.size)⟩
  · have HE := Lib.hid (show blkK l = l ++ List.replicate (64 - l.length) 0 by unfold blkK; rw [if_neg h64])
    rw [HE.out]
    obtain ⟨n, hn⟩ : ∃ n, n = l.length := ⟨_, rfl⟩
    have HN := Lib.hid hn
    rw [← hn] at h64
    rw [← hn]
    have h64i : ¬ (64 : Int) < (n : Int) := by omega
    clear hr hk hn hl hc HE
    go_enter Tryd.func41, Tryd.ntmps41
    go_wp2_with (first
      | (at_make; refine wpList_make_row w rfl _ _ 25 rfl 5 i0 (.int .u8 0) Tryd.underlying25 hi hz0 hz1 rfl .i64 .i64 64 rfl rfl (by rw [hz2]; omega) (by omega) ?_; have hm := HM.out w; have hb := HB0.out w; generalize w.alloc (.cells (madeCells #[.int .u8 0] 64) 5) = W1 at *; have HM1 := Lib.hid hm; have HBB1 := Lib.hid hb; clear hm hb)
      | (refine copyB W1 (.tmp 10) (.tmp 11) w.heap.size 0 _ l (some ⟨w.heap.size, 0, none⟩) A 64 64 c n (by rfl) (by rfl) (by rfl) (by rfl) HM1.out HN.out (by rw [List.length_replicate]; have := HN.out; omega) (by have := HN.out; omega) (fun _ => rfl) (RB.out _ HBB1.out) w.heap.size w HBB1.out (Nat.le_refl _) ?_; intro W2 HM2 hb2; have HB2 := Lib.hid hb2; clear hb2))
    go_ret
    have h4 := HM2.out
    rw [pad64 l (by have := HN.out; omega), ← HN.out] at h4
    exact ⟨⟨w.heap.size, rfl, h4, Nat.le_refl _⟩, HB2.out⟩
end Go.Proofs.YtcfncbbdlbdbnaaDoor
