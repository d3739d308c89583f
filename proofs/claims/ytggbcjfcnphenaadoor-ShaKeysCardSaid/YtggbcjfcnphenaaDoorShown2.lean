/- shown: the document's examples -/
import Derived.Test.YtggbcjfcnphenaaDoorKeys
import Derived.Test.YtggbcjfcnphenaaDoorDoc
import Derived.Lib.SlBytesConst
namespace Go.Proofs.YtggbcjfcnphenaaDoor
open Go.RowKit

theorem of_abc : ofF [97, 98, 99] = [0xba, 0x78, 0x16, 0xbf, 0x8f, 0x01, 0xcf, 0xea, 0x41, 0x41, 0x40, 0xde, 0x5d, 0xae, 0x22, 0x23, 0xb0, 0x03, 0x61, 0xa3, 0x96, 0x17, 0x7a, 0x9c, 0xb4, 0x10, 0xff, 0x61, 0xf2, 0x00, 0x15, 0xad] := by
  kernel_rfl
theorem hx_nil : (hx (ofF [])).toArray = #[101, 51, 98, 48, 99, 52, 52, 50, 57, 56, 102, 99, 49, 99, 49, 52, 57, 97, 102, 98, 102, 52, 99, 56, 57, 57, 54, 102, 98, 57, 50, 52, 50, 55, 97, 101, 52, 49, 101, 52, 54, 52, 57, 98, 57, 51, 52, 99, 97, 52, 57, 53, 57, 57, 49, 98, 55, 56, 53, 50, 98, 56, 53, 53] := by
  rw [of_nil]; kernel_rfl
theorem hx_abc : (hx (ofF [97, 98, 99])).toArray = #[98, 97, 55, 56, 49, 54, 98, 102, 56, 102, 48, 49, 99, 102, 101, 97, 52, 49, 52, 49, 52, 48, 100, 101, 53, 100, 97, 101, 50, 50, 50, 51, 98, 48, 48, 51, 54, 49, 97, 51, 57, 54, 49, 55, 55, 97, 57, 99, 98, 52, 49, 48, 102, 102, 54, 49, 102, 50, 48, 48, 49, 53, 97, 100] := by
  rw [of_abc]; kernel_rfl
theorem bytes_length (s : St) : s.bytes.length = 32 := take_bytes_length s 8 (by omega)
theorem ofF_length (l : List UInt8) : (ofF l).length = 32 := bytes_length _

theorem new_exact (w : World) : Calls Tryd.prog 17 #[] w fun e w' => e = .returned (hv h0 0 (.slice none 0 0)) ∧ w' = w.alloc (.cells (hcells h0 0 (.slice none 0 0)) 36) := by
  go_enter Tryd.func17, Tryd.ntmps17
  go_wp2
  (try simp only [Exit.inBlock, Exit.then])
  refine bodyPost_ret (retH rfl _ _ w.heap.size h0 0 (.slice none 0 0) rfl (heap_alloc_new w _)) rfl ?_
  exact ⟨rfl, rfl⟩

/-- the digest of a text, as the document's Hex -/
theorem hexof (A : Option Addr) (l : List UInt8) (w : World) (hr : Rd w w.heap.size A (ofF l)) (c : Nat) : Calls Tryd.prog 31 #[.slice A 32 c] w fun e w' => e = .returned (.string ⟨(hx (ofF l)).toArray⟩) ∧ Below w.heap.size w w' := by
  have h := refHex_any A (ofF l) c w (by rw [ofF_length]; omega) hr
  rw [ofF_length] at h
  exact h
theorem le2 (w : World) (o : Obj) : w.heap.size ≤ (w.alloc o).heap.size := by rw [World.size_alloc]; omega
theorem le3 (w : World) (o p : Obj) : w.heap.size ≤ ((w.alloc o).alloc p).heap.size := by rw [World.size_alloc, World.size_alloc]; omega
theorem rd_at {X : World} {g : Nat} {l : List UInt8} {C : Array Value} {fr : Nat × Nat} (hC : C = (cs l).toArray) (h : X.heap[g]? = some (.cells C 5 fr)) : Rd X X.heap.size (some ⟨g, 0, none⟩) l := by
  subst hC
  exact Rd.block h

theorem put70 (C : Option Addr) (W : World) (h1 : Rd W W.heap.size C (List.replicate 70 0)) (h2 : Ks W) :
    Calls Tryd.prog 23 #[hv h0 0 (.slice none 0 0), .slice C 70 70] W fun e w' => (∃ A c, e = .returned (hv (blks h0 (List.replicate 70 0)) 70 (.slice A 6 c)) ∧ 6 ≤ c) ∧ Below W.heap.size W w' := by
  have h := put_new C (List.replicate 70 0) 70 W (by rw [List.length_replicate]; omega) (by rw [List.length_replicate]; omega) h1 h2
  rw [List.length_replicate] at h
  refine h.mono ?_
  rintro e w' ⟨⟨A, c, rfl, h1, -, -⟩, hb⟩
  have hL : (left (List.replicate 70 (0 : UInt8))).length = 6 := by rw [left_length, List.length_replicate]
  rw [hL] at h1 ⊢
  exact ⟨⟨A, c, rfl, h1⟩, hb⟩

set_option maxRecDepth 100000 in
set_option maxHeartbeats 4000000 in
theorem shown_any (w : World) (hk : Ks w) : Calls Tryd.prog 10 #[] w fun e w' => e = .returned (.bool true) ∧ Below w.heap.size w w' := by
  have HK := Lib.hid hk
  obtain ⟨C70, hC70⟩ : ∃ C, C = madeCells #[Value.int .u8 0] 70 := ⟨_, rfl⟩
  have hmk : ∀ W, (Instr.makeSlice 22 (.int .i64 70) (.int .i64 70)).run Tryd.prog W = .ok (.slice (some ⟨W.heap.size, 0, none⟩) 70 70) (W.alloc (.cells C70 5)) := by
    intro W
    rw [hC70]
    exact run_make_row' 22 5 (.int .u8 0) 1 Tryd.underlying22 info5 rfl .i64 .i64 70 (by omega) (by omega) W
  have HC := Lib.hid (show C70 = (cs (List.replicate 70 0)).toArray by rw [hC70]; exact madeB 70)
  have HP := Lib.hid put70
  obtain ⟨X, hX⟩ : ∃ X, X = blks h0 (List.replicate 70 0) := ⟨_, rfl⟩
  rw [← hX] at HP
  clear hC70 hk hX
  go_enter Tryd.func10, Tryd.ntmps10
  go_upto_region 1 with (fail)
  go_cut [1] (fun v wr => ∃ g A c, v = .pointer (some ⟨g, 0, none⟩) ∧ wr.heap[g]? = some (.cells (hcells X 70 (.slice A 6 c)) 36 (0, 0)) ∧ w.heap.size ≤ g ∧ 6 ≤ c ∧ Below w.heap.size w wr)
  case first =>
    go_region_with (first
      | (go_at_call 17; refine (new_exact _).mono ?_; rintro e w1 ⟨rfl, rfl⟩)
      | (go_at_call 23; (refine (HP.out _ _ ?_ ?_).mono ?_; (exact rd_at HC.out (by first
          | exact (alloc2 w _ _).1 | exact (alloc2 w _ _).2.1 | exact (alloc3 w _ _ _).1 | exact (alloc3 w _ _ _).2.1 | exact (alloc3 w _ _ _).2.2.1)); (first | exact (HK.out.alloc _).alloc _ | exact ((HK.out.alloc _).alloc _).alloc _); rintro e w2 ⟨⟨A2, c2, rfl, h1⟩, hb2⟩; have hsz2 := hb2.size; (simp only [World.size_alloc, size_drew] at hsz2); have BB2 := Lib.hid (bel_call (B := w.heap.size) (w := w) (by first | exact ((((Below.refl _ _).alloc (Nat.le_refl _) _).alloc (le2 _ _) _).drew) | exact (((((Below.refl _ _).alloc (Nat.le_refl _) _).alloc (le2 _ _) _).alloc (le3 _ _ _) _).drew)) hb2 (by simp only [World.size_alloc, size_drew]; omega)); (first | (have hz := old_below (g := w.heap.size) (by exact (alloc3 w (.cells (hcells S00 0 (.slice none 0 0)) 36) _ _).1) hb2 (Nat.le_refl _); have ZZ := Lib.hid hz; obtain ⟨z0, z1, z2, z3, z4, z5, z6, z7, z8, z9⟩ := cells10 hz; obtain ⟨y0, y1, y2, y3, y4, y5, y6, y7, y8, y9⟩ := frozen10 hz; clear hz) | (have hz := old_below (g := w.heap.size + 1) (by exact (alloc3 w _ (.cells (hcells S00 0 (.slice none 0 0)) 36) _).2.1) hb2 (Nat.le_refl _); have ZZ := Lib.hid hz; obtain ⟨z0, z1, z2, z3, z4, z5, z6, z7, z8, z9⟩ := cells10 hz; obtain ⟨y0, y1, y2, y3, y4, y5, y6, y7, y8, y9⟩ := frozen10 hz; clear hz) | (have hz := old_below (g := w.heap.size + 1 + 1) (by exact (alloc3 w _ _ (.cells (hcells S00 0 (.slice none 0 0)) 36)).2.2.1) hb2 (Nat.le_refl _); have ZZ := Lib.hid hz; obtain ⟨z0, z1, z2, z3, z4, z5, z6, z7, z8, z9⟩ := cells10 hz; obtain ⟨y0, y1, y2, y3, y4, y5, y6, y7, y8, y9⟩ := frozen10 hz; clear hz) | skip); clear hb2)))
    all_goals
      go_wp2_with fail
      go_meet
      case rel => first
        | (refine ⟨w2.heap.size, A2, c2, by with_reducible rfl, ?_⟩; exact ⟨heap_alloc_new w2 _, by omega, h1, BB2.out.alloc (by omega) _⟩)
        | (refine ⟨w.heap.size + 1 + 1, A2, c2, by with_reducible rfl, ?_⟩; exact ⟨setH_same X 70 (.slice A2 6 c2) ZZ.out, by omega, h1, Below.setH BB2.out (by omega) X 70 (.slice A2 6 c2)⟩)
        | (refine ⟨w.heap.size + 1, A2, c2, by with_reducible rfl, ?_⟩; exact ⟨setH_same X 70 (.slice A2 6 c2) ZZ.out, by omega, h1, Below.setH BB2.out (by omega) X 70 (.slice A2 6 c2)⟩)
        | (refine ⟨w.heap.size, A2, c2, by with_reducible rfl, ?_⟩; exact ⟨setH_same X 70 (.slice A2 6 c2) ZZ.out, by omega, h1, Below.setH BB2.out (by omega) X 70 (.slice A2 6 c2)⟩)
  case rest =>
    obtain ⟨g, A, c, hv1, hg, hgw, hc6, hB⟩ := hcut
    subst hv1
    have HG := Lib.hid hg
    have HBB := Lib.hid hB
    have HKc := Lib.hid (HK.out.below hB HK.out.1)
    have O0 := Lib.hid (fun W h => of_any none [] 0 W (by simp) (by simp) Rd.nil h)
    have O3 := Lib.hid (fun A' c' W h1 h2 h3 => of_any A' [97, 98, 99] c' W (by simp) h1 h2 h3)
    clear hg hB hmk HP HC HK
    go_wp2_with fail
    refine (O0.out _ HKc.out).mono ?_
    rintro e w1 ⟨⟨A1, c1, rfl, h1, h2, h3⟩, hb1⟩
    have HK1 := Lib.hid (HKc.out.call hb1)
    have HB1 := Lib.hid (HBB.out.trans (hb1.mono HBB.out.size))
    have HG1 := Lib.hid (old_below HG.out hb1 (Nat.le_refl _))
    have H3 := Lib.hid h3
    clear hb1 h3 HKc HBB HG O0
    go_wp2_with fail
    refine (hexof A1 [] _ H3.out c1).mono ?_
    rintro e w2 ⟨rfl, hb2⟩
    have HK2 := Lib.hid (HK1.out.call hb2)
    have HB2 := Lib.hid (HB1.out.trans (hb2.mono HB1.out.size))
    have HG2 := Lib.hid (old_below HG1.out hb2 (Nat.le_refl _))
    clear hb2 HK1 HB1 HG1 H3
    rw [hx_nil]
    have hconv := Lib.run_convert_bytes_const (P := Tryd.prog) w2 22 5 #[.int .u8 97, .int .u8 98, .int .u8 99] 3 3 Tryd.underlying22 Tryd.underlying5
    have hr3 : Rd (w2.alloc (.cells #[.int .u8 97, .int .u8 98, .int .u8 99] 5 (3, 4))) (w2.alloc (.cells #[.int .u8 97, .int .u8 98, .int .u8 99] 5 (3, 4))).heap.size (some ⟨w2.heap.size, 0, none⟩) [97, 98, 99] := rd_at rfl (heap_alloc_new w2 _)
    have hb3 : Below w2.heap.size w2 (w2.alloc (.cells #[.int .u8 97, .int .u8 98, .int .u8 99] 5 (3, 4))) := (Below.refl _ _).alloc (Nat.le_refl _) _
    have HR3 := Lib.hid hr3
    have HB3 := Lib.hid hb3
    clear hr3 hb3
    go_wp2_with fail
    refine (O3.out (some ⟨w2.heap.size, 0, none⟩) 3 _ (by simp) (by exact HR3.out) (by exact HK2.out.call HB3.out)).mono ?_
    rintro e w4 ⟨⟨A4, c4, rfl, h4, h5, h6⟩, hb4⟩
    have HK4 := Lib.hid (Ks.call (by exact HK2.out.call HB3.out) hb4)
    have HB4 := Lib.hid (bel_call (B := w.heap.size) (w := w) (by exact HB2.out.trans (HB3.out.mono HB2.out.size)) hb4 (by exact Nat.le_trans HB2.out.size HB3.out.size))
    have HG4 := Lib.hid (old_below (by exact old_below HG2.out HB3.out (Nat.le_refl _)) hb4 (Nat.le_refl _))
    have H6 := Lib.hid h6
    clear hb4 h6 HK2 HB2 HG2 O3 HR3 HB3 hconv
    go_wp2_with fail
    refine (hexof A4 [97, 98, 99] _ H6.out c4).mono ?_
    rintro e w5 ⟨rfl, hb5⟩
    have HK5 := Lib.hid (HK4.out.call hb5)
    have HB5 := Lib.hid (HB4.out.trans (hb5.mono HB4.out.size))
    have hq5 := old_below HG4.out hb5 (Nat.le_refl _)
    clear hb5 HK4 HB4 HG4 H6
    rw [hx_abc]
    obtain ⟨v0, v1, v2, v3, v4, v5, v6, v7, v8, v9⟩ := cells10 hq5
    have R1 := Lib.hid (fun W => right_is X 70 A 6 c W (by omega))
    have R2 := Lib.hid (fun W => right_is S00 1 none 0 0 W (by omega))
    have r1 : rightB 70 6 = true := by decide
    have r2 : rightB 1 0 = false := by decide
    rw [r1] at R1
    rw [r2] at R2
    have K63 := Lib.hid (fun W h => key_any 63 W h)
    have k63 : keyF 63 = 3329325298 := by kernel_rfl
    rw [k63] at K63
    clear hq5 r1 r2 k63
    go_wp2_with fail
    refine (R1.out _).mono ?_
    rintro e w6 ⟨rfl, hb6⟩
    have HK6 := Lib.hid (HK5.out.call hb6)
    have HB6 := Lib.hid (HB5.out.trans (hb6.mono HB5.out.size))
    clear hb6 HK5 HB5 v0 v1 v2 v3 v4 v5 v6 v7 v8 v9 R1
    go_wp2_with fail
    refine (R2.out _).mono ?_
    rintro e w7 ⟨rfl, hb7⟩
    have HK7 := Lib.hid (HK6.out.call hb7)
    have HB7 := Lib.hid (HB6.out.trans (hb7.mono HB6.out.size))
    clear hb7 HK6 HB6 R2
    go_wp2_with fail
    refine (K63.out _ HK7.out).mono ?_
    rintro e w8 ⟨rfl, rfl⟩
    go_wp2_with fail
    go_ret
    exact ⟨rfl, HB7.out⟩
end Go.Proofs.YtggbcjfcnphenaaDoor
