/- ShaGoes' walk -/
import Derived.Test.YtggbcjfcnphenaaDoorSPuts
namespace Go.Proofs.YtggbcjfcnphenaaDoor
open Go.RowKit

theorem put0 (s : St) (N : Nat) (A C : Option Addr) (m : List UInt8) (c k d : Nat) (w : World) (hk' : k = m.length) (hm : m.length ≤ 1000) (hmd : m.length ≤ d) (hs : Rd w w.heap.size C m) (hk : Ks w) (hN : N + m.length ≤ 1125899906842624) (X : St) (L : List UInt8) (r K : Nat) (hX : X = blks s m) (hL : L = left m) (hr : r = L.length) (hK : K = N + k) :
    Calls Tryd.prog 23 #[hv s (N : Int) (.slice A 0 c), .slice C k d] w fun e w' => (∃ A' c', e = .returned (hv X (K : Int) (.slice A' r c')) ∧ r ≤ c' ∧ c' ≤ 9223372036854775807 ∧ Rd w' w'.heap.size A' L) ∧ Below w.heap.size w w' := by
  subst hK hr hX hL hk'
  exact put_any s N A C [] m c d w (by simpa using (by omega : m.length ≤ 1000000)) (Nat.zero_le _) hmd Rd.nil hs hk hN
theorem rd_setH_at {w : World} {A A0 : Option Addr} {l : List UInt8} {g n0 c0 : Nat} {s0 : St} {N0 : Int} {t : TypeId} {fr : Nat × Nat} (h : Rd w w.heap.size A l) (hg : w.heap[g]? = some (.cells (hcells s0 N0 (.slice A0 n0 c0)) t fr)) (s : St) (N : Int) (r : Value) : Rd (setH w g s N r) (setH w g s N r).heap.size A l := by
  intro h0
  obtain ⟨b, o, e, hb, hc⟩ := h h0
  have hbg : b ≠ g := by
    rintro rfl
    have h1 := hc 0 h0
    rw [cell_of_row _ _ _ _ _ _ hg] at h1
    match o, h1 with
    | 0, h1 => cases h1
    | 1, h1 => cases h1
    | 2, h1 => cases h1
    | 3, h1 => cases h1
    | 4, h1 => cases h1
    | 5, h1 => cases h1
    | 6, h1 => cases h1
    | 7, h1 => cases h1
    | 8, h1 => cases h1
    | 9, h1 => cases h1
    | o + 10, h1 => simp [hcells] at h1
  exact Go.Proofs.YtggbcjfcnphenaaDoor.Rd.setH h s N r (fun p hp => by rw [e] at hp; cases hp; exact hbg) h0
theorem blks64 (s : St) (l : List UInt8) (h : l.length = 64) : blks s l = compress s l ∧ left l = [] := by
  unfold blks left
  rw [h]
  refine ⟨?_, ?_⟩
  · show compress (blkN s l 0) ((l.drop (64 * 0)).take 64) = compress s l
    rw [Nat.mul_zero, List.drop_zero, List.take_of_length_le (by omega)]
    rfl
  · exact List.drop_of_length_le (by omega)

set_option maxRecDepth 100000 in
set_option maxHeartbeats 1000000 in
theorem shaGoes_easy (s : St) (n : Int) (A : Option Addr) (k c : Nat) (W : World) (hk : Ks W) (hh : k < 64 ∨ 500 < k) :
    Calls Tryd.prog 9 #[s.v, .int .u16 n, .slice A k c] W fun e W' => e = .returned (.bool true) ∧ Below W.heap.size W W' := by
  have KB := Lib.hid (fun w (h : Below W.heap.size W w) => Ks.call hk h)
  have q4 : Below W.heap.size W (W.alloc (.cells s.cells 28)) := (Below.refl _ _).alloc (Nat.le_refl _) _
  have q3 : (W.alloc (.cells s.cells 28)).heap.size = W.heap.size + 1 := World.size_alloc _ _
  clear hk
  show Calls Tryd.prog 9 #[.agg #[wv s.a, wv s.b, wv s.c, wv s.d, wv s.e, wv s.f, wv s.g, wv s.h], .int .u16 n, .slice A k c] W _
  go_enter Tryd.func9, Tryd.ntmps9
  go_upto_region 1 with (fail)
  change Code.wp _ _ _ _ (W.alloc (.cells s.cells 28))
  generalize W.alloc (.cells s.cells 28) = W0 at *
  have Q4 := Lib.hid q4
  clear q4
  go_wp2_with fail
  refine (shown_any _ (KB.out _ Q4.out)).mono ?_
  rintro e W1 ⟨rfl, hb1⟩
  have HB1 := Lib.hid (bel_call Q4.out hb1 (by omega))
  clear hb1 Q4 q3
  dsimp only
  by_cases h64 : k < 64
  · have h64i : (k : Int) < 64 := by omega
    clear hh
    go_wp2
    go_ret
    exact ⟨rfl, HB1.out⟩
  · have h64i : ¬ (k : Int) < 64 := by omega
    have h500i : (500 : Int) < (k : Int) := by omega
    clear hh
    go_wp2
    go_ret
    exact ⟨rfl, HB1.out⟩

set_option maxRecDepth 100000 in
set_option maxHeartbeats 4000000 in
theorem shaGoes_main (s : St) (n : Nat) (A : Option Addr) (l : List UInt8) (c : Nat) (W : World) (hn : n ≤ 65535) (hc : l.length ≤ c) (hr : Rd W W.heap.size A l) (hk : Ks W) (h64 : 64 ≤ l.length) (h500 : l.length ≤ 500) :
    Calls Tryd.prog 9 #[s.v, .int .u16 (n : Int), .slice A l.length c] W fun e W' => e = .returned (.bool true) ∧ Below W.heap.size W W' := by
  have RB := Lib.hid (fun w (h : Below W.heap.size W w) => (hr.below h (Nat.le_refl _)).more h.size)
  have RC := Lib.hid (fun w (h : Below W.heap.size W w) => show Rd w w.heap.size A (l.take 64) from fun h0 => by
    obtain ⟨b, o, e, hb, hcell⟩ := RB.out w h (by omega)
    refine ⟨b, o, e, hb, fun j hj => ?_⟩
    have hj2 : j < l.length := by have : j < min 64 l.length := by simpa using hj
                                  omega
    rw [hcell j hj2]
    simp)
  have RD := Lib.hid (fun w (h : Below W.heap.size W w) => show Rd w w.heap.size (if c = 64 then A else A.map (·.add 64)) (l.drop 64) from by
    have h1 := (RB.out w h).cut 64 (l.length - 64) c (by omega) hc
    rw [List.take_of_length_le (by rw [List.length_drop]; omega)] at h1
    exact h1)
  have KB := Lib.hid (fun w (h : Below W.heap.size W w) => Ks.call hk h)
  obtain ⟨k, hk'⟩ : ∃ k, k = l.length := ⟨_, rfl⟩
  obtain ⟨M, hM⟩ : ∃ M, M = 64 * n := ⟨_, rfl⟩
  obtain ⟨K1, hK1⟩ : ∃ K, K = M + 64 := ⟨_, rfl⟩
  obtain ⟨K2, hK2⟩ : ∃ K, K = M + k := ⟨_, rfl⟩
  obtain ⟨X1, hX1⟩ : ∃ X, X = compress s (l.take 64) := ⟨_, rfl⟩
  obtain ⟨X2, hX2⟩ : ∃ X, X = blks s l := ⟨_, rfl⟩
  obtain ⟨L2, hL2⟩ : ∃ X, X = left l := ⟨_, rfl⟩
  obtain ⟨r, hr2⟩ : ∃ X, X = L2.length := ⟨_, rfl⟩
  have ht : (l.take 64).length = 64 := by rw [List.length_take]; omega
  obtain ⟨b1, b2⟩ := blks64 s (l.take 64) ht
  have b3 : blks X1 (l.drop 64) = X2 ∧ left (l.drop 64) = L2 := by
    have h := blks_pieces s (l.take 64) (l.drop 64)
    rw [b1, b2, List.nil_append, List.take_append_drop, ← hX1, ← hX2, ← hL2] at h
    exact h
  have P1 := Lib.hid (fun (A0 : Option Addr) w (h1 : Rd w w.heap.size A (l.take 64)) (h2 : Ks w) => put0 s M A0 A (l.take 64) 0 64 c w ht.symm (by omega) (by omega) h1 h2 (by omega) X1 [] 0 K1 (by rw [b1, hX1]) b2.symm rfl hK1)
  have P2 := Lib.hid (fun w (h1 : Rd w w.heap.size A (l.take 64)) (h2 : Ks w) => block_any s A (l.take 64) c w ht h1 h2)
  rw [← hX1] at P2
  have P3 := Lib.hid (fun (A0 : Option Addr) c0 w (h1 : Rd w w.heap.size (if c = 64 then A else A.map (·.add 64)) (l.drop 64)) (h2 : Ks w) => put0 X1 K1 A0 _ (l.drop 64) c0 (k - 64) (c - 64) w (by rw [List.length_drop, hk']) (by rw [List.length_drop]; omega) (by rw [List.length_drop]; omega) h1 h2 (by rw [List.length_drop]; omega) X2 L2 r K2 b3.1.symm b3.2.symm hr2 (by omega))
  have P4 := Lib.hid (fun (A0 : Option Addr) w (h1 : Rd w w.heap.size A l) (h2 : Ks w) => put0 s M A0 A l 0 k c w hk' (by omega) hc h1 h2 (by omega) X2 L2 r K2 hX2 hL2 hr2 hK2)
  have CS := Lib.hid (fun A' B' c' d' w => refSame_yes X2 K2 L2 r hr2 A' B' c' d' w)
  have E1 := fun V => eql8 X1 X1 V
  rw [decide_eq_true rfl] at E1
  have HE1 := Lib.hid E1
  rw [← hk'] at hc h64 h500 ⊢
  have hkc : k ≤ c := hc
  have e1 : (64 : Int) * (n : Int) = (M : Int) := by omega
  have e2 : IntKind.i64.wrap ((M : Int) + 64) = (K1 : Int) := by rw [IntWalk.i64_in _ (by omega)]; omega
  have e3 : IntKind.i64.wrap ((M : Int) + (k : Int)) = (K2 : Int) := by rw [IntWalk.i64_in _ (by omega)]; omega
  have e4 : (M : Int) + 64 = (K1 : Int) := by omega
  have e5 : (M : Int) + (k : Int) = (K2 : Int) := by omega
  have HE2 := Lib.hid e2
  have HE3 := Lib.hid e3
  have HE4 := Lib.hid e4
  have HE5 := Lib.hid e5
  have f1 : (64 : Int) ≤ (k : Int) := by omega
  have f2 : ¬ (500 : Int) < (k : Int) := by omega
  have f3 : (64 : Int) ≤ (c : Int) := by omega
  have f4 : ¬ (k : Int) < 64 := by omega
  have f5 : (k : Int) ≤ (c : Int) := by omega
  have q1 := heap_alloc_new W (.cells s.cells 28)
  have q4 : Below W.heap.size W (W.alloc (.cells s.cells 28)) := (Below.refl _ _).alloc (Nat.le_refl _) _
  have q3 : (W.alloc (.cells s.cells 28)).heap.size = W.heap.size + 1 := World.size_alloc _ _
  clear hk hk' hM hK1 hK2 hX1 hX2 hL2 hr2 ht b1 b2 b3 E1 hr e2 e3 e4 e5
  show Calls Tryd.prog 9 #[.agg #[wv s.a, wv s.b, wv s.c, wv s.d, wv s.e, wv s.f, wv s.g, wv s.h], .int .u16 n, .slice A k c] W _
  go_enter Tryd.func9, Tryd.ntmps9
  go_upto_region 1 with (fail)
  change Code.wp _ _ _ _ (W.alloc (.cells s.cells 28))
  generalize W.alloc (.cells s.cells 28) = W0 at *
  have Q1 := Lib.hid q1
  have Q4 := Lib.hid q4
  clear q1 q4
  go_wp2_with fail
  refine (shown_any _ (KB.out _ Q4.out)).mono ?_
  rintro e W1 ⟨rfl, hb1⟩
  have HB1 := Lib.hid (bel_call Q4.out hb1 (by omega))
  have S1 := Lib.hid (old_below (g := W.heap.size) Q1.out hb1 (Nat.le_refl _))
  have z1 : W.heap.size < W1.heap.size := by have := hb1.size; omega
  clear hb1 Q1 Q4 q3
  dsimp only
  go_wp2_with (with_reducible refine at_list ?_; refine load8 W1 (.tmp 3) W.heap.size s S1.out rfl rfl rfl ?_)
  have v1 := old_alloc S1.out (.cells (hcells s (M : Int) (.slice none 0 0)) 36)
  have v2 := heap_alloc_new W1 (.cells (hcells s (M : Int) (.slice none 0 0)) 36)
  have v3 := HB1.out.alloc (Nat.le_of_lt z1) (.cells (hcells s (M : Int) (.slice none 0 0)) 36)
  change Code.wp _ _ _ _ (W1.alloc (.cells (hcells s (M : Int) (.slice none 0 0)) 36))
  generalize W1.alloc (.cells (hcells s (M : Int) (.slice none 0 0)) 36) = V5 at *
  obtain ⟨gh, hgh⟩ : ∃ g, g = W1.heap.size := ⟨_, rfl⟩
  rw [← hgh] at v2 ⊢
  have G3 := Lib.hid v1
  have GH := Lib.hid v2
  have BV := Lib.hid v3
  clear v1 v2 v3 hgh HB1 S1 z1
  have RBV5 := Lib.hid (fun w (h : Below V5.heap.size V5 w) => RB.out w (BV.out.trans (h.mono BV.out.size)))
  have RCV5 := Lib.hid (fun w (h : Below V5.heap.size V5 w) => RC.out w (BV.out.trans (h.mono BV.out.size)))
  have RDV5 := Lib.hid (fun w (h : Below V5.heap.size V5 w) => RD.out w (BV.out.trans (h.mono BV.out.size)))
  have KBV5 := Lib.hid (fun w (h : Below V5.heap.size V5 w) => KB.out w (BV.out.trans (h.mono BV.out.size)))
  have B0V5 := Lib.hid ((Below.refl V5.heap.size V5).drew)
  have BAV5 := Lib.hid (((Below.refl V5.heap.size V5).alloc (Nat.le_refl _) (.cells #[.int .u32 0, .int .u32 0, .int .u32 0, .int .u32 0, .int .u32 0, .int .u32 0, .int .u32 0, .int .u32 0, .int .i64 0, .slice none 0 0] 36)).drew)
  have KEEP5 := Lib.hid (show ∀ w', Below V5.heap.size V5 w' → (Below V5.heap.size V5 w' ∧ w'.cell? ⟨gh, 0, none⟩ = some (wv s.a) ∧ w'.cell? ⟨gh, 1, none⟩ = some (wv s.b) ∧ w'.cell? ⟨gh, 2, none⟩ = some (wv s.c) ∧ w'.cell? ⟨gh, 3, none⟩ = some (wv s.d) ∧ w'.cell? ⟨gh, 4, none⟩ = some (wv s.e) ∧ w'.cell? ⟨gh, 5, none⟩ = some (wv s.f) ∧ w'.cell? ⟨gh, 6, none⟩ = some (wv s.g) ∧ w'.cell? ⟨gh, 7, none⟩ = some (wv s.h) ∧ w'.cell? ⟨gh, 8, none⟩ = some (.int .i64 (M : Int)) ∧ w'.cell? ⟨gh, 9, none⟩ = some (.slice none 0 0)) from fun w' h => by
    obtain ⟨p0, p1, p2, p3, p4, p5, p6, p7, p8, p9⟩ := cells10 (old_below GH.out h (Nat.le_refl _))
    exact ⟨h, p0, p1, p2, p3, p4, p5, p6, p7, p8, p9⟩)
  go_cut [9] (fun v wx => ∃ (g9 : Nat) (A9 : Option Addr) (c9 : Nat), v = .pointer (some ⟨g9, 0, none⟩) ∧ wx.heap[g9]? = some (.cells (hcells X1 (K1 : Int) (.slice A9 0 c9)) 36 (0, 0)) ∧ Below V5.heap.size V5 wx)
  case first =>
    go_region_held3 (fun w' => Below V5.heap.size V5 w' ∧ w'.cell? ⟨gh, 0, none⟩ = some (wv s.a) ∧ w'.cell? ⟨gh, 1, none⟩ = some (wv s.b) ∧ w'.cell? ⟨gh, 2, none⟩ = some (wv s.c) ∧ w'.cell? ⟨gh, 3, none⟩ = some (wv s.d) ∧ w'.cell? ⟨gh, 4, none⟩ = some (wv s.e) ∧ w'.cell? ⟨gh, 5, none⟩ = some (wv s.f) ∧ w'.cell? ⟨gh, 6, none⟩ = some (wv s.g) ∧ w'.cell? ⟨gh, 7, none⟩ = some (wv s.h) ∧ w'.cell? ⟨gh, 8, none⟩ = some (.int .i64 (M : Int)) ∧ w'.cell? ⟨gh, 9, none⟩ = some (.slice none 0 0))
      (first | with_reducible exact KEEP5.out _ B0V5.out | with_reducible exact KEEP5.out _ BAV5.out | with_reducible exact KEEP5.out _ BB2.out | with_reducible exact KEEP5.out _ (BB2.out.alloc hsz2 _) | exact KEEP5.out _ (Below.setH BB2.out (Nat.le_refl _) X1 (K1 : Int) (.slice A2 0 c2)))
      (first
      | (go_at_call 23; (with_reducible refine (P1.out none _ ?_ ?_).mono ?_); (first | with_reducible exact RCV5.out _ B0V5.out | with_reducible exact RCV5.out _ BAV5.out); (first | with_reducible exact KBV5.out _ B0V5.out | with_reducible exact KBV5.out _ BAV5.out); rintro e w2 ⟨⟨A2, c2, rfl, a1, a2, a3⟩, hb⟩; have BB2 := Lib.hid (by first | with_reducible exact bel_call B0V5.out hb B0V5.out.size | with_reducible exact bel_call BAV5.out hb BAV5.out.size); have RA2 := Lib.hid a3; have hsz2 : V5.heap.size ≤ w2.heap.size := BB2.out.size; (first | (have hz := old_below (g := V5.heap.size) (by exact heap_alloc_new V5 (.cells (hcells S00 0 (.slice none 0 0)) 36)) hb (Nat.le_refl _); have ZZ := Lib.hid hz; obtain ⟨z0, z1, z2, z3, z4, z5, z6, z7, z8, z9⟩ := cells10 hz; obtain ⟨y0, y1, y2, y3, y4, y5, y6, y7, y8, y9⟩ := frozen10 hz; have hlt2 : V5.heap.size < w2.heap.size := (Array.getElem?_eq_some_iff.1 hz).1; clear hz) | skip); clear hb a3))
    all_goals
      go_wp2_with fail
      go_meet
      case rel => first
        | (refine ⟨w2.heap.size, A2, c2, by with_reducible rfl, ?_⟩; exact ⟨heap_alloc_new w2 _, BB2.out.alloc hsz2 _⟩)
        | (refine ⟨V5.heap.size, A2, c2, by with_reducible rfl, ?_⟩; exact ⟨setH_same X1 (K1 : Int) (.slice A2 0 c2) ZZ.out, Below.setH BB2.out (Nat.le_refl _) X1 (K1 : Int) (.slice A2 0 c2)⟩)
  case rest =>
  obtain ⟨g9, A9, c9, rfl, h9, h9b⟩ := hcut
  obtain ⟨V6, hV6⟩ : ∃ x, x = wc := ⟨_, rfl⟩
  rw [← hV6] at h9 h9b
  rw [← hV6]
  clear hV6
  have G9 := Lib.hid h9
  have BV6 := Lib.hid (BV.out.trans (h9b.mono BV.out.size))
  have G36 := Lib.hid (old_below G3.out h9b (Nat.le_refl _))
  have GH6 := Lib.hid (old_below GH.out h9b (Nat.le_refl _))
  clear h9 h9b KEEP5 RBV5 RCV5 RDV5 KBV5 B0V5 BAV5 G3 GH BV
  have RBV6 := Lib.hid (fun w (h : Below V6.heap.size V6 w) => RB.out w (BV6.out.trans (h.mono BV6.out.size)))
  have RCV6 := Lib.hid (fun w (h : Below V6.heap.size V6 w) => RC.out w (BV6.out.trans (h.mono BV6.out.size)))
  have RDV6 := Lib.hid (fun w (h : Below V6.heap.size V6 w) => RD.out w (BV6.out.trans (h.mono BV6.out.size)))
  have KBV6 := Lib.hid (fun w (h : Below V6.heap.size V6 w) => KB.out w (BV6.out.trans (h.mono BV6.out.size)))
  have B0V6 := Lib.hid ((Below.refl V6.heap.size V6).drew)
  have BAV6 := Lib.hid (((Below.refl V6.heap.size V6).alloc (Nat.le_refl _) (.cells #[.int .u32 0, .int .u32 0, .int .u32 0, .int .u32 0, .int .u32 0, .int .u32 0, .int .u32 0, .int .u32 0] 28)).drew)
  have KEEP6 := Lib.hid (show ∀ w', Below V6.heap.size V6 w' → (Below V6.heap.size V6 w' ∧ w'.cell? ⟨W.heap.size, 0, none⟩ = some (wv s.a) ∧ w'.cell? ⟨W.heap.size, 1, none⟩ = some (wv s.b) ∧ w'.cell? ⟨W.heap.size, 2, none⟩ = some (wv s.c) ∧ w'.cell? ⟨W.heap.size, 3, none⟩ = some (wv s.d) ∧ w'.cell? ⟨W.heap.size, 4, none⟩ = some (wv s.e) ∧ w'.cell? ⟨W.heap.size, 5, none⟩ = some (wv s.f) ∧ w'.cell? ⟨W.heap.size, 6, none⟩ = some (wv s.g) ∧ w'.cell? ⟨W.heap.size, 7, none⟩ = some (wv s.h)) from fun w' h => by
    obtain ⟨p0, p1, p2, p3, p4, p5, p6, p7⟩ := cells8 (old_below G36.out h (Nat.le_refl _))
    exact ⟨h, p0, p1, p2, p3, p4, p5, p6, p7⟩)
  go_wp2_with fail
  go_cut [10, 11] (fun v v11 wx => ∃ (g10 : Nat), v = .pointer (some ⟨g10, 0, none⟩) ∧ v11 = .int .i64 0 ∧ wx.heap[g10]? = some (.cells X1.cells 28 (0, 0)) ∧ Below V6.heap.size V6 wx)
  case first =>
    go_region_held3 (fun w' => Below V6.heap.size V6 w' ∧ w'.cell? ⟨W.heap.size, 0, none⟩ = some (wv s.a) ∧ w'.cell? ⟨W.heap.size, 1, none⟩ = some (wv s.b) ∧ w'.cell? ⟨W.heap.size, 2, none⟩ = some (wv s.c) ∧ w'.cell? ⟨W.heap.size, 3, none⟩ = some (wv s.d) ∧ w'.cell? ⟨W.heap.size, 4, none⟩ = some (wv s.e) ∧ w'.cell? ⟨W.heap.size, 5, none⟩ = some (wv s.f) ∧ w'.cell? ⟨W.heap.size, 6, none⟩ = some (wv s.g) ∧ w'.cell? ⟨W.heap.size, 7, none⟩ = some (wv s.h))
      (first | with_reducible exact KEEP6.out _ B0V6.out | with_reducible exact KEEP6.out _ BAV6.out | with_reducible exact KEEP6.out _ BB2.out | with_reducible exact KEEP6.out _ (BB2.out.alloc hsz2 _) | exact KEEP6.out _ (Below.set8 BB2.out (Nat.le_refl _) X1))
      (first
      | (go_at_call 14; (with_reducible refine (P2.out _ ?_ ?_).mono ?_); (first | with_reducible exact RCV6.out _ B0V6.out | with_reducible exact RCV6.out _ BAV6.out); (first | with_reducible exact KBV6.out _ B0V6.out | with_reducible exact KBV6.out _ BAV6.out); rintro e w2 ⟨rfl, hb⟩; have BB2 := Lib.hid (by first | with_reducible exact bel_call B0V6.out hb B0V6.out.size | with_reducible exact bel_call BAV6.out hb BAV6.out.size); have hsz2 : V6.heap.size ≤ w2.heap.size := BB2.out.size; (first | (have hz := old_below (g := V6.heap.size) (by exact heap_alloc_new V6 (.cells Z8 28)) hb (Nat.le_refl _); have ZZ := Lib.hid hz; obtain ⟨⟨z0, z1, z2, z3, z4, z5, z6, z7⟩, y0, y1, y2, y3, y4, y5, y6, y7⟩ := zeros8 hz; have hlt2 : V6.heap.size < w2.heap.size := (Array.getElem?_eq_some_iff.1 hz).1; clear hz) | skip); clear hb))
    all_goals
      go_wp2_with fail
      go_meet
      case rel => first
        | (refine ⟨w2.heap.size, by with_reducible rfl, rfl, ?_⟩; exact ⟨heap_alloc_new w2 _, BB2.out.alloc hsz2 _⟩)
        | (refine ⟨V6.heap.size, by with_reducible rfl, rfl, ?_⟩; exact ⟨set8_same X1 ZZ.out, Below.set8 BB2.out (Nat.le_refl _) X1⟩)
  case rest =>
  obtain ⟨g10, rfl, rfl, h10, h10b⟩ := hcut
  obtain ⟨V7, hV7⟩ : ∃ x, x = wc := ⟨_, rfl⟩
  rw [← hV7] at h10 h10b
  rw [← hV7]
  clear hV7
  have G10 := Lib.hid h10
  have BV7 := Lib.hid (BV6.out.trans (h10b.mono BV6.out.size))
  have GH7 := Lib.hid (old_below GH6.out h10b (Nat.le_refl _))
  have G97 := Lib.hid (old_below G9.out h10b (Nat.le_refl _))
  clear h10 h10b KEEP6 RBV6 RCV6 RDV6 KBV6 B0V6 BAV6 G36 GH6 G9 BV6
  have RBV7 := Lib.hid (fun w (h : Below V7.heap.size V7 w) => RB.out w (BV7.out.trans (h.mono BV7.out.size)))
  have RCV7 := Lib.hid (fun w (h : Below V7.heap.size V7 w) => RC.out w (BV7.out.trans (h.mono BV7.out.size)))
  have RDV7 := Lib.hid (fun w (h : Below V7.heap.size V7 w) => RD.out w (BV7.out.trans (h.mono BV7.out.size)))
  have KBV7 := Lib.hid (fun w (h : Below V7.heap.size V7 w) => KB.out w (BV7.out.trans (h.mono BV7.out.size)))
  have B0V7 := Lib.hid ((Below.refl V7.heap.size V7).drew)
  have BAV7 := Lib.hid (((Below.refl V7.heap.size V7).alloc (Nat.le_refl _) (.cells #[.int .u32 0, .int .u32 0, .int .u32 0, .int .u32 0, .int .u32 0, .int .u32 0, .int .u32 0, .int .u32 0, .int .i64 0, .slice none 0 0] 36)).drew)
  have KEEP7 := Lib.hid (show ∀ w', Below V7.heap.size V7 w' → (Below V7.heap.size V7 w' ∧ w'.cell? ⟨g9, 0, none⟩ = some (wv X1.a) ∧ w'.cell? ⟨g9, 1, none⟩ = some (wv X1.b) ∧ w'.cell? ⟨g9, 2, none⟩ = some (wv X1.c) ∧ w'.cell? ⟨g9, 3, none⟩ = some (wv X1.d) ∧ w'.cell? ⟨g9, 4, none⟩ = some (wv X1.e) ∧ w'.cell? ⟨g9, 5, none⟩ = some (wv X1.f) ∧ w'.cell? ⟨g9, 6, none⟩ = some (wv X1.g) ∧ w'.cell? ⟨g9, 7, none⟩ = some (wv X1.h) ∧ w'.cell? ⟨g9, 8, none⟩ = some (.int .i64 (K1 : Int)) ∧ w'.cell? ⟨g9, 9, none⟩ = some (.slice A9 0 c9)) from fun w' h => by
    obtain ⟨p0, p1, p2, p3, p4, p5, p6, p7, p8, p9⟩ := cells10 (old_below G97.out h (Nat.le_refl _))
    exact ⟨h, p0, p1, p2, p3, p4, p5, p6, p7, p8, p9⟩)
  go_wp2_with fail
  go_cut [12] (fun v wx => ∃ (g12 : Nat) (A12 : Option Addr) (c12 : Nat), v = .pointer (some ⟨g12, 0, none⟩) ∧ wx.heap[g12]? = some (.cells (hcells X2 (K2 : Int) (.slice A12 r c12)) 36 (0, 0)) ∧ Rd wx wx.heap.size A12 L2 ∧ Below V7.heap.size V7 wx)
  case first =>
    by_cases hc64 : c = 64
    all_goals
      first
      | (have hk64 : k = 64 := by omega
         subst hc64 hk64
         rw [if_pos rfl] at P3 RDV7)
      | (have hkc2 : (k : Int) - 64 = ((k - 64 : Nat) : Int) := by omega
         rw [if_neg hc64] at P3 RDV7)
      go_region_held3 (fun w' => Below V7.heap.size V7 w' ∧ w'.cell? ⟨g9, 0, none⟩ = some (wv X1.a) ∧ w'.cell? ⟨g9, 1, none⟩ = some (wv X1.b) ∧ w'.cell? ⟨g9, 2, none⟩ = some (wv X1.c) ∧ w'.cell? ⟨g9, 3, none⟩ = some (wv X1.d) ∧ w'.cell? ⟨g9, 4, none⟩ = some (wv X1.e) ∧ w'.cell? ⟨g9, 5, none⟩ = some (wv X1.f) ∧ w'.cell? ⟨g9, 6, none⟩ = some (wv X1.g) ∧ w'.cell? ⟨g9, 7, none⟩ = some (wv X1.h) ∧ w'.cell? ⟨g9, 8, none⟩ = some (.int .i64 (K1 : Int)) ∧ w'.cell? ⟨g9, 9, none⟩ = some (.slice A9 0 c9))
        (first | with_reducible exact KEEP7.out _ B0V7.out | with_reducible exact KEEP7.out _ BAV7.out | with_reducible exact KEEP7.out _ BB2.out | with_reducible exact KEEP7.out _ (BB2.out.alloc hsz2 _) | exact KEEP7.out _ (Below.setH BB2.out (Nat.le_refl _) X2 (K2 : Int) (.slice A2 r c2)))
        (first
        | (go_at_call 23; (refine (P3.out A9 c9 _ ?_ ?_).mono ?_); (first | exact RDV7.out _ B0V7.out | exact RDV7.out _ BAV7.out); (first | with_reducible exact KBV7.out _ B0V7.out | with_reducible exact KBV7.out _ BAV7.out); rintro e w2 ⟨⟨A2, c2, rfl, a1, a2, a3⟩, hb⟩; have BB2 := Lib.hid (by first | with_reducible exact bel_call B0V7.out hb B0V7.out.size | with_reducible exact bel_call BAV7.out hb BAV7.out.size); have RA2 := Lib.hid a3; have hsz2 : V7.heap.size ≤ w2.heap.size := BB2.out.size; (first | (have hz := old_below (g := V7.heap.size) (by exact heap_alloc_new V7 (.cells (hcells S00 0 (.slice none 0 0)) 36)) hb (Nat.le_refl _); have ZZ := Lib.hid hz; obtain ⟨z0, z1, z2, z3, z4, z5, z6, z7, z8, z9⟩ := cells10 hz; obtain ⟨y0, y1, y2, y3, y4, y5, y6, y7, y8, y9⟩ := frozen10 hz; have hlt2 : V7.heap.size < w2.heap.size := (Array.getElem?_eq_some_iff.1 hz).1; clear hz) | skip); clear hb a3))
      all_goals
        go_wp2_with fail
        go_meet
        case rel => first
          | (refine ⟨w2.heap.size, A2, c2, by with_reducible rfl, ?_⟩; exact ⟨heap_alloc_new w2 _, Rd.alloc RA2.out _, BB2.out.alloc hsz2 _⟩)
          | (refine ⟨V7.heap.size, A2, c2, by with_reducible rfl, ?_⟩; exact ⟨setH_same X2 (K2 : Int) (.slice A2 r c2) ZZ.out, rd_setH_at RA2.out ZZ.out X2 (K2 : Int) (.slice A2 r c2), Below.setH BB2.out (Nat.le_refl _) X2 (K2 : Int) (.slice A2 r c2)⟩)
  case rest =>
  obtain ⟨g12, A12, c12, rfl, h12, h12r, h12b⟩ := hcut
  obtain ⟨V8, hV8⟩ : ∃ x, x = wc := ⟨_, rfl⟩
  rw [← hV8] at h12 h12r h12b
  rw [← hV8]
  clear hV8
  have G12 := Lib.hid h12
  have R12 := Lib.hid h12r
  have BV8 := Lib.hid (BV7.out.trans (h12b.mono BV7.out.size))
  have GH8 := Lib.hid (old_below GH7.out h12b (Nat.le_refl _))
  have G98 := Lib.hid (old_below G97.out h12b (Nat.le_refl _))
  have G108 := Lib.hid (old_below G10.out h12b (Nat.le_refl _))
  clear h12 h12r h12b KEEP7 RBV7 RCV7 RDV7 KBV7 B0V7 BAV7 GH7 G97 G10 BV7
  have RBV8 := Lib.hid (fun w (h : Below V8.heap.size V8 w) => RB.out w (BV8.out.trans (h.mono BV8.out.size)))
  have RCV8 := Lib.hid (fun w (h : Below V8.heap.size V8 w) => RC.out w (BV8.out.trans (h.mono BV8.out.size)))
  have RDV8 := Lib.hid (fun w (h : Below V8.heap.size V8 w) => RD.out w (BV8.out.trans (h.mono BV8.out.size)))
  have KBV8 := Lib.hid (fun w (h : Below V8.heap.size V8 w) => KB.out w (BV8.out.trans (h.mono BV8.out.size)))
  have B0V8 := Lib.hid ((Below.refl V8.heap.size V8).drew)
  have RXV := Lib.hid (fun w (h : Below V8.heap.size V8 w) => (R12.out.below h (Nat.le_refl _)).more h.size)
  have KEEP8 := Lib.hid (show ∀ w', Below V8.heap.size V8 w' → (Below V8.heap.size V8 w' ∧ w'.cell? ⟨gh, 0, none⟩ = some (wv s.a) ∧ w'.cell? ⟨gh, 1, none⟩ = some (wv s.b) ∧ w'.cell? ⟨gh, 2, none⟩ = some (wv s.c) ∧ w'.cell? ⟨gh, 3, none⟩ = some (wv s.d) ∧ w'.cell? ⟨gh, 4, none⟩ = some (wv s.e) ∧ w'.cell? ⟨gh, 5, none⟩ = some (wv s.f) ∧ w'.cell? ⟨gh, 6, none⟩ = some (wv s.g) ∧ w'.cell? ⟨gh, 7, none⟩ = some (wv s.h) ∧ w'.cell? ⟨gh, 8, none⟩ = some (.int .i64 (M : Int)) ∧ w'.cell? ⟨gh, 9, none⟩ = some (.slice none 0 0) ∧ w'.cell? ⟨g9, 0, none⟩ = some (wv X1.a) ∧ w'.cell? ⟨g9, 1, none⟩ = some (wv X1.b) ∧ w'.cell? ⟨g9, 2, none⟩ = some (wv X1.c) ∧ w'.cell? ⟨g9, 3, none⟩ = some (wv X1.d) ∧ w'.cell? ⟨g9, 4, none⟩ = some (wv X1.e) ∧ w'.cell? ⟨g9, 5, none⟩ = some (wv X1.f) ∧ w'.cell? ⟨g9, 6, none⟩ = some (wv X1.g) ∧ w'.cell? ⟨g9, 7, none⟩ = some (wv X1.h) ∧ w'.cell? ⟨g9, 8, none⟩ = some (.int .i64 (K1 : Int)) ∧ w'.cell? ⟨g9, 9, none⟩ = some (.slice A9 0 c9) ∧ w'.cell? ⟨g10, 0, none⟩ = some (wv X1.a) ∧ w'.cell? ⟨g10, 1, none⟩ = some (wv X1.b) ∧ w'.cell? ⟨g10, 2, none⟩ = some (wv X1.c) ∧ w'.cell? ⟨g10, 3, none⟩ = some (wv X1.d) ∧ w'.cell? ⟨g10, 4, none⟩ = some (wv X1.e) ∧ w'.cell? ⟨g10, 5, none⟩ = some (wv X1.f) ∧ w'.cell? ⟨g10, 6, none⟩ = some (wv X1.g) ∧ w'.cell? ⟨g10, 7, none⟩ = some (wv X1.h) ∧ w'.cell? ⟨g12, 0, none⟩ = some (wv X2.a) ∧ w'.cell? ⟨g12, 1, none⟩ = some (wv X2.b) ∧ w'.cell? ⟨g12, 2, none⟩ = some (wv X2.c) ∧ w'.cell? ⟨g12, 3, none⟩ = some (wv X2.d) ∧ w'.cell? ⟨g12, 4, none⟩ = some (wv X2.e) ∧ w'.cell? ⟨g12, 5, none⟩ = some (wv X2.f) ∧ w'.cell? ⟨g12, 6, none⟩ = some (wv X2.g) ∧ w'.cell? ⟨g12, 7, none⟩ = some (wv X2.h) ∧ w'.cell? ⟨g12, 8, none⟩ = some (.int .i64 (K2 : Int)) ∧ w'.cell? ⟨g12, 9, none⟩ = some (.slice A12 r c12)) from fun w' h => by
    obtain ⟨p0, p1, p2, p3, p4, p5, p6, p7, p8, p9⟩ := cells10 (old_below GH8.out h (Nat.le_refl _))
    obtain ⟨q0, q1, q2, q3, q4, q5, q6, q7, q8, q9⟩ := cells10 (old_below G98.out h (Nat.le_refl _))
    obtain ⟨r0, r1, r2, r3, r4, r5, r6, r7⟩ := cells8 (old_below G108.out h (Nat.le_refl _))
    obtain ⟨s0, s1, s2, s3, s4, s5, s6, s7, s8, s9⟩ := cells10 (old_below G12.out h (Nat.le_refl _))
    exact ⟨h, p0, p1, p2, p3, p4, p5, p6, p7, p8, p9, q0, q1, q2, q3, q4, q5, q6, q7, q8, q9, r0, r1, r2, r3, r4, r5, r6, r7, s0, s1, s2, s3, s4, s5, s6, s7, s8, s9⟩)
  have e2 := HE2.out
  have e3 := HE3.out
  rw [HE4.out] at e2
  rw [HE5.out] at e3
  have e7 : ((K1 : Int) == (K1 : Int)) = true := by simp
  have e8 : ((K2 : Int) == (K2 : Int)) = true := by simp
  have e4 := HE4.out
  have e5 := HE5.out
  have e6 := HE1.out
  go_wp2_with fail
  go_region_held3 (fun w' => Below V8.heap.size V8 w' ∧ w'.cell? ⟨gh, 0, none⟩ = some (wv s.a) ∧ w'.cell? ⟨gh, 1, none⟩ = some (wv s.b) ∧ w'.cell? ⟨gh, 2, none⟩ = some (wv s.c) ∧ w'.cell? ⟨gh, 3, none⟩ = some (wv s.d) ∧ w'.cell? ⟨gh, 4, none⟩ = some (wv s.e) ∧ w'.cell? ⟨gh, 5, none⟩ = some (wv s.f) ∧ w'.cell? ⟨gh, 6, none⟩ = some (wv s.g) ∧ w'.cell? ⟨gh, 7, none⟩ = some (wv s.h) ∧ w'.cell? ⟨gh, 8, none⟩ = some (.int .i64 (M : Int)) ∧ w'.cell? ⟨gh, 9, none⟩ = some (.slice none 0 0) ∧ w'.cell? ⟨g9, 0, none⟩ = some (wv X1.a) ∧ w'.cell? ⟨g9, 1, none⟩ = some (wv X1.b) ∧ w'.cell? ⟨g9, 2, none⟩ = some (wv X1.c) ∧ w'.cell? ⟨g9, 3, none⟩ = some (wv X1.d) ∧ w'.cell? ⟨g9, 4, none⟩ = some (wv X1.e) ∧ w'.cell? ⟨g9, 5, none⟩ = some (wv X1.f) ∧ w'.cell? ⟨g9, 6, none⟩ = some (wv X1.g) ∧ w'.cell? ⟨g9, 7, none⟩ = some (wv X1.h) ∧ w'.cell? ⟨g9, 8, none⟩ = some (.int .i64 (K1 : Int)) ∧ w'.cell? ⟨g9, 9, none⟩ = some (.slice A9 0 c9) ∧ w'.cell? ⟨g10, 0, none⟩ = some (wv X1.a) ∧ w'.cell? ⟨g10, 1, none⟩ = some (wv X1.b) ∧ w'.cell? ⟨g10, 2, none⟩ = some (wv X1.c) ∧ w'.cell? ⟨g10, 3, none⟩ = some (wv X1.d) ∧ w'.cell? ⟨g10, 4, none⟩ = some (wv X1.e) ∧ w'.cell? ⟨g10, 5, none⟩ = some (wv X1.f) ∧ w'.cell? ⟨g10, 6, none⟩ = some (wv X1.g) ∧ w'.cell? ⟨g10, 7, none⟩ = some (wv X1.h) ∧ w'.cell? ⟨g12, 0, none⟩ = some (wv X2.a) ∧ w'.cell? ⟨g12, 1, none⟩ = some (wv X2.b) ∧ w'.cell? ⟨g12, 2, none⟩ = some (wv X2.c) ∧ w'.cell? ⟨g12, 3, none⟩ = some (wv X2.d) ∧ w'.cell? ⟨g12, 4, none⟩ = some (wv X2.e) ∧ w'.cell? ⟨g12, 5, none⟩ = some (wv X2.f) ∧ w'.cell? ⟨g12, 6, none⟩ = some (wv X2.g) ∧ w'.cell? ⟨g12, 7, none⟩ = some (wv X2.h) ∧ w'.cell? ⟨g12, 8, none⟩ = some (.int .i64 (K2 : Int)) ∧ w'.cell? ⟨g12, 9, none⟩ = some (.slice A12 r c12))
    (first | with_reducible exact KEEP8.out _ B0V8.out | with_reducible exact KEEP8.out _ BBa.out | with_reducible exact KEEP8.out _ BBb.out)
    (first
    | (go_at_call 23; (with_reducible refine (P4.out none _ ?_ ?_).mono ?_); (exact RBV8.out _ B0V8.out); (exact KBV8.out _ B0V8.out); rintro e wa ⟨⟨A2, c2, rfl, a1, a2, a3⟩, hb⟩; have BBa := Lib.hid (bel_call B0V8.out hb B0V8.out.size); have RA2 := Lib.hid a3; clear hb a1 a2 a3)
    | (go_at_call 16; (with_reducible refine (CS.out A12 A2 c12 c2 _ ?_ ?_).mono ?_); (exact RXV.out _ BBa.out); (exact RA2.out); rintro e wb ⟨rfl, hb⟩; have BBb := Lib.hid (bel_call BBa.out hb BBa.out.size); clear hb))
  all_goals
    go_wp2_with fail
    go_ret
    exact ⟨rfl, BV8.out.trans (BBb.out.mono BV8.out.size)⟩

theorem shaGoes_walk (s : St) (n : Int) (A : Option Addr) (l : List UInt8) (c : Nat) (W : World) (hn : 0 ≤ n ∧ n ≤ 65535) (hc : l.length ≤ c) (hr : Rd W W.heap.size A l) (hk : Ks W) :
    Calls Tryd.prog 9 #[s.v, .int .u16 n, .slice A l.length c] W fun e W' => e = .returned (.bool true) ∧ Below W.heap.size W W' := by
  by_cases h : l.length < 64 ∨ 500 < l.length
  · exact shaGoes_easy s n A l.length c W hk h
  · obtain ⟨m, rfl⟩ := Int.eq_ofNat_of_zero_le hn.1
    exact shaGoes_main s m A l c W (by omega) hc hr hk (by omega) (by omega)
end Go.Proofs.YtggbcjfcnphenaaDoor
