
/- sha.Put where there is room. -/
import Derived.Test.YtcfncbbdlbdbnaaDoorPut
namespace Go.Proofs.YtcfncbbdlbdbnaaDoor
open Go.RowKit

theorem Rd.set8 {w : World} {A : Option Addr} {l : List UInt8} {g : Nat} (h : Rd w w.heap.size A l) (s : St) (hne : ∀ p, A = some p → p.block ≠ g) : Rd (set8 w g s) (set8 w g s).heap.size A l := by
  intro h0
  obtain ⟨b, o, e, hb, hc⟩ := h h0
  have hbg : b ≠ g := hne _ e
  have hs : (Go.Proofs.YtcfncbbdlbdbnaaDoor.set8 w g s).heap[b]? = w.heap[b]? := set8_other s hbg
  refine ⟨b, o, e, ?_, fun j hj => ?_⟩
  · have hsz := (Below.set8 (Below.refl 0 w) (Nat.zero_le g) s).size
    omega
  · rw [World.cell?_of_block (w := w) (a := ⟨b, o + j, none⟩) hs]
    exact hc j hj

/-- a call's answer: a digest under way, the rest in a block of its own -/
def AnsHF (B : Nat) (W' : World) (e : Ending) (s : St) (N : Int) (l : List UInt8) : Prop := ∃ A c, e = .returned (hv s N (.slice A l.length c)) ∧ l.length ≤ c ∧ c ≤ 9223372036854775807 ∧ Rd W' W'.heap.size A l ∧ ∀ p, A = some p → B ≤ p.block

set_option maxRecDepth 100000 in
set_option maxHeartbeats 4000000 in
theorem put_fresh (s : St) (N : Nat) (A C : Option Addr) (l m : List UInt8) (c d : Nat) (w : World) (hl : l.length + m.length ≤ 1000000) (_hlc : l.length ≤ c) (_hmd : m.length ≤ d) (hr : Rd w w.heap.size A l) (hs : Rd w w.heap.size C m) (hk : Ks w) (hN : N + m.length ≤ 1125899906842624) :
    Calls Tryd.prog 49 #[hv s N (.slice A l.length c), .slice C m.length d] w fun e w' => AnsHF w.heap.size w' e (blks s (l ++ m)) ((N + m.length : Nat) : Int) (left (l ++ m)) ∧ Below w.heap.size w w' := by
  have HR := Lib.hid hr
  have HS := Lib.hid hs
  have HKK := Lib.hid hk
  obtain ⟨n, hn⟩ : ∃ n, n = l.length := ⟨_, rfl⟩
  obtain ⟨k, hk⟩ : ∃ k, k = m.length := ⟨_, rfl⟩
  have HN := Lib.hid hn
  have HK := Lib.hid hk
  have hlen : (l ++ m).length = n + k := by rw [List.length_append, hn, hk]
  have HLen := Lib.hid hlen
  have HJ := Lib.hid (fun W h1 h2 => join_any A C l m c d W (by omega) h1 h2)
  have HX := Lib.hid (left_length (l ++ m))
  rw [← hk] at hl hN _hmd HJ ⊢
  rw [← hn] at hl _hlc HJ ⊢
  rw [hlen] at HX
  clear hn hr hs hk hlen
  have HB := Lib.hid (fun A' c' W h1 h2 h3 h4 => blocks_any s A' (l ++ m) c' W (by rw [HLen.out]; omega) h1 h2 h3 h4)
  rw [HLen.out] at HB
  obtain ⟨X, hX⟩ : ∃ X, X = blks s (l ++ m) := ⟨_, rfl⟩
  rw [← hX] at HB ⊢
  clear hX
  obtain ⟨L, hL⟩ : ∃ L, L = left (l ++ m) := ⟨_, rfl⟩
  rw [← hL] at HB HX ⊢
  clear hL
  have hlt : (N : Int) ≤ 1125899906842624 - (k : Int) := by omega
  go_enter Tryd.func49, Tryd.ntmps49
  go_upto_region 3 with (fail)
  obtain ⟨q1, q2, q3, q4⟩ := alloc2 w (.cells (hcells s N (.slice A n c)) 78) (.cells (hcells S00 0 (.slice none 0 0)) 78)
  change Code.wp _ _ _ _ ((w.alloc (.cells (hcells s N (.slice A n c)) 78)).alloc (.cells (hcells S00 0 (.slice none 0 0)) 78))
  generalize (w.alloc (.cells (hcells s N (.slice A n c)) 78)).alloc (.cells (hcells S00 0 (.slice none 0 0)) 78) = w0 at *
  obtain ⟨e0, e1, e2, e3, e4, e5, e6, e7, e8, e9⟩ := cells10 (w := w0.drew) q1
  have hg0 : w.heap.size < w0.heap.size := by omega
  have hg1 : w.heap.size + 1 < w0.heap.size := by omega
  have Q1 := Lib.hid q1
  have Q2 := Lib.hid q2
  have Q4 := Lib.hid q4
  have HK0 := Lib.hid (HKK.out.below q4 HKK.out.1)
  have HR0 := Lib.hid ((HR.out.below q4 (Nat.le_refl _)).more q4.size)
  have HS0 := Lib.hid ((HS.out.below q4 (Nat.le_refl _)).more q4.size)
  clear q1 q2 q3 q4 HR HS HKK
  go_cut [5, 6] (fun v5 v6 wr => ∃ (g5 : Nat) (A' : Option Addr) (c' : Nat), v5 = .pointer (some ⟨g5, 0, none⟩) ∧ v6 = .slice A' ((n + k) % 64) c' ∧ w.heap.size + 1 < g5 ∧ (n + k) % 64 ≤ c' ∧ c' ≤ 9223372036854775807 ∧ Rd wr wr.heap.size A' L ∧ wr.heap[g5]? = some (.cells X.cells 76 (0, 0)) ∧ wr.heap[w.heap.size]? = some (.cells (hcells s N (.slice A n c)) 78 (0, 0)) ∧ wr.heap[w.heap.size + 1]? = some (.cells (hcells S00 0 (.slice none 0 0)) 78 (0, 0)) ∧ Below w.heap.size w wr ∧ w.heap.size + 1 < wr.heap.size)
  case first =>
    go_region_held3 (fun w' => w'.cell? ⟨w.heap.size, 0, none⟩ = some (wv s.a) ∧ w'.cell? ⟨w.heap.size, 1, none⟩ = some (wv s.b) ∧ w'.cell? ⟨w.heap.size, 2, none⟩ = some (wv s.c) ∧ w'.cell? ⟨w.heap.size, 3, none⟩ = some (wv s.d) ∧ w'.cell? ⟨w.heap.size, 4, none⟩ = some (wv s.e) ∧ w'.cell? ⟨w.heap.size, 5, none⟩ = some (wv s.f) ∧ w'.cell? ⟨w.heap.size, 6, none⟩ = some (wv s.g) ∧ w'.cell? ⟨w.heap.size, 7, none⟩ = some (wv s.h) ∧ w'.cell? ⟨w.heap.size, 8, none⟩ = some (.int .i64 (N : Int)) ∧ w'.cell? ⟨w.heap.size, 9, none⟩ = some (.slice A n c))
      (first
       | ((try dsimp only); go_split_ands; refine ⟨?_, ?_, ?_, ?_, ?_, ?_, ?_, ?_, ?_, ?_⟩ <;> with_reducible assumption)
       | ((try dsimp only); go_split_ands; refine ⟨?_, ?_, ?_, ?_, ?_, ?_, ?_, ?_, ?_, ?_⟩ <;> (with_reducible refine far1 ?_ ?_) <;> (first | (with_reducible assumption) | omega))
       | ((try dsimp only); go_split_ands; refine ⟨?_, ?_, ?_, ?_, ?_, ?_, ?_, ?_, ?_, ?_⟩ <;> (with_reducible refine far1d ?_ ?_) <;> (first | (with_reducible assumption) | omega))
       | ((try dsimp only); go_split_ands; refine ⟨?_, ?_, ?_, ?_, ?_, ?_, ?_, ?_, ?_, ?_⟩ <;> (with_reducible refine far8 ?_ ?_) <;> (first | (with_reducible assumption) | omega)))
      (first
      | (go_at_call 55; refine (HJ.out _ ?_ ?_).mono ?_; (first | exact HR0.out | exact Rd.alloc HR0.out _); (first | exact HS0.out | exact Rd.alloc HS0.out _); rintro e w1 ⟨⟨A1, c1, rfl, hc1, hc2, hr1, hfr⟩, hb1⟩; have HFR := Lib.hid hfr; have HR1 := Lib.hid hr1; have KS1 := Lib.hid (Ks.call (by first | exact HK0.out | exact Ks.alloc HK0.out _) hb1); have BB1 := Lib.hid (bel_call (B := w.heap.size) (w := w) (by first | exact Q4.out.drew | exact (Q4.out.alloc (Nat.le_of_lt hg0) _).drew) hb1 (by first | exact Nat.le_of_lt hg0 | (simp only [World.size_alloc, size_drew]; omega))); have RR1 := Lib.hid (old_below (g := w.heap.size + 1) (by first | exact Q2.out | exact old_alloc Q2.out _) hb1 (Nat.le_refl _)); have hz1 := hb1.size; (try simp only [World.size_alloc, size_drew] at hz1); have hq1 := old_below (g := w.heap.size) (by first | exact Q1.out | exact old_alloc Q1.out _) hb1 (Nat.le_refl _); have QQ1 := Lib.hid hq1; obtain ⟨u0, u1, u2, u3, u4, u5, u6, u7, u8, u9⟩ := cells10 hq1; (try (have hq2 := old_below (g := w0.heap.size) (by exact heap_alloc_new w0 (.cells Z8 76)) hb1 (Nat.le_refl _); have ZZ := Lib.hid hq2; clear hq2)); clear hb1 hq1 hr1 hfr)
      | (go_at_call 54; refine (HB.out A1 c1 _ hc1 hc2 ?_ ?_).mono ?_; (first | exact HR1.out | exact Rd.alloc HR1.out _); (first | exact KS1.out | exact Ks.alloc KS1.out _); rintro e w2 ⟨⟨A2, c2, rfl, hd1, hd2, hr2, hab⟩, hb2⟩; have HAB := Lib.hid hab; have HR2 := Lib.hid hr2; have BB2 := Lib.hid (bel_call (B := w.heap.size) (w := w) (by first | exact BB1.out | exact BB1.out.alloc (by omega) _) hb2 (by first | omega | (simp only [World.size_alloc]; omega))); have RR2 := Lib.hid (old_below (g := w.heap.size + 1) (by first | exact RR1.out | exact old_alloc RR1.out _) hb2 (Nat.le_refl _)); have hz2 := hb2.size; (try simp only [World.size_alloc] at hz2); have hq2 := old_below (g := w.heap.size) (by first | exact QQ1.out | exact old_alloc QQ1.out _) hb2 (Nat.le_refl _); have QQ2 := Lib.hid hq2; obtain ⟨v0, v1, v2, v3, v4, v5, v6, v7, v8, v9⟩ := cells10 hq2; (first | (have hq3 := old_below (g := w0.heap.size) (ZZ.out) hb2 (Nat.le_refl _); have ZZ2 := Lib.hid hq3; obtain ⟨⟨z0, z1, z2, z3, z4, z5, z6, z7⟩, y0, y1, y2, y3, y4, y5, y6, y7⟩ := zeros8 hq3; clear hq3) | (have hq3 := old_below (g := w1.heap.size) (by exact heap_alloc_new w1 (.cells Z8 76)) hb2 (Nat.le_refl _); have ZZ2 := Lib.hid hq3; obtain ⟨⟨z0, z1, z2, z3, z4, z5, z6, z7⟩, y0, y1, y2, y3, y4, y5, y6, y7⟩ := zeros8 hq3; clear hq3) | skip); clear hb2 hq2 hr2 hab))
    · go_wp2_with fail
      go_meet
      case rel => exact ⟨w2.heap.size, A2, c2, rfl, rfl, by omega, hd1, hd2, Rd.alloc HR2.out _, heap_alloc_new w2 _, old_alloc QQ2.out _, old_alloc RR2.out _, BB2.out.alloc (by omega) _, by rw [World.size_alloc]; omega⟩
    · go_wp2_with fail
      go_meet
      case rel =>
        refine ⟨w1.heap.size, A2, c2, rfl, rfl, by omega, hd1, hd2, ?_⟩
        exact ⟨Rd.set8 HR2.out X (fun p hp => by
            obtain ⟨q, hq, hqp⟩ := HAB.out p hp
            have := (HFR.out q hq).2
            omega), set8_same X ZZ2.out, (set8_other X (by omega)).trans QQ2.out, (set8_other X (by omega)).trans RR2.out, Below.set8 BB2.out (by omega) X, Nat.lt_of_lt_of_le (show w.heap.size + 1 < w2.heap.size by omega) (Below.set8 (Below.refl 0 w2) (Nat.zero_le _) X).size⟩
    · go_wp2_with fail
      go_meet
      case rel =>
        refine ⟨w0.heap.size, A2, c2, rfl, rfl, by omega, hd1, hd2, ?_⟩
        exact ⟨Rd.set8 HR2.out X (fun p hp => by
            obtain ⟨q, hq, hqp⟩ := HAB.out p hp
            have := (HFR.out q hq).1
            simp only [World.size_alloc, size_drew] at this
            omega), set8_same X ZZ2.out, (set8_other X (by omega)).trans QQ2.out, (set8_other X (by omega)).trans RR2.out, Below.set8 BB2.out (by omega) X, Nat.lt_of_lt_of_le (show w.heap.size + 1 < w2.heap.size by omega) (Below.set8 (Below.refl 0 w2) (Nat.zero_le _) X).size⟩
  case rest =>
    obtain ⟨g5, A', c', hv5, hv6, hg5, hc1, hc2, hrd, hG, hS, hZ, hB, hsz⟩ := hcut
    subst hv5 hv6
    have HO := Lib.hid (fun W h => own_any A' L c' W (by rw [HX.out]; omega) h)
    have ho := HO.out
    rw [HX.out] at ho
    have HOO := Lib.hid ho
    clear ho HO e0 e1 e2 e3 e4 e5 e6 e7 e8 e9
    obtain ⟨e0, e1, e2, e3, e4, e5, e6, e7⟩ := cells8 (w := wc.drew) hG
    obtain ⟨-, -, -, -, -, -, -, -, e8, -⟩ := cells10 (w := wc.drew) hS
    have HRD := Lib.hid hrd
    have HG := Lib.hid hG
    have HS := Lib.hid hS
    have HZ := Lib.hid hZ
    have HBB := Lib.hid hB
    clear hrd hG hS hZ hB
    have hN1 : (0 : Int) ≤ (N : Int) := Int.natCast_nonneg _
    have hN2 : (N : Int) + (k : Int) ≤ 1125899906842624 := by omega
    have hw : IntKind.i64.wrap ((N : Int) + (k : Int)) = (N : Int) + (k : Int) := IntWalk.i64_in _ (by omega)
    have HEN := Lib.hid (show (N : Int) + (k : Int) = ((N + k : Nat) : Int) by omega)
    go_wp2_with fail
    go_region_held3 (fun w' => w'.cell? ⟨g5, 0, none⟩ = some (wv X.a) ∧ w'.cell? ⟨g5, 1, none⟩ = some (wv X.b) ∧ w'.cell? ⟨g5, 2, none⟩ = some (wv X.c) ∧ w'.cell? ⟨g5, 3, none⟩ = some (wv X.d) ∧ w'.cell? ⟨g5, 4, none⟩ = some (wv X.e) ∧ w'.cell? ⟨g5, 5, none⟩ = some (wv X.f) ∧ w'.cell? ⟨g5, 6, none⟩ = some (wv X.g) ∧ w'.cell? ⟨g5, 7, none⟩ = some (wv X.h) ∧ w'.cell? ⟨w.heap.size, 8, none⟩ = some (.int .i64 (N : Int)))
      (first
       | ((try dsimp only); go_split_ands; refine ⟨?_, ?_, ?_, ?_, ?_, ?_, ?_, ?_, ?_⟩ <;> with_reducible assumption)
       | ((try dsimp only); go_split_ands; refine ⟨?_, ?_, ?_, ?_, ?_, ?_, ?_, ?_, ?_⟩ <;> (with_reducible refine far10 ?_ ?_) <;> (first | (with_reducible assumption) | omega)))
      (first
      | (go_at_call 57; refine (HOO.out _ ?_).mono ?_; (exact HRD.out); rintro e w1 ⟨⟨A1, c1, rfl, hd1, hd2, hr1, hfr⟩, hb1⟩; have HR1 := Lib.hid hr1; have HFR := Lib.hid hfr; have BB1 := Lib.hid (bel_call (B := w.heap.size) (w := w) HBB.out.drew hb1 (by exact Nat.le_of_lt (Nat.lt_of_succ_lt hsz))); have hq1 := old_below (g := g5) (by exact HG.out) hb1 (Nat.le_refl _); obtain ⟨v0, v1, v2, v3, v4, v5, v6, v7⟩ := cells8 hq1; have hq3 := old_below (g := w.heap.size) (by exact HS.out) hb1 (Nat.le_refl _); obtain ⟨-, -, -, -, -, -, -, -, v8, -⟩ := cells10 hq3; have hq2 := old_below (g := w.heap.size + 1) (by exact HZ.out) hb1 (Nat.le_refl _); obtain ⟨z0, z1, z2, z3, z4, z5, z6, z7, z8, z9⟩ := cells10 hq2; obtain ⟨y0, y1, y2, y3, y4, y5, y6, y7, y8, y9⟩ := frozen10 hq2; have QQ2 := Lib.hid hq2; clear hb1 hq1 hq2 hq3 hr1 hfr))
    have hA1 : ∀ p, A1 = some p → p.block ≠ w.heap.size + 1 := fun p hp => by
      have := (HFR.out p hp).1
      have h2 : wc.drew.heap.size = wc.heap.size := rfl
      omega
    obtain ⟨r, hr⟩ : ∃ r, r = (n + k) % 64 := ⟨_, rfl⟩
    have HLr := Lib.hid (HX.out.trans hr.symm)
    rw [← hr] at hd1
    rw [← hr]
    rw [← HLr.out] at hd1
    change Exit.then _ _ _ _ (setH w1 (w.heap.size + 1) X ((N : Int) + (k : Int)) (.slice A1 r c1))
    have g1 := setH_same X ((N : Int) + (k : Int)) (.slice A1 r c1) QQ2.out
    have g3 := Below.setH BB1.out (Nat.le_succ w.heap.size) X ((N : Int) + (k : Int)) (.slice A1 r c1)
    have g5' := Rd.setH HR1.out X ((N : Int) + (k : Int)) (.slice A1 r c1) hA1
    generalize setH w1 (w.heap.size + 1) X ((N : Int) + (k : Int)) (.slice A1 r c1) = W3 at *
    have G1 := Lib.hid g1
    have G3 := Lib.hid g3
    have G5 := Lib.hid g5'
    clear g1 g3 g5' hr
    go_wp2_with fail
    (try simp only [Exit.inBlock, Exit.then])
    refine bodyPost_ret (retH rfl _ _ (w.heap.size + 1) X ((N : Int) + (k : Int)) (.slice A1 r c1) rfl G1.out) rfl ?_
    exact ⟨⟨A1, c1, by rw [HLr.out, HEN.out], hd1, hd2, G5.out, fun p hp => by
      have := (HFR.out p hp).1
      have h2 : wc.drew.heap.size = wc.heap.size := rfl
      omega⟩, G3.out⟩
theorem put_any (s : St) (N : Nat) (A C : Option Addr) (l m : List UInt8) (c d : Nat) (w : World) (hl : l.length + m.length ≤ 1000000) (hlc : l.length ≤ c) (hmd : m.length ≤ d) (hr : Rd w w.heap.size A l) (hs : Rd w w.heap.size C m) (hk : Ks w) (hN : N + m.length ≤ 1125899906842624) :
    Calls Tryd.prog 49 #[hv s N (.slice A l.length c), .slice C m.length d] w fun e w' => AnsH w' e (blks s (l ++ m)) ((N + m.length : Nat) : Int) (left (l ++ m)) ∧ Below w.heap.size w w' :=
  (put_fresh s N A C l m c d w hl hlc hmd hr hs hk hN).mono fun _ _ ⟨⟨A', c', h1, h2, h3, h4, _⟩, h5⟩ => ⟨⟨A', c', h1, h2, h3, h4⟩, h5⟩
end Go.Proofs.YtcfncbbdlbdbnaaDoor
