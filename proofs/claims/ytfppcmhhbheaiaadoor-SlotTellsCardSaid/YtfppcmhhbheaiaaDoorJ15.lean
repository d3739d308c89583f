
/- sha.Sum, sha.Of. -/
import Derived.Test.YtfppcmhhbheaiaaDoorJ14
import Derived.Laws.MakeOwn
namespace Go.Proofs.YtfppcmhhbheaiaaDoor
open Go.RowKit

/-- a call's answer: one slice that reads as l -/
def AnsB (W' : World) (e : Ending) (l : List UInt8) (n : Nat) : Prop := ∃ A c, e = .returned (.slice A n c) ∧ n ≤ c ∧ c ≤ 9223372036854775807 ∧ Rd W' W'.heap.size A l
set_option maxRecDepth 100000 in
theorem newsL (w : World) (l : List UInt8) (C : Array Value) (hC : C = (cs l).toArray) : ∀ j u, (cs l)[j]? = some u → (w.alloc (.cells C 5)).cell? ((⟨w.heap.size, 0, none⟩ : Addr).add j) = some u := by
  subst hC
  intro j u hu
  rw [Addr.add_lit, Nat.zero_add, cell_of_row _ _ _ _ _ _ (heap_alloc_new w _)]
  simpa using hu
set_option maxRecDepth 100000 in
theorem word8_vals (x : UInt32) : (#[.int .u8 ((x.toNat : Int) / 16777216 % 256), .int .u8 ((x.toNat : Int) / 65536 % 256), .int .u8 ((x.toNat : Int) / 256 % 256), .int .u8 ((x.toNat : Int) % 256)] : Array Value) = (cs (word8 x)).toArray := by
  have h := x.toNat_lt
  unfold cs word8
  simp only [List.map_cons, List.map_nil, UInt8.toNat_ofNat']
  have e1 : (((x.toNat / 16777216) % 2 ^ 8 : Nat) : Int) = (x.toNat : Int) / 16777216 % 256 := by omega
  have e2 : (((x.toNat / 65536) % 2 ^ 8 : Nat) : Int) = (x.toNat : Int) / 65536 % 256 := by omega
  have e3 : (((x.toNat / 256) % 2 ^ 8 : Nat) : Int) = (x.toNat : Int) / 256 % 256 := by omega
  have e4 : (((x.toNat) % 2 ^ 8 : Nat) : Int) = (x.toNat : Int) % 256 := by omega
  rw [e1, e2, e3, e4]
set_option maxRecDepth 100000 in
theorem list_length (s : St) : s.list.length = 8 := rfl
set_option maxRecDepth 100000 in
theorem bytes_snoc (s : St) (k : Nat) (h : k < 8) : (s.list.take (k + 1)).flatMap word8 = (s.list.take k).flatMap word8 ++ word8 (s.at k) := by
  have e : s.list.take (k + 1) = s.list.take k ++ [s.at k] := by
    rw [List.take_succ_eq_append_getElem (by rw [list_length]; exact h)]
    unfold St.at
    rw [List.getD_eq_getElem?_getD, List.getElem?_eq_getElem (by rw [list_length]; exact h)]
    rfl
  rw [e, List.flatMap_append]
  simp
set_option maxRecDepth 100000 in
theorem word8_length (x : UInt32) : (word8 x).length = 4 := rfl
set_option maxRecDepth 100000 in
theorem take_bytes_length (s : St) (k : Nat) (h : k ≤ 8) : ((s.list.take k).flatMap word8).length = 4 * k := by
  rw [List.length_flatMap]
  have : (List.map (fun x => (word8 x).length) (s.list.take k)) = List.replicate k 4 := by
    rw [List.eq_replicate_iff]
    constructor
    · rw [List.length_map, List.length_take, list_length]; omega
    · intro b hb
      obtain ⟨x, _, rfl⟩ := List.mem_map.1 hb
      rfl
  rw [this]
  simp
  omega
set_option maxRecDepth 100000 in
theorem idx8 (s : St) (k : Nat) (h : k < 8) (W : World) : (Instr.index 63 s.v (.int .i64 (k : Int))).run Tryd.prog W = .ok (wv (s.at k)) W := by
  match k, h with
  | 0, _ => rfl | 1, _ => rfl | 2, _ => rfl | 3, _ => rfl | 4, _ => rfl | 5, _ => rfl | 6, _ => rfl | 7, _ => rfl
  | k + 8, h => exact absurd h (by omega)

set_option maxRecDepth 100000 in
theorem own_bytes {w : World} {base : Nat} {v : Value} {X : St} (h : Ow w base v ((X.list.take 8).flatMap word8)) : ∃ A c, v = .slice A 32 c ∧ 32 ≤ c ∧ c ≤ 9223372036854775807 ∧ Rd w w.heap.size A X.bytes := by
  have hS := h.form
  rw [take_bytes_length X 8 (by omega)] at hS
  exact hS
set_option maxRecDepth 100000 in
set_option maxHeartbeats 4000000 in
theorem sum_any (s : St) (N : Nat) (A : Option Addr) (l : List UInt8) (c : Nat) (w : World) (hl : l.length ≤ 1000) (_hlc : l.length ≤ c) (hr : Rd w w.heap.size A l) (hk : Ks w) (hN : N ≤ 1125899906842624) :
    Calls Tryd.prog 42 #[hv s N (.slice A l.length c)] w fun e w' => AnsB w' e (sumF s l N) 32 ∧ Below w.heap.size w w' := by
  have HR := Lib.hid hr
  have HKK := Lib.hid hk
  obtain ⟨n, hn⟩ : ∃ n, n = l.length := ⟨_, rfl⟩
  obtain ⟨P, hP⟩ : ∃ P, P = padL l.length N := ⟨_, rfl⟩
  obtain ⟨k, hk⟩ : ∃ k, k = P.length := ⟨_, rfl⟩
  have hk2 : k ≤ 100 := by rw [hk, hP, padL_length]; unfold padZ; omega
  have hlen : (l ++ P).length = n + k := by rw [List.length_append, hn, hk]
  have HLen := Lib.hid hlen
  have HE := Lib.hid (fun W => ending_any l.length N W hl hN)
  have HJ := Lib.hid (fun C d W h1 h2 => join_any A C l P c d W (by omega) h1 h2)
  have HB := Lib.hid (fun A' c' W h1 h2 h3 h4 => blocks_any s A' (l ++ P) c' W (by rw [HLen.out]; omega) h1 h2 h3 h4)
  rw [HLen.out] at HB
  rw [← hP, ← hk] at HE
  rw [← hk] at HJ
  rw [← hn] at hl _hlc HJ HE ⊢
  obtain ⟨X, hX⟩ : ∃ X, X = blks s (l ++ P) := ⟨_, rfl⟩
  have HSum := Lib.hid (show sumF s l N = X.bytes by unfold sumF; rw [hX, hP])
  rw [HSum.out]
  rw [← hX] at HB
  clear hn hr hk hlen hX hP
  go_enter Tryd.func42, Tryd.ntmps42
  go_upto_region 1 with (fail)
  have q1 := heap_alloc_new w (.cells (hcells s N (.slice A n c)) 65)
  have q4 : Below w.heap.size w (w.alloc (.cells (hcells s N (.slice A n c)) 65)) := (Below.refl _ _).alloc (Nat.le_refl _) _
  have q3 : (w.alloc (.cells (hcells s N (.slice A n c)) 65)).heap.size = w.heap.size + 1 := World.size_alloc _ _
  change Code.wp _ _ _ _ (w.alloc (.cells (hcells s N (.slice A n c)) 65))
  generalize w.alloc (.cells (hcells s N (.slice A n c)) 65) = w0 at *
  obtain ⟨e0, e1, e2, e3, e4, e5, e6, e7, e8, e9⟩ := cells10 (w := w0.drew) q1
  have hg0 : w.heap.size < w0.heap.size := by omega
  have Q1 := Lib.hid q1
  have Q4 := Lib.hid q4
  have HK0 := Lib.hid (HKK.out.below q4 HKK.out.1)
  have HR0 := Lib.hid ((HR.out.below q4 (Nat.le_refl _)).more q4.size)
  clear q1 q3 q4 HR HKK
  go_cut [3] (fun v3 wr => ∃ (g3 : Nat), v3 = .pointer (some ⟨g3, 0, none⟩) ∧ wr.heap[g3]? = some (.cells X.cells 63 (0, 0)) ∧ Below w.heap.size w wr)
  case first =>
    go_region_held3 (fun w' => w'.cell? ⟨w.heap.size, 0, none⟩ = some (wv s.a) ∧ w'.cell? ⟨w.heap.size, 1, none⟩ = some (wv s.b) ∧ w'.cell? ⟨w.heap.size, 2, none⟩ = some (wv s.c) ∧ w'.cell? ⟨w.heap.size, 3, none⟩ = some (wv s.d) ∧ w'.cell? ⟨w.heap.size, 4, none⟩ = some (wv s.e) ∧ w'.cell? ⟨w.heap.size, 5, none⟩ = some (wv s.f) ∧ w'.cell? ⟨w.heap.size, 6, none⟩ = some (wv s.g) ∧ w'.cell? ⟨w.heap.size, 7, none⟩ = some (wv s.h) ∧ w'.cell? ⟨w.heap.size, 8, none⟩ = some (.int .i64 (N : Int)) ∧ w'.cell? ⟨w.heap.size, 9, none⟩ = some (.slice A n c))
      (first
       | ((try dsimp only); go_split_ands; refine ⟨?_, ?_, ?_, ?_, ?_, ?_, ?_, ?_, ?_, ?_⟩ <;> with_reducible assumption)
       | ((try dsimp only); go_split_ands; refine ⟨?_, ?_, ?_, ?_, ?_, ?_, ?_, ?_, ?_, ?_⟩ <;> (with_reducible refine far1 ?_ ?_) <;> (first | (with_reducible assumption) | omega))
       | ((try dsimp only); go_split_ands; refine ⟨?_, ?_, ?_, ?_, ?_, ?_, ?_, ?_, ?_, ?_⟩ <;> (with_reducible refine far1d ?_ ?_) <;> (first | (with_reducible assumption) | omega))
       | ((try dsimp only); go_split_ands; refine ⟨?_, ?_, ?_, ?_, ?_, ?_, ?_, ?_, ?_, ?_⟩ <;> (with_reducible refine far8 ?_ ?_) <;> (first | (with_reducible assumption) | omega)))
      (first
      | (go_at_call 48; refine (HE.out _).mono ?_; rintro e wE ⟨⟨AE, cE, rfl, hcE1, hcE2, hrE, hfrE⟩, hbE⟩; have HRE := Lib.hid hrE; have HRLE := Lib.hid (Rd.more (Rd.below (by first | exact HR0.out | exact Rd.alloc HR0.out _) hbE (Nat.le_refl _)) hbE.size); have KSE := Lib.hid (Ks.call (by first | exact HK0.out | exact Ks.alloc HK0.out _) hbE); have BBE := Lib.hid (bel_call (B := w.heap.size) (w := w) (by first | exact Q4.out.drew | exact (Q4.out.alloc (Nat.le_of_lt hg0) _).drew) hbE (by first | exact Nat.le_of_lt hg0 | (simp only [World.size_alloc, size_drew]; omega))); have hzE := hbE.size; (try simp only [World.size_alloc, size_drew] at hzE); have hqE := old_below (g := w.heap.size) (by first | exact Q1.out | exact old_alloc Q1.out _) hbE (Nat.le_refl _); have QQE := Lib.hid hqE; obtain ⟨t0, t1, t2, t3, t4, t5, t6, t7, t8, t9⟩ := cells10 hqE; (try (have hq2 := old_below (g := w0.heap.size) (by exact heap_alloc_new w0 (.cells Z8 63)) hbE (Nat.le_refl _); have ZZE := Lib.hid hq2; clear hq2)); clear hbE hqE hrE hfrE)
      | (go_at_call 47; refine (HJ.out AE cE _ ?_ ?_).mono ?_; (first | exact HRLE.out | exact Rd.alloc HRLE.out _); (first | exact HRE.out | exact Rd.alloc HRE.out _); rintro e w1 ⟨⟨A1, c1, rfl, hc1, hc2, hr1, hfr⟩, hb1⟩; have HR1 := Lib.hid hr1; have KS1 := Lib.hid (Ks.call (by first | exact KSE.out | exact Ks.alloc KSE.out _) hb1); have BB1 := Lib.hid (bel_call (B := w.heap.size) (w := w) (by first | exact BBE.out | exact BBE.out.alloc (by omega) _) hb1 (by first | omega | (simp only [World.size_alloc]; omega))); have hz1 := hb1.size; (try simp only [World.size_alloc] at hz1); have hq1 := old_below (g := w.heap.size) (by first | exact QQE.out | exact old_alloc QQE.out _) hb1 (Nat.le_refl _); have QQ1 := Lib.hid hq1; obtain ⟨u0, u1, u2, u3, u4, u5, u6, u7, u8, u9⟩ := cells10 hq1; (first | (have hq2 := old_below (g := w0.heap.size) (by exact ZZE.out) hb1 (Nat.le_refl _); have ZZ := Lib.hid hq2; clear hq2) | (have hq2 := old_below (g := wE.heap.size) (by exact heap_alloc_new wE (.cells Z8 63)) hb1 (Nat.le_refl _); have ZZ := Lib.hid hq2; clear hq2) | skip); clear hb1 hq1 hr1 hfr)
      | (go_at_call 46; refine (HB.out A1 c1 _ hc1 hc2 ?_ ?_).mono ?_; (first | exact HR1.out | exact Rd.alloc HR1.out _); (first | exact KS1.out | exact Ks.alloc KS1.out _); rintro e w2 ⟨⟨A2, c2, rfl, hd1, hd2, hr2, hab⟩, hb2⟩; have BB2 := Lib.hid (bel_call (B := w.heap.size) (w := w) (by first | exact BB1.out | exact BB1.out.alloc (by omega) _) hb2 (by first | omega | (simp only [World.size_alloc]; omega))); have hz2 := hb2.size; (try simp only [World.size_alloc] at hz2); have hq2 := old_below (g := w.heap.size) (by first | exact QQ1.out | exact old_alloc QQ1.out _) hb2 (Nat.le_refl _); obtain ⟨v0, v1, v2, v3, v4, v5, v6, v7, v8, v9⟩ := cells10 hq2; (first | (have hq3 := old_below (g := w0.heap.size) (by exact ZZ.out) hb2 (Nat.le_refl _); have ZZ2 := Lib.hid hq3; obtain ⟨⟨z0, z1, z2, z3, z4, z5, z6, z7⟩, y0, y1, y2, y3, y4, y5, y6, y7⟩ := zeros8 hq3; clear hq3) | (have hq3 := old_below (g := wE.heap.size) (by exact ZZ.out) hb2 (Nat.le_refl _); have ZZ2 := Lib.hid hq3; obtain ⟨⟨z0, z1, z2, z3, z4, z5, z6, z7⟩, y0, y1, y2, y3, y4, y5, y6, y7⟩ := zeros8 hq3; clear hq3) | (have hq3 := old_below (g := w1.heap.size) (by exact heap_alloc_new w1 (.cells Z8 63)) hb2 (Nat.le_refl _); have ZZ2 := Lib.hid hq3; obtain ⟨⟨z0, z1, z2, z3, z4, z5, z6, z7⟩, y0, y1, y2, y3, y4, y5, y6, y7⟩ := zeros8 hq3; clear hq3) | skip); clear hb2 hq2 hr2 hab))
    · go_wp2_with fail
      go_meet
      case rel => exact ⟨w2.heap.size, rfl, heap_alloc_new w2 _, BB2.out.alloc (by omega) _⟩
    · go_wp2_with fail
      go_meet
      case rel =>
        refine ⟨w1.heap.size, rfl, ?_⟩
        exact ⟨set8_same X ZZ2.out, Below.set8 BB2.out (by omega) X⟩
    · go_wp2_with fail
      go_meet
      case rel =>
        refine ⟨wE.heap.size, rfl, ?_⟩
        exact ⟨set8_same X ZZ2.out, Below.set8 BB2.out (by omega) X⟩
    · go_wp2_with fail
      go_meet
      case rel =>
        refine ⟨w0.heap.size, rfl, ?_⟩
        exact ⟨set8_same X ZZ2.out, Below.set8 BB2.out (by omega) X⟩
  case rest =>
    obtain ⟨g3, hv3, hG, hB⟩ := hcut
    subst hv3
    have HBB := Lib.hid hB
    clear hB e0 e1 e2 e3 e4 e5 e6 e7 e8 e9
    obtain ⟨i0, hi, hz0, hz1, hz2⟩ := info_parts info5
    obtain ⟨w3, hw3⟩ : ∃ w3, w3 = wc := ⟨_, rfl⟩
    rw [← hw3] at hG HBB
    rw [← hw3]
    clear hw3
    have HG := Lib.hid hG
    clear hG
    go_wp2_with (first
      | (at_make; refine wpList_make_own w3 rfl _ _ 22 rfl w3.heap.size 5 i0 (.int .u8 0) 1 Tryd.underlying22 hi hz0 hz1 _ _ _ 32 rfl rfl (by omega) (by rw [hz2]; omega) (by unfold maxLen; omega) (Nat.le_refl _) ?_; intro w4 hown hgrow; have HO := Lib.hid hown; have hb4 : Below w3.heap.size w3 w4 := (Below.refl _ _).grown hgrow (Nat.le_refl _) (by intro k h; cases h); have HB4 := Lib.hid hb4; have hg4 := old_below HG.out hb4 (Nat.le_refl _); have HG4 := Lib.hid hg4; clear hown hgrow hb4 hg4)
      | (refine load8 w4 (.tmp 3) g3 X HG4.out rfl rfl rfl ?_))
    go_loopw [5, 25] (fun v i wr => ∃ k : Nat, k ≤ 8 ∧ i = .int .i64 k ∧ Ow wr w3.heap.size v ((X.list.take k).flatMap word8) ∧ Below w3.heap.size w3 wr) (fun _ i _ => 8 - (intOf i).toNat)
    case atStart => exact ⟨0, by omega, rfl, HO.out, HB4.out⟩
    case round =>
      clear HO HB4 HG4
      obtain ⟨k, hk, rfl, hown, hbel⟩ := hrel
      have HO := Lib.hid hown
      have HB := Lib.hid hbel
      clear hown hbel
      by_cases hlt : k < 8
      · have hidx := idx8 X k hlt
        have HN := Lib.hid (bytes_snoc X k hlt)
        have HL := Lib.hid (show ((X.list.take k).flatMap word8).length ≤ 32 by rw [take_bytes_length X k hk]; omega)
        have hsz := HB.out.size
        generalize X.at k = x at *
        go_wp2_with (at_builtin; (refine wpList_app rfl _ (.tmp 28) (.tmp 40) rfl w3.heap.size _ _ (word8 x) rfl (by exact HO.out.alloc _) ⟨_, 0, none⟩ 4 _ rfl rfl (by exact newsL _ _ _ (word8_vals x)) (by rw [word8_length]; have := HL.out; omega) (by exact le_alloc hsz _) ?_); intro v2 w2 hown2 hgrow2; have HB2 := Lib.hid (Ow.below (w0 := w3) (by exact HO.out.alloc _) (by exact HB.out.alloc hsz _) hgrow2 (by exact le_alloc hsz _)); rw [← HN.out] at hown2; have HW2 := Lib.hid hown2; clear hgrow2 hown2)
        go_roundw
        case rel => exact ⟨k + 1, by omega, by go_num, HW2.out, HB2.out⟩
        case measure => simp [intOf]; omega
      · have hk8 : k = 8 := by omega
        rw [hk8] at HO
        have HS := Lib.hid (own_bytes HO.out)
        clear hk8
        go_wp2
        go_ret
        obtain ⟨A', c', e', h1, h2, h3⟩ := HS.out
        exact ⟨⟨A', c', by rw [← e']; rfl, h1, h2, h3⟩, HBB.out.trans (HB.out.mono HBB.out.size)⟩
end Go.Proofs.YtfppcmhhbheaiaaDoor
/- sha.Of, sha.Key, sha.Right. -/

namespace Go.Proofs.YtfppcmhhbheaiaaDoor
open Go.RowKit

set_option maxRecDepth 100000 in
theorem put_new (C : Option Addr) (m : List UInt8) (d : Nat) (w : World) (hl : m.length ≤ 100000) (hmd : m.length ≤ d) (hs : Rd w w.heap.size C m) (hk : Ks w) :
    Calls Tryd.prog 43 #[hv h0 0 (.slice none 0 0), .slice C m.length d] w fun e w' => AnsH w' e (blks h0 m) (m.length : Int) (left m) ∧ Below w.heap.size w w' := by
  have h := put_any h0 0 none C [] m 0 d w (by simpa using (by omega : m.length ≤ 1000000)) (by simp) hmd Rd.nil hs hk (by omega)
  rw [List.nil_append, Nat.zero_add] at h
  exact h
set_option maxRecDepth 100000 in
theorem left_small (l : List UInt8) : (left l).length ≤ 63 := by rw [left_length]; omega

set_option maxRecDepth 100000 in
theorem of_any (A : Option Addr) (l : List UInt8) (c : Nat) (w : World) (hl : l.length ≤ 100000) (hc : l.length ≤ c) (hr : Rd w w.heap.size A l) (hk : Ks w) :
    Calls Tryd.prog 37 #[.slice A l.length c] w fun e w' => AnsB w' e (ofF l) 32 ∧ Below w.heap.size w w' := by
  have HR := Lib.hid hr
  have HK := Lib.hid hk
  have HP := Lib.hid (fun W h1 h2 => put_new A l c W hl hc h1 h2)
  have HS := Lib.hid (fun A' c' W h1 h2 h3 => sum_any (blks h0 l) l.length A' (left l) c' W (by have := left_small l; omega) h1 h2 h3 (by omega))
  obtain ⟨n, hn⟩ : ∃ n, n = l.length := ⟨_, rfl⟩
  obtain ⟨r, hr2⟩ : ∃ r, r = (left l).length := ⟨_, rfl⟩
  have HO := Lib.hid (show sumF (blks h0 l) (left l) l.length = ofF l from rfl)
  rw [HO.out] at HS
  rw [← hr2, ← hn] at HS
  rw [← hn] at HP
  rw [← hn]
  have HRR := Lib.hid hr2
  clear hr hk hn hr2 hl hc
  go_enter Tryd.func37, Tryd.ntmps37
  go_wp2_with fail
  refine (new_any _).mono ?_
  rintro e w1 ⟨rfl, hb1⟩
  have HB1 := Lib.hid hb1
  clear hb1
  go_wp2_with fail
  refine (HP.out _ ((HR.out.below HB1.out (Nat.le_refl _)).more HB1.out.size) (HK.out.call HB1.out)).mono ?_
  rintro e w2 ⟨⟨A2, c2, rfl, h1, h2, h3⟩, hb2⟩
  have HB2 := Lib.hid (HB1.out.trans (hb2.mono HB1.out.size))
  have HK2 := Lib.hid ((HK.out.call HB1.out).call hb2)
  have H3 := Lib.hid h3
  rw [← HRR.out] at h1 ⊢
  clear hb2 h3 HB1 HR HK
  go_wp2_with fail
  refine (HS.out A2 c2 _ h1 H3.out HK2.out).mono ?_
  rintro e w3 ⟨⟨A3, c3, rfl, h4, h5, h6⟩, hb3⟩
  have H6 := Lib.hid h6
  have HB3 := Lib.hid (HB2.out.trans (hb3.mono HB2.out.size))
  clear h6 hb3
  go_wp2_with fail
  go_ret
  exact ⟨⟨A3, c3, rfl, h4, h5, H6.out⟩, HB3.out⟩
end Go.Proofs.YtfppcmhhbheaiaaDoor
/- Key and Right, in both; New of the document. -/

namespace Go.Proofs.YtfppcmhhbheaiaaDoor
open Go.RowKit

def keyF (i : Int) : UInt32 := if 0 ≤ i ∧ i < 64 then ksAt i.toNat else 0
set_option maxRecDepth 100000 in
theorem keyF_no {i : Int} (h : i < 0 ∨ 64 ≤ i) : keyF i = 0 := by unfold keyF; rw [if_neg (by omega)]
set_option maxRecDepth 100000 in
theorem keyF_yes {j : Nat} (h : j < 64) : keyF (j : Int) = ksAt j := by unfold keyF; rw [if_pos (by omega), Int.toNat_natCast]

def rightB (N : Int) (n : Nat) : Bool := decide (0 ≤ N ∧ N ≤ 1125899906842624 ∧ (n : Int) = N % 64)

set_option maxRecDepth 100000 in
theorem refNew_any (w : World) : Calls Tryd.prog 36 #[] w fun e w' => e = .returned (hv h0 0 (.slice none 0 0)) ∧ Below w.heap.size w w' := by
  go_enter Tryd.func36, Tryd.ntmps36
  go_wp2
  (try simp only [Exit.inBlock, Exit.then])
  refine bodyPost_ret (retH rfl _ _ w.heap.size h0 0 (.slice none 0 0) rfl (heap_alloc_new w _)) rfl ?_
  exact ⟨rfl, (Below.refl _ _).alloc (Nat.le_refl _) _⟩
end Go.Proofs.YtfppcmhhbheaiaaDoor
/- The document's keys; a word as a sum. -/

namespace Go.Proofs.YtfppcmhhbheaiaaDoor
open Go.RowKit

set_option maxRecDepth 100000 in
theorem word4_sum (x0 x1 x2 x3 : UInt8) : (x0.toNat : Int) * 16777216 + (x1.toNat : Int) * 65536 + (x2.toNat : Int) * 256 + (x3.toNat : Int) = ((word4 x0 x1 x2 x3).toNat : Int) := by
  have b0 := x0.toNat_lt
  have b1 := x1.toNat_lt
  have b2 := x2.toNat_lt
  have b3 := x3.toNat_lt
  have s0 : (x0.toUInt32 <<< UInt32.ofNat 24).toNat = 2 ^ 24 * x0.toNat := by
    have := w_shl x0.toUInt32 24 (by decide)
    rw [UInt8.toNat_toUInt32] at this
    omega
  have s1 : (x1.toUInt32 <<< UInt32.ofNat 16).toNat = 2 ^ 16 * x1.toNat := by
    have := w_shl x1.toUInt32 16 (by decide)
    rw [UInt8.toNat_toUInt32] at this
    omega
  have s2 : (x2.toUInt32 <<< UInt32.ofNat 8).toNat = 2 ^ 8 * x2.toNat := by
    have := w_shl x2.toUInt32 8 (by decide)
    rw [UInt8.toNat_toUInt32] at this
    omega
  unfold word4
  rw [UInt32.toNat_or, UInt32.toNat_or, UInt32.toNat_or, s0, s1, s2, UInt8.toNat_toUInt32]
  rw [← Nat.two_pow_add_eq_or_of_lt (i := 24) (by omega) x0.toNat]
  rw [show 2 ^ 24 * x0.toNat + 2 ^ 16 * x1.toNat = 2 ^ 16 * (256 * x0.toNat + x1.toNat) by omega, ← Nat.two_pow_add_eq_or_of_lt (i := 16) (by omega) _]
  rw [show 2 ^ 16 * (256 * x0.toNat + x1.toNat) + 2 ^ 8 * x2.toNat = 2 ^ 8 * (256 * (256 * x0.toNat + x1.toNat) + x2.toNat) by omega, ← Nat.two_pow_add_eq_or_of_lt (i := 8) (by omega) _]
  omega

/-- a slice that reads as the rounds' keys -/
def KR (w : World) (g : Nat) : Prop := g < w.heap.size ∧ ∀ j, j < 64 → w.cell? ⟨g, j, none⟩ = some (wv (ksAt j))
set_option maxRecDepth 100000 in
theorem KR.below {w w' : World} {g B : Nat} (h : KR w g) (hb : Below B w w') (hB : w.heap.size ≤ B) : KR w' g :=
  ⟨Nat.lt_of_lt_of_le h.1 hb.size, fun j hj => (hb.cell (p := ⟨g, j, none⟩) (Nat.lt_of_lt_of_le h.1 hB)).trans (h.2 j hj)⟩

set_option maxRecDepth 100000 in
theorem kr_at {W : World} {g : Nat} {C : Array Value} {t : TypeId} {fr : Nat × Nat} (hC : C = (ksL.map fun x => wv x).toArray) (h : W.heap[g]? = some (.cells C t fr)) : KR W g := by
  subst hC
  refine ⟨(Array.getElem?_eq_some_iff.1 h).1, fun j hj => ?_⟩
  have hl : j < ksL.length := hj
  rw [cell_of_row _ _ _ _ _ _ h, List.getElem?_toArray, List.getElem?_map, List.getElem?_eq_getElem hl]
  unfold ksAt
  rw [List.getD_eq_getElem?_getD, List.getElem?_eq_getElem hl]
  rfl
set_option maxRecDepth 100000 in
theorem keys_any (w : World) : Calls Tryd.prog 40 #[] w fun e w' => e = .returned (.slice (some ⟨w.heap.size, 0, none⟩) 64 64) ∧ KR w' w.heap.size ∧ Below w.heap.size w w' := by
  go_enter Tryd.func40, Tryd.ntmps40
  go_wp2
  go_ret
  exact ⟨rfl, kr_at (by kernel_rfl) (heap_alloc_new w _), (Below.refl _ _).alloc (Nat.le_refl _) _⟩

end Go.Proofs.YtfppcmhhbheaiaaDoor
