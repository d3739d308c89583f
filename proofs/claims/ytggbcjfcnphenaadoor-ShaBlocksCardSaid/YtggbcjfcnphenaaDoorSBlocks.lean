/- ShaBlocks' walk -/
import Derived.Test.YtggbcjfcnphenaaDoorSTells
namespace Go.Proofs.YtggbcjfcnphenaaDoor
open Go.RowKit

theorem bytes_at (X : St) (k i : Nat) (hk : k < 8) (hi : i < 4) : X.bytes.getD (4 * k + i) 0 = (word8 (X.at k)).getD i 0 := by
  match k, i, hk, hi with
  | 0, 0, _, _ => rfl | 0, 1, _, _ => rfl | 0, 2, _, _ => rfl | 0, 3, _, _ => rfl
  | 1, 0, _, _ => rfl | 1, 1, _, _ => rfl | 1, 2, _, _ => rfl | 1, 3, _, _ => rfl
  | 2, 0, _, _ => rfl | 2, 1, _, _ => rfl | 2, 2, _, _ => rfl | 2, 3, _, _ => rfl
  | 3, 0, _, _ => rfl | 3, 1, _, _ => rfl | 3, 2, _, _ => rfl | 3, 3, _, _ => rfl
  | 4, 0, _, _ => rfl | 4, 1, _, _ => rfl | 4, 2, _, _ => rfl | 4, 3, _, _ => rfl
  | 5, 0, _, _ => rfl | 5, 1, _, _ => rfl | 5, 2, _, _ => rfl | 5, 3, _, _ => rfl
  | 6, 0, _, _ => rfl | 6, 1, _, _ => rfl | 6, 2, _, _ => rfl | 6, 3, _, _ => rfl
  | 7, 0, _, _ => rfl | 7, 1, _, _ => rfl | 7, 2, _, _ => rfl | 7, 3, _, _ => rfl
  | k + 8, _, h, _ => exact absurd h (by omega)
  | _, i + 4, _, h => exact absurd h (by omega)
theorem word8_sum (x : UInt32) : (((word8 x).getD 0 0).toNat : Int) * 16777216 + (((word8 x).getD 1 0).toNat : Int) * 65536 + (((word8 x).getD 2 0).toNat : Int) * 256 + (((word8 x).getD 3 0).toNat : Int) = (x.toNat : Int) := by
  have h := x.toNat_lt
  unfold word8
  simp only [List.getD_cons_zero, List.getD_cons_succ, UInt8.toNat_ofNat']
  omega

set_option maxRecDepth 100000 in
set_option maxHeartbeats 4000000 in
theorem shaBlocks_walk (A : Option Addr) (l : List UInt8) (c : Nat) (W : World) (hc : l.length ≤ c) (hr : Rd W W.heap.size A l) (hk : Ks W) :
    Calls Tryd.prog 8 #[.slice A l.length c] W fun e W' => e = .returned (.bool true) ∧ Below W.heap.size W W' := by
  have RB := Lib.hid (fun w (h : Below W.heap.size W w) => (hr.below h (Nat.le_refl _)).more h.size)
  have KB := Lib.hid (fun w (h : Below W.heap.size W w) => Ks.call hk h)
  obtain ⟨n, hn⟩ : ∃ n, n = l.length := ⟨_, rfl⟩
  by_cases h1000 : 1000 < l.length
  · rw [← hn] at hc h1000 ⊢
    have h1000i : (1000 : Int) < (n : Int) := by omega
    clear hr hk hn
    go_enter Tryd.func8, Tryd.ntmps8
    go_wp2_with fail
    refine (shown_any _ (KB.out _ (Below.refl _ _))).mono ?_
    rintro e W1 ⟨rfl, hb1⟩
    have HB1 := Lib.hid hb1
    clear hb1
    go_wp2
    go_ret
    exact ⟨rfl, HB1.out⟩
  · have C1 := Lib.hid (fun W h1 h2 => of_any A l c W (by omega) hc h1 h2)
    have HNN := Lib.hid hn
    obtain ⟨P, hP⟩ : ∃ P, P = padL l.length l.length := ⟨_, rfl⟩
    obtain ⟨k, hk'⟩ : ∃ k, k = P.length := ⟨_, rfl⟩
    have hk2 : k ≤ 100 := by rw [hk', hP, padL_length]; unfold padZ; omega
    have hmod2 : (n + k) % 64 = 0 := by rw [hk', hP, padL_length, hn]; unfold padZ; omega
    have HKP := Lib.hid hk'
    have HE := Lib.hid (fun W => pad_any l.length W (by omega))
    rw [← hP, ← hk'] at HE
    obtain ⟨L, hL⟩ : ∃ L, L = l ++ P := ⟨_, rfl⟩
    have HL := Lib.hid hL
    have hM : L.length = n + k := by rw [hL, List.length_append, hn, hk']
    have HM := Lib.hid hM
    obtain ⟨H, hH⟩ : ∃ H, H = h0 := ⟨_, rfl⟩
    have HOF := Lib.hid (show ofF l = (blks H L).bytes by
      unfold ofF sumF
      rw [hH, hL, hP, (blks_pieces _ _ _).1]
      exact congrArg (fun z => St.bytes (blks h0 (l ++ z))) (padL_mod _ (by rw [left_length]; omega)))
    have CN := Lib.hid (show ∀ w, Calls Tryd.prog 17 #[] w fun e w' => e = .returned (hv H 0 (.slice none 0 0)) ∧ Below w.heap.size w w' from fun w => by rw [hH]; exact new_any w)
    rw [← hn] at hc h1000 C1 HE ⊢
    have h1000i : ¬ (1000 : Int) < (n : Int) := by omega
    clear hr hk hn hH hL hP hk' hM
    go_enter Tryd.func8, Tryd.ntmps8
    go_wp2_with fail
    refine (shown_any _ (KB.out _ (Below.refl _ _))).mono ?_
    rintro e W1 ⟨rfl, hb1⟩
    have HB1 := Lib.hid hb1
    have hz1 := hb1.size
    clear hb1
    go_wp2_with (at_builtin; refine wpList_appS _ rfl (.tmp 17) (.tmp 18) rfl W1.heap.size _ [] l rfl (by exact Ow.made0 _ (Nat.le_refl _)) A n c W1.heap.size rfl HNN.out (by exact (RB.out _ HB1.out).keep fun p hp => World.cell?_alloc_lt W1 _ p hp) (by simp only [List.length_nil]; have := HNN.out; omega) (by exact le_alloc (Nat.le_refl _) _) ?_; intro v4 w4 hown4 hgrow4; have hb4 := Ow.below (w0 := W1) (by exact Ow.made0 _ (Nat.le_refl _)) (by exact (Below.refl _ _).alloc (Nat.le_refl _) _) hgrow4 (by exact le_alloc (Nat.le_refl _) _); have HO4 := Lib.hid hown4; have HB4 := Lib.hid hb4; have hsz4 := hb4.size; clear hown4 hgrow4 hb4)
    refine (HE.out _).mono ?_
    rintro e w5 ⟨⟨AP, cP, rfl, hp1, hp2, hrp, hfp⟩, hb5⟩
    have HO5 := Lib.hid (Ow.call HO4.out hb5)
    have HB5 := Lib.hid (bel_call HB4.out hb5 hsz4)
    have HRP := Lib.hid hrp
    have hsz5 := HB5.out.size
    clear hb5 hrp hfp HO4 HB4
    dsimp only
    go_wp2_with (at_builtin; refine wpList_appS w5 rfl (.tmp 19) (.tmp 22) rfl W1.heap.size _ ([] ++ l) P rfl (by exact HO5.out) AP k cP w5.heap.size rfl HKP.out (by exact HRP.out) (by have := HNN.out; have := HKP.out; simp only [List.nil_append]; omega) hsz5 ?_; intro v6 w6 hown6 hgrow6; have hb6 := Ow.below (w0 := W1) HO5.out HB5.out hgrow6 hsz5; rw [List.nil_append, ← HL.out] at hown6; obtain ⟨A6, c6, rfl, hc61, hc62, hr6, hf6⟩ := Ow.fresh hown6; have HF6 := Lib.hid hf6; have HR6 := Lib.hid hr6; have HB6 := Lib.hid hb6; clear hown6 hgrow6 hb6 hr6 hf6)
    refine (CN.out _).mono ?_
    rintro e W7 ⟨rfl, hb7⟩
    have HB7 := Lib.hid ((HB1.out.trans (HB6.out.mono hz1)).trans (hb7.mono (by have := HB6.out.size; omega)))
    have HR7 := Lib.hid ((HR6.out.below hb7 (Nat.le_refl _)).more hb7.size)
    have hz7 := HB7.out.size
    have HF7 := Lib.hid (show ∀ p, A6 = some p → p.block < W7.heap.size from fun p hp => Nat.lt_of_lt_of_le (HF6.out p hp).2.1 hb7.size)
    clear hb7 HR6 HB6 HB5 HRP HO5 HF6
    dsimp only
    obtain ⟨q1, q2, q3, q4⟩ := alloc2 W7 (.cells (hcells H 0 (.slice none 0 0)) 36) (.cells H.cells 28)
    have r8 := Rd.alloc (Rd.alloc HR7.out (.cells (hcells H 0 (.slice none 0 0)) 36)) (.cells H.cells 28)
    have B8 := Lib.hid (HB7.out.trans (q4.mono hz7))
    go_wp2_with fail
    change Code.wp _ _ _ _ ((W7.alloc (.cells (hcells H 0 (.slice none 0 0)) 36)).alloc (.cells H.cells 28))
    generalize (W7.alloc (.cells (hcells H 0 (.slice none 0 0)) 36)).alloc (.cells H.cells 28) = W8 at *
    obtain ⟨g6, hg6⟩ : ∃ g, g = W7.heap.size + 1 := ⟨_, rfl⟩
    rw [← hg6] at q2 q3 ⊢
    have HF8 := Lib.hid (show ∀ p, A6 = some p → p.block < g6 from fun p hp => by have := HF7.out p hp; omega)
    have Q2 := Lib.hid q2
    have R8 := Lib.hid r8
    have hgW : W.heap.size ≤ g6 := by omega
    clear q1 q2 q3 q4 r8 HF7 HR7 HB7 hg6
    obtain ⟨M, hMM⟩ : ∃ M, M = L.length := ⟨_, rfl⟩
    have HMM := Lib.hid hMM
    have hM1 : M ≤ 2000 := by rw [hMM, HM.out]; omega
    have hM64 : M % 64 = 0 := by rw [hMM, HM.out]; exact hmod2
    rw [← hMM] at hc61 ⊢
    clear hMM hmod2
    go_loopw [7] (fun v wr => ∃ (j : Nat), v = .int .i64 ((64 * j : Nat) : Int) ∧ 64 * j ≤ M ∧ wr.heap[g6]? = some (.cells (blkN H L j).cells 28 (0, 0)) ∧ Below W.heap.size W wr ∧ Rd wr wr.heap.size A6 L) (fun v _ => M - (intOf v).toNat)
    case atStart => exact ⟨0, rfl, by omega, Q2.out, B8.out, R8.out⟩
    case round =>
      clear Q2 B8 R8
      obtain ⟨j, rfl, hj, hS, hB, hrd⟩ := hrel
      have HS := Lib.hid hS
      have HB := Lib.hid hB
      have HRD := Lib.hid hrd
      have hsz : g6 < wr.heap.size := (Array.getElem?_eq_some_iff.1 hS).1
      clear hS hB hrd
      by_cases hlt : 64 * j + 64 ≤ M
      · have h64 : ((64 * j : Nat) : Int) < (M : Int) := by omega
        obtain ⟨S0, hS0⟩ : ∃ x, x = blkN H L j := ⟨_, rfl⟩
        have HN1 := Lib.hid (show blkN H L (j + 1) = compress S0 ((L.drop (64 * j)).take 64) by rw [hS0]; rfl)
        rw [← hS0] at HS
        obtain ⟨q, hq⟩ : ∃ q, q = 64 * j := ⟨_, rfl⟩
        have HQ := Lib.hid hq
        rw [← hq] at HN1 h64 hlt hj ⊢
        have hl64 : ((L.drop q).take 64).length = 64 := by rw [List.length_take, List.length_drop, ← HMM.out]; omega
        have hcut := HRD.out.cut q 64 c6 (by rw [← HMM.out]; omega) (by rw [← HMM.out]; exact hc61)
        have hcq : ¬ c6 = q := by omega
        rw [if_neg hcq, Nat.mul_one] at hcut
        have HL64 := Lib.hid hl64
        have HCUT := Lib.hid hcut
        generalize (L.drop q).take 64 = l64 at *
        clear hS0 hq hcut hl64
        obtain ⟨e0, e1, e2, e3, e4, e5, e6, e7⟩ := cells8 (w := wr.drew) HS.out
        have hq64 : q + 64 ≤ c6 := by omega
        have hq64i : (q : Int) + 64 ≤ (c6 : Int) := by omega
        have hq0 : (0 : Int) ≤ (q : Int) := Int.natCast_nonneg _
        have hqq : (q : Int) ≤ (q : Int) + 64 := by omega
        have hqt : ((q : Int) + 64).toNat = q + 64 := by omega
        have hqs : q + 64 - q = 64 := by omega
        have hwq : IntKind.i64.wrap ((q : Int) + 64) = (q : Int) + 64 := IntWalk.i64_in _ (by omega)
        have CBK := Lib.hid (fun W h1 h2 => block_any S0 (A6.map (fun x => x.add q)) l64 (c6 - q) W HL64.out h1 h2)
        generalize compress S0 l64 = X at *
        have hszi : W.heap.size ≤ wr.heap.size := by omega
        go_wp2_with fail
        go_cut [8, 9] (fun v8 v9 wx => ∃ (g8 : Nat), v8 = .pointer (some ⟨g8, 0, none⟩) ∧ v9 = .int .i64 0 ∧ g6 < g8 ∧ wx.heap[g8]? = some (.cells X.cells 28 (0, 0)) ∧ wx.heap[g6]? = some (.cells S0.cells 28 (0, 0)) ∧ Below W.heap.size W wx ∧ Rd wx wx.heap.size A6 L)
        case first =>
          go_region_held3 (fun w' => w'.cell? ⟨g6, 0, none⟩ = some (wv S0.a) ∧ w'.cell? ⟨g6, 1, none⟩ = some (wv S0.b) ∧ w'.cell? ⟨g6, 2, none⟩ = some (wv S0.c) ∧ w'.cell? ⟨g6, 3, none⟩ = some (wv S0.d) ∧ w'.cell? ⟨g6, 4, none⟩ = some (wv S0.e) ∧ w'.cell? ⟨g6, 5, none⟩ = some (wv S0.f) ∧ w'.cell? ⟨g6, 6, none⟩ = some (wv S0.g) ∧ w'.cell? ⟨g6, 7, none⟩ = some (wv S0.h))
            (first
             | ((try dsimp only); go_split_ands; refine ⟨?_, ?_, ?_, ?_, ?_, ?_, ?_, ?_⟩ <;> with_reducible assumption)
             | ((try dsimp only); go_split_ands; refine ⟨?_, ?_, ?_, ?_, ?_, ?_, ?_, ?_⟩ <;> (with_reducible refine far1 ?_ ?_) <;> (first | (with_reducible assumption) | omega))
             | ((try dsimp only); go_split_ands; refine ⟨?_, ?_, ?_, ?_, ?_, ?_, ?_, ?_⟩ <;> (with_reducible refine far1d ?_ ?_) <;> (first | (with_reducible assumption) | omega))
             | ((try dsimp only); go_split_ands; refine ⟨?_, ?_, ?_, ?_, ?_, ?_, ?_, ?_⟩ <;> (with_reducible refine far8 ?_ ?_) <;> (first | (with_reducible assumption) | omega)))
            (first
            | (go_at_call 14; refine (CBK.out _ ?_ ?_).mono ?_; (first | exact HCUT.out | exact Rd.alloc HCUT.out _); (first | exact KB.out _ HB.out.drew | exact KB.out _ (HB.out.alloc hszi _).drew); rintro e w2 ⟨rfl, hb2⟩; have BB2 := Lib.hid (bel_call (B := W.heap.size) (w := W) (by first | exact HB.out.drew | exact (HB.out.alloc hszi _).drew) hb2 (by first | exact hszi | (simp only [World.size_alloc, size_drew]; omega))); have hz2 := hb2.size; (try simp only [World.size_alloc, size_drew] at hz2); have R2 := Lib.hid (Rd.more (Rd.below (by first | exact HRD.out | exact Rd.alloc HRD.out _) hb2 (Nat.le_refl _)) hb2.size); have hq2 := old_below (g := g6) (by first | exact HS.out | exact old_alloc HS.out _) hb2 (Nat.le_refl _); have S2 := Lib.hid hq2; obtain ⟨v0, v1, v2, v3, v4, v5, v6, v7⟩ := cells8 hq2; (first | (have hq3 := old_below (g := wr.heap.size) (by exact heap_alloc_new wr (.cells Z8 28)) hb2 (Nat.le_refl _); have ZZ2 := Lib.hid hq3; obtain ⟨⟨z0, z1, z2, z3, z4, z5, z6, z7⟩, y0, y1, y2, y3, y4, y5, y6, y7⟩ := zeros8 hq3; clear hq3) | skip); clear hb2 hq2))
          · go_wp2_with fail
            go_meet
            case rel => exact ⟨w2.heap.size, rfl, rfl, by omega, heap_alloc_new w2 _, old_alloc S2.out _, BB2.out.alloc (by omega) _, Rd.alloc R2.out _⟩
          · go_wp2_with fail
            go_meet
            case rel => exact ⟨wr.heap.size, rfl, rfl, by omega, set8_same X ZZ2.out, (set8_other X (by omega)).trans S2.out, Below.set8 BB2.out (by omega) X, Rd.set8 R2.out X (fun p hp => by have := HF8.out p hp; omega)⟩
        case rest =>
          obtain ⟨g8, hv8, hv9, hg8, hG8, hG6, hBc, hRc⟩ := hcut
          subst hv8 hv9
          have T8 := Lib.hid hG8
          have T6 := Lib.hid hG6
          have BC := Lib.hid hBc
          have RC := Lib.hid hRc
          clear hG8 hG6 hBc hRc e0 e1 e2 e3 e4 e5 e6 e7 HS HB HRD HCUT CBK
          obtain ⟨wd, hwd⟩ : ∃ x, x = wc := ⟨_, rfl⟩
          rw [← hwd] at T8 T6 BC RC
          rw [← hwd]
          clear hwd
          go_wp2_with (with_reducible refine at_list ?_; first | refine load8 wd (.tmp 8) g8 X T8.out rfl rfl rfl ?_ | refine store8 wd (.tmp 6) (.tmp 45) g6 X _ T6.out rfl rfl rfl rfl rfl ?_)
          go_roundw
          case rel =>
            have a1 : Value.int .i64 ((q : Int) + 64) = Value.int .i64 ((64 * (j + 1) : Nat) : Int) := by rw [HQ.out]; congr 1
            have a2 : 64 * (j + 1) ≤ M := by have := HQ.out; omega
            exact ⟨j + 1, a1, a2, by rw [HN1.out]; exact setRow_heap wd g6 _ X.cells _ _ T6.out, Below.setRow BC.out (g := g6) hgW X.cells, Rd.setRow RC.out (g := g6) X.cells (fun p hp => Nat.ne_of_lt (HF8.out p hp))⟩
          case measure => simp only [intOf]; omega
      · have hjd : j = M / 64 := by omega
        have h64 : ¬ ((64 * j : Nat) : Int) < (M : Int) := by omega
        obtain ⟨X, hX⟩ : ∃ X, X = blks H L := ⟨_, rfl⟩
        have HE2 := Lib.hid (show blkN H L j = X by rw [hX]; unfold blks; rw [← HMM.out, hjd])
        have HOX := Lib.hid (show ofF l = X.bytes by rw [HOF.out, hX])
        rw [HE2.out] at HS
        rw [HOX.out] at C1
        clear hX hjd hlt hj HRD
        go_wp2_with fail
        refine (C1.out _ (RB.out _ HB.out) (KB.out _ HB.out)).mono ?_
        rintro e W9 ⟨⟨A9, c9, rfl, h91, h92, h93⟩, hb9⟩
        have S9 := Lib.hid (old_below (g := g6) HS.out hb9 (Nat.le_refl _))
        have B9 := Lib.hid (bel_call HB.out hb9 (by omega))
        have R9 := Lib.hid h93
        clear h93 hb9 HS HB
        dsimp only
        have hlen9 : X.bytes.length = 32 := take_bytes_length X 8 (by omega)
        obtain ⟨b9, o9, rfl, hb9, hc9⟩ := R9.out.getD (by omega)
        rw [hlen9] at hc9
        have row := row_of_st S9.out
        have hrw : ∀ kk, kk < 8 → W9.cell? ⟨g6, kk, none⟩ = some (wv (X.at kk)) := fun kk hk => by
          obtain ⟨cc, h1, h2, h3⟩ := row
          exact (cell_of_row _ _ _ _ _ _ h1).trans (h3 kk hk)
        have HRW := Lib.hid hrw
        have HC9 := Lib.hid hc9
        have hg9 : g6 < W9.heap.size := (Array.getElem?_eq_some_iff.1 S9.out).1
        clear row hrw hc9 S9 HOX C1 HE2 R9
        go_wp2_with fail
        go_loopw [11] (fun i wx => ∃ kk : Nat, kk ≤ 8 ∧ i = .int .i64 kk ∧ Below W9.heap.size W9 wx) (fun i _ => 8 - (intOf i).toNat)
        case atStart => exact ⟨0, by omega, rfl, Below.refl _ _⟩
        case round =>
          obtain ⟨kk, hkk, rfl, hbel⟩ := hrel
          have HBB := Lib.hid hbel
          clear hbel
          by_cases hlt8 : kk < 8
          · have c0 := (HBB.out.cell (p := ⟨b9, o9 + (4 * kk), none⟩) hb9).trans (HC9.out (4 * kk) (by omega))
            have c1 := (HBB.out.cell (p := ⟨b9, o9 + (4 * kk + 1), none⟩) hb9).trans (HC9.out (4 * kk + 1) (by omega))
            have c2 := (HBB.out.cell (p := ⟨b9, o9 + (4 * kk + 2), none⟩) hb9).trans (HC9.out (4 * kk + 2) (by omega))
            have c3 := (HBB.out.cell (p := ⟨b9, o9 + (4 * kk + 3), none⟩) hb9).trans (HC9.out (4 * kk + 3) (by omega))
            have cx := (HBB.out.cell (p := ⟨g6, kk, none⟩) hg9).trans (HRW.out kk hlt8)
            rw [show 4 * kk = 4 * kk + 0 by omega, bytes_at X kk 0 hlt8 (by omega), Nat.add_zero] at c0
            rw [bytes_at X kk 1 hlt8 (by omega)] at c1
            rw [bytes_at X kk 2 hlt8 (by omega)] at c2
            rw [bytes_at X kk 3 hlt8 (by omega)] at c3
            have hsum := word8_sum (X.at kk)
            generalize (word8 (X.at kk)).getD 0 0 = x0 at *
            generalize (word8 (X.at kk)).getD 1 0 = x1 at *
            generalize (word8 (X.at kk)).getD 2 0 = x2 at *
            generalize (word8 (X.at kk)).getD 3 0 = x3 at *
            generalize X.at kk = x at *
            have b0 := x0.toNat_lt
            have b1 := x1.toNat_lt
            have b2 := x2.toNat_lt
            have b3 := x3.toNat_lt
            have hne : (((x0.toNat : Int) * 16777216 + (x1.toNat : Int) * 65536 + (x2.toNat : Int) * 256 + (x3.toNat : Int)) != (x.toNat : Int)) = false := by rw [hsum]; simp
            have HSUM := Lib.hid hsum
            clear hsum
            go_wp2
            go_region
            go_wp2
            go_roundw
            case rel => exact ⟨kk + 1, by omega, by go_num, HBB.out.drew⟩
            case measure => simp [intOf]; omega
          · have hk8 : kk = 8 := by omega
            go_wp2
            go_ret
            exact ⟨rfl, B9.out.trans (HBB.out.mono B9.out.size)⟩
end Go.Proofs.YtggbcjfcnphenaaDoor
