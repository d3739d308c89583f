
/- The document's answer (win): Mark. -/
import Derived.Test.YtdnfggjklblpnaaJ03
import Derived.StillTailTactics
import Derived.Laws.BitsAll
namespace Go.Proofs.Ytdnfggjklblpnaa
open Go.RowKit

/-- an answer: a window, and a number -/
def AnsWn (e : Ending) (r : Wn × Int) : Prop := e = .returned (.tuple #[.agg (winC r.1), .int .i64 r.2])
set_option maxRecDepth 100000 in
/-- a window's box, and the box of the answer -/
theorem boxWZ (W : World) (x : Wn) : ∃ V C, C = winC x ∧ V = (W.alloc (.cells C 25)).alloc (.cells #[.int .i64 0, .int .u64 0, .int .u64 0, .int .u64 0, .int .u64 0, .int .u64 0, .int .u64 0, .int .u64 0, .int .u64 0, .int .u64 0, .int .u64 0, .int .u64 0, .int .u64 0, .int .u64 0, .int .u64 0, .int .u64 0, .int .u64 0] 25) ∧ Below W.heap.size W V ∧ BoxW V W.heap.size x ∧ BoxW V (W.heap.size + 1) wn0 := by
  refine ⟨_, _, rfl, rfl, ((Below.refl W.heap.size W).alloc (Nat.le_refl _) _).alloc (by rw [World.size_alloc]; omega) _, ?_, ?_⟩
  · exact (heap_alloc_old (W.alloc (.cells (winC x) 25)) _ (by rw [World.size_alloc]; omega)).trans (heap_alloc_new W _)
  · have h := heap_alloc_new (W.alloc (.cells (winC x) 25)) (.cells (winC wn0) 25)
    rw [World.size_alloc] at h
    exact h
set_option maxRecDepth 100000 in
theorem wn_end {W w : World} {y z : Wn} {m : Int} {C : Array Value} (hC : C = winC z) (hb : Below W.heap.size W w) (hg : BoxW w (W.heap.size + 1) y) :
    BoxW (w.setRow (W.heap.size + 1) C) (W.heap.size + 1) z ∧ AnsWn (.returned (.tuple #[.agg C, .int .i64 m])) (z, m) ∧ Below W.heap.size W (w.setRow (W.heap.size + 1) C) := by
  subst hC
  exact ⟨setRow_heap _ _ _ _ _ _ hg, rfl, Below.setRowG hb (by omega) _⟩
set_option maxRecDepth 100000 in
set_option maxHeartbeats 4000000 in
theorem mark10_any (a : Wn) (h64 : W64 a) (hR : RightW a) (n : Int) (W : World) : Calls Try.prog 16 #[.agg (winC a), .int .i64 n] W fun e W' => AnsWn e (markR a n) ∧ Below W.heap.size W W' := by
  obtain ⟨V, C, hC, hV, hb, hg, hg2⟩ := boxWZ W a
  have HB := Lib.hid hb
  have HV := Lib.hid hV
  have HG := Lib.hid hg
  have HJ := Lib.hid hg2
  have HR := Lib.hid hR
  obtain ⟨r1, r2, -⟩ := hR
  unfold most at r2
  have CF := Lib.hid (fun w => fresh10_any a h64 (by omega) n w)
  obtain ⟨T, hT⟩ := Int.eq_ofNat_of_zero_le r1
  have CT := Lib.hid (fun w => taken10_any a h64 T (T - 1024) hT (by omega) rfl w)
  have hTb : T ≤ 4611686018427387905 := by omega
  have HT := Lib.hid hT
  rw [← hC]
  obtain ⟨E, hE⟩ : ∃ E, E = markR a n := ⟨_, rfl⟩
  rw [← hE]
  have HDE := Lib.hid hE
  have HC := Lib.hid hC
  clear hg hg2 hb hC hV hE h64 r1 r2 hT
  by_cases h1 : n < 0
  · have HE := Lib.hid (show E = (a, 1) by rw [HDE.out]; unfold markR; rw [if_neg (by omega)])
    clear HDE CF CT
    go_enter Try.func16, Try.ntmps16
    go_upto_region 2 with (fail)
    rw [← HV.out]
    go_wp2_with (first | (refine loadW _ (.tmp 2) W.heap.size a HG.out rfl rfl rfl ?_) | (refine storeW _ (.tmp 4) (.tmp 18) (W.heap.size + 1) a _ HJ.out rfl rfl rfl rfl rfl ?_))
    refine bodyPost_ret (retW rfl _ _ (W.heap.size + 1) a _ rfl rfl (wn_end (m := 1) rfl HB.out HJ.out).1) rfl ?_
    rw [HE.out]
    exact ⟨rfl, (wn_end (m := 1) rfl HB.out HJ.out).2.2⟩
  by_cases h2 : 4611686018427387904 < n
  · have HE := Lib.hid (show E = (a, 1) by rw [HDE.out]; unfold markR; rw [if_neg (by unfold most; omega)])
    clear HDE CF CT
    go_enter Try.func16, Try.ntmps16
    go_upto_region 2 with (fail)
    rw [← HV.out]
    go_wp2_with (first | (refine loadW _ (.tmp 2) W.heap.size a HG.out rfl rfl rfl ?_) | (refine storeW _ (.tmp 4) (.tmp 18) (W.heap.size + 1) a _ HJ.out rfl rfl rfl rfl rfl ?_))
    refine bodyPost_ret (retW rfl _ _ (W.heap.size + 1) a _ rfl rfl (wn_end (m := 1) rfl HB.out HJ.out).1) rfl ?_
    rw [HE.out]
    exact ⟨rfl, (wn_end (m := 1) rfl HB.out HJ.out).2.2⟩
  have HIN := Lib.hid (show 0 ≤ n ∧ n ≤ most by unfold most; omega)
  by_cases hf : ¬ FreshW a n
  · have HE := Lib.hid (show E = (a, 6) by rw [HDE.out]; unfold markR; rw [if_pos HIN.out, if_neg hf])
    rw [decide_eq_false hf] at CF
    clear HDE CT hf
    go_enter Try.func16, Try.ntmps16
    go_upto_region 3 with (fail)
    rw [← HV.out]
    go_wp2_with (refine loadW _ (.tmp 2) W.heap.size a HG.out rfl rfl rfl ?_)
    refine (CF.out V).mono ?_
    rintro e w1 ⟨rfl, hb⟩
    have HB1 := Lib.hid (belG HB.out hb HB.out.size)
    have HG1 := Lib.hid (HG.out.old hb (Nat.le_refl _))
    have HJ1 := Lib.hid (HJ.out.old hb (Nat.le_refl _))
    clear hb HB HG HJ CF
    go_wp2_with (first | (refine loadW _ (.tmp 2) W.heap.size a HG1.out rfl rfl rfl ?_) | (refine storeW _ (.tmp 4) (.tmp 24) (W.heap.size + 1) a _ HJ1.out rfl rfl rfl rfl rfl ?_))
    refine bodyPost_ret (retW rfl _ _ (W.heap.size + 1) a _ rfl rfl (wn_end (m := 6) rfl HB1.out HJ1.out).1) rfl ?_
    rw [HE.out]
    exact ⟨rfl, (wn_end (m := 6) rfl HB1.out HJ1.out).2.2⟩
  have hf : FreshW a n := Classical.byContradiction hf
  have HE := Lib.hid (show E = (markW a n, 0) by rw [HDE.out]; unfold markR; rw [if_pos HIN.out, if_pos hf])
  rw [decide_eq_true hf] at CF
  have HF := Lib.hid hf
  obtain ⟨m, rfl⟩ := Int.eq_ofNat_of_zero_le (show 0 ≤ n by omega)
  obtain ⟨K, hK⟩ : ∃ K : Nat, K = if T ≤ m then m + 1 else T := ⟨_, rfl⟩
  have HTW := Lib.hid (show topW a m = (K : Int) by unfold topW; rw [HT.out, hK]; split <;> split <;> omega)
  have HK := Lib.hid (show (T ≤ m → (m : Int) + 1 = K) ∧ (¬ T ≤ m → (T : Int) = K) ∧ T ≤ K ∧ m < K ∧ K ≤ 4611686018427387905 by rw [hK]; split <;> omega)
  clear HDE hf hK
  obtain ⟨x0, -⟩ : V.cell? ⟨W.heap.size, 0, none⟩ = some (.int .i64 T) ∧ True := ⟨by rw [← HT.out]; exact HG.out.cell (winC_top a), trivial⟩
  go_enter Try.func16, Try.ntmps16
  go_upto_region 3 with (fail)
  rw [← HV.out]
  go_wp2_with (refine loadW _ (.tmp 2) W.heap.size a HG.out rfl rfl rfl ?_)
  refine (CF.out V).mono ?_
  rintro e w1 ⟨rfl, hb⟩
  have HB1 := Lib.hid (belG HB.out hb HB.out.size)
  have HG1 := Lib.hid (HG.out.old hb (Nat.le_refl _))
  have HJ1 := Lib.hid (HJ.out.old hb (Nat.le_refl _))
  clear hb HB HG HJ CF x0
  have x0 : w1.cell? ⟨W.heap.size, 0, none⟩ = some (.int .i64 T) := by rw [← HT.out]; exact HG1.out.cell (winC_top a)
  go_upto_if 29 with (fail)
  go_cut [7] (fun t7 wx => t7 = .int .i64 (K : Int) ∧ wx = w1)
  case first =>
    go_wp2_with fail
    all_goals
      go_meet
      case rel => exact ⟨by congr 1; have h1 := HK.out; omega, rfl⟩
  case rest =>
  obtain ⟨rfl, rfl⟩ := hcut
  go_upto_region 10 with (fail)
  obtain ⟨Z, hZ⟩ : ∃ Z, Z = wc.alloc (.cells #[.int .i64 (K : Int), .int .u64 0, .int .u64 0, .int .u64 0, .int .u64 0, .int .u64 0, .int .u64 0, .int .u64 0, .int .u64 0, .int .u64 0, .int .u64 0, .int .u64 0, .int .u64 0, .int .u64 0, .int .u64 0, .int .u64 0, .int .u64 0] 25) := ⟨_, rfl⟩
  have hal : Below wc.heap.size wc Z := by rw [hZ]; exact (Below.refl wc.heap.size wc).alloc (Nat.le_refl _) _
  have hz8 : BoxW Z wc.heap.size ⟨K, fun _ => 0⟩ := by rw [hZ]; exact heap_alloc_new wc _
  have hzs : Z.heap.size = wc.heap.size + 1 := by rw [hZ]; simp
  rw [← hZ]
  have HBZ := Lib.hid (belG HB1.out hal HB1.out.size)
  have HGZ := Lib.hid (HG1.out.old hal (Nat.le_refl _))
  have HJZ := Lib.hid (HJ1.out.old hal (Nat.le_refl _))
  have hg2 : W.heap.size + 2 ≤ wc.heap.size := by
    have := (Array.getElem?_eq_some_iff.1 HJ1.out).1
    omega
  obtain ⟨g8, hg8⟩ : ∃ g, g = wc.heap.size := ⟨_, rfl⟩
  rw [← hg8] at hz8 hzs hg2
  rw [← hg8]
  have H8 := Lib.hid hz8
  have HZS := Lib.hid hzs
  clear hZ hal hz8 hg8 HB1 HG1 HJ1 x0 hzs
  go_wp2_with (refine loadW _ (.tmp 2) W.heap.size a HGZ.out rfl rfl rfl ?_)
  refine (CT.out Z).mono ?_
  rintro e w5 ⟨⟨v5, rfl, hown⟩, hb⟩
  have HO5 := Lib.hid hown
  have HB5 := Lib.hid hb
  have HL5 := Lib.hid (show (takF a (T - 1024) (T - (T - 1024))).length ≤ 1024 from by have := takF_len a (T - 1024) (T - (T - 1024)); omega)
  clear hown hb CT
  go_wp2_with (at_builtin; refine wpList_appI _ rfl (.tmp 35) (.tmp 37) rfl Z.heap.size _ _ [(m : Int)] rfl (by exact HO5.out.alloc _) (some ⟨w5.heap.size, 0, none⟩) 1 1 (w5.heap.size + 1) rfl rfl (by exact rdi_new1 _ _) (by have h1 := HL5.out; show _ + 1 ≤ _; omega) (by exact le_alloc HB5.out.size _) ?_; intro v6 w6 hown6 hgrow6; have HB6 := Lib.hid (OwI.below (base := Z.heap.size) (w0 := Z) (HO5.out.alloc _) (HB5.out.alloc HB5.out.size _) hgrow6 (le_alloc HB5.out.size _)); have HO6 := Lib.hid (show OwI w6 Z.heap.size v6 (allF a T m) from hown6); clear hown6 hgrow6)
  obtain ⟨L, hL⟩ : ∃ L, L = allF a T m := ⟨_, rfl⟩
  rw [← hL] at HO6
  have HLE := Lib.hid hL
  obtain ⟨N, hN⟩ : ∃ N, N = L.length := ⟨_, rfl⟩
  have HNN := Lib.hid hN
  have hN0 : 0 < N := by rw [hN, hL]; unfold allF; simp
  have hN1 : N ≤ 1025 := by rw [hN, hL]; exact allF_len _ _ _
  have HLT := Lib.hid (show ∀ x ∈ L, x < (K : Int) ∧ 0 ≤ x from by rw [hL, ← HTW.out]; exact allF_lt HT.out)
  have HND := Lib.hid (show L.Nodup from by rw [hL]; exact allF_nodup HT.out HF.out)
  obtain ⟨g6, c6, e6, hb6, -⟩ := World.ownsRow.form HO6.out (by rw [← hN]; exact hN0)
  rw [← hN] at e6
  subst e6
  have HCL := Lib.hid (fun i (hi : i < L.length) => (show w6.cell? ⟨g6, i, none⟩ = some (.int .i64 L[i]) from by
    have h := World.ownsRow.cells HO6.out (g := g6) rfl i _ (csI_get L i hi)
    rw [Addr.add_lit, Nat.zero_add] at h
    exact h))
  have H86 := Lib.hid (show BoxW w6 g8 ⟨K, wordsG (plG (L.take 0) K)⟩ from by
    have h := (HB6.out.block g8 (by have := HZS.out; omega)).trans H8.out
    have e : (wordsG (plG (L.take 0) K)) = fun _ => 0 := by
      funext j
      exact wordN_none 64
    rw [e]
    exact h)
  have HJ6 := Lib.hid (show BoxW w6 (W.heap.size + 1) wn0 from (HB6.out.block _ (by have := HZS.out; omega)).trans HJZ.out)
  have HBW := Lib.hid (HBZ.out.trans (HB6.out.mono (by have := HZS.out; omega)))
  have hne : g6 ≠ g8 := by have := HZS.out; omega
  have hKb : K ≤ 4611686018427387905 := HK.out.2.2.2.2
  clear hL hN hb6 HO6 HB6 HB5 HO5 HL5 H8 HGZ HJZ HBZ
  go_loopw [10] (fun iv wr => ∃ i : Nat, i ≤ N ∧ iv = .int .i64 (i : Int) ∧ Hid (BoxW wr g8 ⟨K, wordsG (plG (L.take i) K)⟩) ∧ Hid (∀ k, k ≠ g8 → wr.heap[k]? = w6.heap[k]?) ∧ Hid (Below W.heap.size W wr)) (fun iv _ => N - (intOf iv).toNat)
  case atStart => exact ⟨0, Nat.zero_le _, rfl, H86, Lib.hid (fun _ _ => rfl), HBW⟩
  case round =>
    clear H86 HBW
    obtain ⟨i, hi, rfl, H8, HOT, HBW⟩ := hrel
    by_cases hlt : i < N
    · have hki : (i : Int) < (N : Int) := by omega
      have hiL : i < L.length := by rw [← HNN.out]; exact hlt
      have z0 : wr.cell? ⟨g6, i, none⟩ = some (.int .i64 L[i]) := (World.cell?_of_block (w := w6) (a := ⟨g6, i, none⟩) (HOT.out g6 hne)).trans (HCL.out i hiL)
      obtain ⟨hx1, hx2⟩ := HLT.out _ (List.getElem_mem hiL)
      obtain ⟨M, hM⟩ := Int.eq_ofNat_of_zero_le hx2
      rw [hM] at z0 hx1
      obtain ⟨p, hp⟩ : ∃ p, p = M % 1024 := ⟨_, rfl⟩
      have hp1 : (M : Int) % 1024 = (p : Int) := by omega
      have hp2 : (M : Int).tmod 1024 = (p : Int) := by rw [Int.tmod_eq_emod_of_nonneg (by omega)]; exact hp1
      have hpb : p < 1024 := by omega
      have HSK := Lib.hid (show ¬ (K : Int) - 1024 ≤ (M : Int) → plG (L.take (i + 1)) K = plG (L.take i) K from fun h => plG_skip hiL (by rw [hM]; omega))
      have HMO := Lib.hid (show (K : Int) - 1024 ≤ (M : Int) → plG (L.take (i + 1)) K = fun q => plG (L.take i) K q || decide (q = p) from fun h => plG_more hiL (by rw [hM]; exact h) (by rw [hM]; exact hp1))
      have HFR := Lib.hid (show (K : Int) - 1024 ≤ (M : Int) → plG (L.take i) K p = false from fun h => plG_free HND.out (fun x hx => (HLT.out x hx).1) hiL (by rw [hM]; exact h) (by rw [hM]; exact hp1))
      clear hM hx2 hp
      generalize hG : plG (L.take i) K = G at *
      clear hG
      by_cases hge : (K : Int) - 1024 ≤ (M : Int)
      · obtain ⟨j, hj⟩ : ∃ j, j = p / 64 := ⟨_, rfl⟩
        obtain ⟨r, hr⟩ : ∃ r, r = p % 64 := ⟨_, rfl⟩
        have hj16 : j < 16 := by omega
        have hr64 : r < 64 := by omega
        have q1 : (p : Int) / 64 = (j : Int) := by omega
        have q2 : (p : Int).tdiv 64 = (j : Int) := by rw [Int.tdiv_eq_ediv_of_nonneg (by omega)]; exact q1
        have q3 : (p : Int) % 64 = (r : Int) := by omega
        have q4 : (p : Int).tmod 64 = (r : Int) := by rw [Int.tmod_eq_emod_of_nonneg (by omega)]; exact q3
        have x0 := H8.out.cell (winC_b _ hj16)
        have u0 := H8.out.thaw (1 + j)
        have HW1 := wordsG_add G p (HFR.out hge) j
        rw [if_pos hj, ← hr] at HW1
        have hbb := wordsG_lt (fun i => G i || decide (i = p)) j
        have CP := Lib.hid (fun w => power10_any r (by omega) w)
        have HWO := Lib.hid (fun k (hk : k ≠ j) => (show wordsG (fun i => G i || decide (i = p)) k = wordsG G k from by rw [wordsG_add G p (HFR.out hge) k, if_neg (by rw [← hj]; exact hk)]))
        obtain ⟨x, hx⟩ : ∃ x, x = wordsG G j := ⟨_, rfl⟩
        obtain ⟨y, hy⟩ : ∃ y, y = 2 ^ r := ⟨_, rfl⟩
        obtain ⟨z, hz⟩ : ∃ z, z = wordsG (fun i => G i || decide (i = p)) j := ⟨_, rfl⟩
        have x0' : wr.cell? ⟨g8, 1 + j, none⟩ = some (.int .u64 (x : Nat)) := by rw [hx]; exact x0
        rw [← hy] at CP HW1
        rw [← hx, ← hz] at HW1
        rw [← hz] at hbb
        have e1 : (x : Int) + (y : Int) = (z : Int) := by omega
        have HZZ := Lib.hid hz
        have HGE := Lib.hid (HMO.out hge)
        have wj : IntKind.i64.wrap (j : Int) = (j : Int) := by rw [IntKind.wrap_i64]; omega
        have wz : IntKind.u64.wrap (z : Int) = (z : Int) := by rw [IntKind.wrap_u64]; omega
        have j0 : (0 : Int) ≤ (j : Int) := by omega
        have j1 : (j : Int) < 16 := by omega
        clear x0 HW1 hx hy hz hj hr HSK HMO HFR
        go_wp2_with fail
        go_still_tail 13, (by kernel_rfl)
        still_call ((CP.out _).mono fun _ _ h => ⟨h.1, h.2.symm⟩)
        repeat still_step
        refine wpStill_nil ?_
        change wpList _ _ _ _ _ wr.drew
        have H8d := Lib.hid (show BoxW wr.drew g8 ⟨K, wordsG G⟩ from H8.out)
        have HOd := Lib.hid (show ∀ k, k ≠ g8 → wr.drew.heap[k]? = w6.heap[k]? from HOT.out)
        have HBd := Lib.hid (HBW.out.drew)
        have x1 : wr.drew.cell? ⟨g8, 1 + j, none⟩ = some (.int .u64 (x : Nat)) := x0'
        have u1 : wr.drew.frozen? ⟨g8, 1 + j, none⟩ = false := u0
        clear x0' u0 H8 HOT HBW z0 CP
        generalize wr.drew = wd at *
        go_wp2
        go_roundw
        case rel => exact ⟨i + 1, by omega, by go_num, Lib.hid (by
          rw [HGE.out]
          have h := H8d.out.set (winC_setB _ hj16 z)
          unfold BoxW at h ⊢
          rw [h, winC_congr (a := ⟨K, updN (wordsG G) j z⟩) (b := ⟨K, wordsG (fun i => G i || decide (i = p))⟩) ⟨rfl, fun k hk => by
            by_cases e : k = j
            · subst e; show updN _ _ _ _ = _; rw [updN_same]; exact HZZ.out
            · show updN _ _ _ _ = _; rw [updN_other _ _ e]; exact (HWO.out k e).symm⟩]), Lib.hid (fun k hk => (Below.heap_setCell wd ⟨g8, 1 + j, none⟩ _ k hk).trans (HOd.out k hk)), Lib.hid (HBd.out.setCell (p := ⟨g8, 1 + j, none⟩) (by show W.heap.size ≤ g8; omega) _)⟩
        case measure => simp [intOf]; omega
      · have HGE := Lib.hid (HSK.out hge)
        clear HSK HMO HFR
        go_wp2
        go_roundw
        case rel => exact ⟨i + 1, by omega, by go_num, Lib.hid (by rw [HGE.out]; exact H8.out), HOT, HBW⟩
        case measure => simp [intOf]; omega
    · have hki : ¬ (i : Int) < (N : Int) := by omega
      obtain rfl : i = N := by omega
      have HFI := Lib.hid (show winC ⟨K, wordsG (plG (L.take i) K)⟩ = winC (markW a m) from winC_congr ⟨HTW.out.symm, fun j hj => wordsG_congr j hj (fun p hp => by
        rw [List.take_of_length_le (by rw [HNN.out]; exact Nat.le_refl _), HLE.out, ← HTW.out]
        exact allF_mark HR.out HF.out HT.out p hp)⟩)
      have HJR := Lib.hid (show BoxW wr (W.heap.size + 1) wn0 from (HOT.out _ (by omega)).trans HJ6.out)
      have h8 := H8.out
      obtain ⟨R, hRR⟩ : ∃ R : Wn, R = ⟨K, wordsG (plG (L.take i) K)⟩ := ⟨_, rfl⟩
      rw [← hRR] at h8
      have H8R := Lib.hid h8
      have HRR := Lib.hid hRR
      clear h8 hRR H8 HJ6
      go_wp2_with (first | (refine loadW _ (.tmp 8) g8 R H8R.out rfl rfl rfl ?_) | (refine storeW _ (.tmp 4) (.tmp 70) (W.heap.size + 1) R _ HJR.out rfl rfl rfl rfl rfl ?_))
      refine bodyPost_ret (retW rfl _ _ (W.heap.size + 1) R _ rfl rfl (wn_end (m := 0) rfl HBW.out HJR.out).1) rfl ?_
      rw [HE.out]
      refine ⟨?_, (wn_end (m := 0) rfl HBW.out HJR.out).2.2⟩
      show _ = _
      rw [← HFI.out, ← HRR.out]
      rfl
end Go.Proofs.Ytdnfggjklblpnaa
/- Package win: is, place, marked: what each call answers; places that are set and cleared, plain. -/

namespace Go.Proofs.Ytdnfggjklblpnaa
open Go.RowKit

def B64w (x : Int) : Prop := -9223372036854775808 ≤ x ∧ x ≤ 9223372036854775807
set_option maxRecDepth 100000 in
theorem and_bit64 (x m : Nat) (hx : x < 18446744073709551616) (hm : m ≤ 63) : ∃ X : Nat, bits .and .u64 (x : Int) ((2 ^ m : Nat) : Int) = (X : Int) ∧ ((X : Int) != 0) = x.testBit m ∧ X < 18446744073709551616 := by
  refine ⟨x &&& 2 ^ m, u64_and_nat x (2 ^ m) hx (pow2_lt hm), ?_, Nat.lt_of_le_of_lt Nat.and_le_left hx⟩
  have hp : 0 < 2 ^ m := Nat.pow_pos (by decide)
  cases h : x.testBit m with
  | false =>
    have e : x &&& 2 ^ m = 0 := by
      apply Nat.eq_of_testBit_eq
      intro i
      rw [Nat.testBit_and, Nat.testBit_two_pow, Nat.zero_testBit]
      by_cases e : m = i
      · subst e; rw [h, Bool.false_and]
      · rw [decide_eq_false e, Bool.and_false]
    rw [e]
    rfl
  | true =>
    have e : (x &&& 2 ^ m).testBit m = true := by rw [Nat.testBit_and, Nat.testBit_two_pow_self, h]; rfl
    have e2 : x &&& 2 ^ m ≠ 0 := fun e0 => by rw [e0, Nat.zero_testBit] at e; exact absurd e (by decide)
    rw [bne_iff_ne]
    omega
set_option maxRecDepth 100000 in
theorem setW_64 {x : Wn} (h : W64 x) (t : Int) (j : Nat) {z : Nat} (hz : z < 18446744073709551616) : W64 ⟨t, updN x.b j z⟩ := fun k hk => by
  show updN x.b j z k < _
  by_cases e : k = j
  · subst e; rw [updN_same]; exact hz
  · rw [updN_other _ _ e]; exact h k hk
set_option maxRecDepth 100000 in
/-- a bit more -/
theorem has_or (x : Wn) (t : Int) (p q : Nat) : hasW ⟨t, updN x.b (p / 64) (x.b (p / 64) ||| 2 ^ (p % 64))⟩ q = (hasW x q || decide (q = p)) := by
  unfold hasW
  show (updN x.b (p / 64) (x.b (p / 64) ||| 2 ^ (p % 64)) (q / 64)).testBit (q % 64) = _
  by_cases e : q / 64 = p / 64
  · rw [e, updN_same, Nat.testBit_or, Nat.testBit_two_pow, show decide (p % 64 = q % 64) = decide (q = p) from decide_eq_decide.2 (by omega)]
  · rw [updN_other _ _ e, show decide (q = p) = false from decide_eq_false (fun h => e (by rw [h])), Bool.or_false]
set_option maxRecDepth 100000 in
/-- a bit less -/
theorem has_not (x : Wn) (t : Int) (p q : Nat) (_hx : x.b (p / 64) < 18446744073709551616) : hasW ⟨t, updN x.b (p / 64) (x.b (p / 64) &&& (18446744073709551615 - 2 ^ (p % 64)))⟩ q = (hasW x q && !decide (q = p)) := by
  have hn : ∀ i, i < 64 → (18446744073709551615 - 2 ^ (p % 64)).testBit i = !decide (p % 64 = i) := fun i hi => by
    have h1 := Nat.testBit_two_pow_sub_succ (pow2_lt (show p % 64 ≤ 63 by omega)) i (n := 64)
    rw [show 2 ^ 64 - (2 ^ (p % 64) + 1) = 18446744073709551615 - 2 ^ (p % 64) by omega, Nat.testBit_two_pow, decide_eq_true hi, Bool.true_and] at h1
    exact h1
  unfold hasW
  show (updN x.b (p / 64) (x.b (p / 64) &&& (18446744073709551615 - 2 ^ (p % 64))) (q / 64)).testBit (q % 64) = _
  by_cases e : q / 64 = p / 64
  · rw [e, updN_same, Nat.testBit_and, hn _ (by omega), show decide (p % 64 = q % 64) = decide (q = p) from decide_eq_decide.2 (by omega)]
  · rw [updN_other _ _ e, show decide (q = p) = false from decide_eq_false (fun h => e (by rw [h]))]
    simp
set_option maxRecDepth 100000 in
theorem wis_any (n : Int) (W : World) : Calls Try.prog 20 #[.int .i64 n] W fun e W' => e = .returned (.bool (decide (0 ≤ n ∧ n ≤ most))) ∧ W' = W := by
  unfold most
  by_cases h0 : (0 : Int) ≤ n
  · by_cases h1 : n ≤ 4611686018427387904
    · rw [decide_eq_true (show 0 ≤ n ∧ n ≤ 4611686018427387904 from ⟨h0, h1⟩)]
      go_enter Try.func20, Try.ntmps20
      go_wp2
      go_ret
      exact ⟨by first | rfl | (simp [h0, h1]; done), by first | rfl | trivial⟩
    · rw [decide_eq_false (show ¬ (0 ≤ n ∧ n ≤ 4611686018427387904) from fun k => h1 k.2)]
      go_enter Try.func20, Try.ntmps20
      go_wp2
      go_ret
      exact ⟨by first | rfl | (simp [h0, h1]; done) | (simp; omega), by first | rfl | trivial⟩
  · rw [decide_eq_false (show ¬ (0 ≤ n ∧ n ≤ 4611686018427387904) from fun k => h0 k.1)]
    go_enter Try.func20, Try.ntmps20
    go_wp2
    go_ret
    exact ⟨by first | rfl | (simp [h0]; done) | (simp; omega), by first | rfl | trivial⟩
set_option maxRecDepth 100000 in
theorem wplace_any (n : Int) (hn : B64w n) (p : Nat) (hp : n % 1024 = (p : Int)) (W : World) : Calls Try.prog 21 #[.int .i64 n] W fun e W' => e = .returned (.tuple #[.int .i64 ((p / 64 : Nat) : Int), .int .u64 ((2 ^ (p % 64) : Nat) : Int)]) ∧ W' = W := by
  obtain ⟨n1, n2⟩ := hn
  obtain ⟨m, hm⟩ := Int.eq_ofNat_of_zero_le (show 0 ≤ n % 18446744073709551616 by omega)
  have hmb : m < 18446744073709551616 := by omega
  have w0 : IntKind.u64.wrap n = (m : Int) := by rw [IntKind.wrap_u64]; omega
  have w1 : (m : Int) % 1024 = (p : Int) := by omega
  have w2 : (m : Int).tmod 1024 = (p : Int) := by rw [Int.tmod_eq_emod_of_nonneg (by omega)]; exact w1
  have hpb : p < 1024 := by omega
  obtain ⟨j, hj⟩ : ∃ j, j = p / 64 := ⟨_, rfl⟩
  obtain ⟨r, hr⟩ : ∃ r, r = p % 64 := ⟨_, rfl⟩
  have hj16 : j < 16 := by omega
  have hr64 : r < 64 := by omega
  have q1 : (p : Int) / 64 = (j : Int) := by omega
  have q2 : (p : Int).tdiv 64 = (j : Int) := by rw [Int.tdiv_eq_ediv_of_nonneg (by omega)]; exact q1
  have q3 : (p : Int) % 64 = (r : Int) := by omega
  have q4 : (p : Int).tmod 64 = (r : Int) := by rw [Int.tmod_eq_emod_of_nonneg (by omega)]; exact q3
  have q5 : IntKind.i64.wrap (j : Int) = (j : Int) := by rw [IntKind.wrap_i64]; omega
  have q6 : IntKind.u64.wrap (p : Int) = (p : Int) := by rw [IntKind.wrap_u64]; omega
  have q7 : IntKind.u64.wrap (j : Int) = (j : Int) := by rw [IntKind.wrap_u64]; omega
  have q8 : IntKind.u64.wrap (r : Int) = (r : Int) := by rw [IntKind.wrap_u64]; omega
  rw [← hj, ← hr]
  have HP := Lib.hid (show IntKind.u64.wrap ((2 : Int) ^ r) = ((2 ^ r : Nat) : Int) from by
    have h1 := pow2_lt (show r ≤ 63 by omega)
    have h2 : ((2 ^ r : Nat) : Int) = (2 : Int) ^ r := by simp
    rw [IntKind.wrap_u64, ← h2]
    generalize 2 ^ r = y at *
    omega)
  clear hm hj hr hp
  go_enter Try.func21, Try.ntmps21
  go_wp2
  go_ret2
  refine ⟨?_, by first | rfl | trivial⟩
  rw [← HP.out]
  rfl
set_option maxRecDepth 100000 in
theorem retWo {fn : Func} {p : Tmp} (h : fn.results = #[.cell p 25]) (tmps : Array Value) (W : World) (g : Nat) (x : Wn) (hp : tmps.getD p undef = .pointer (some ⟨g, 0, none⟩)) (hg : BoxW W g x) :
    (results fn tmps).run Try.prog W = .ok (.agg (winC x)) W :=
  results_cell_row h tmps W g 25 (winC x) (0, 0) _ hp hg Try.underlying25 rfl (by rw [winC_size]; kernel_rfl)
set_option maxRecDepth 100000 in
theorem wmarked_any (a : Wn) (h64 : W64 a) (n : Int) (hn : B64w n) (p : Nat) (hp : n % 1024 = (p : Int)) (W : World) : Calls Try.prog 18 #[.agg (winC a), .int .i64 n] W fun e W' => e = .returned (.bool (hasW a p)) ∧ Below W.heap.size W W' := by
  obtain ⟨V, C, hC, hV, hb, hg⟩ := boxW1 W a
  have hpb : p < 1024 := by omega
  have CP := Lib.hid (fun w => wplace_any n hn p hp w)
  obtain ⟨j, hj⟩ : ∃ j, j = p / 64 := ⟨_, rfl⟩
  obtain ⟨r, hr⟩ : ∃ r, r = p % 64 := ⟨_, rfl⟩
  have hj16 : j < 16 := by omega
  have j1 : (j : Int) < 16 := by omega
  have j0 : (0 : Int) ≤ (j : Int) := by omega
  obtain ⟨X, hX, hXb, hX64⟩ := and_bit64 (a.b j) r (h64 j hj16) (by omega)
  have HH := Lib.hid (show hasW a p = ((X : Int) != 0) from by rw [hXb]; unfold hasW; rw [← hj, ← hr])
  have x0 := hg.cell (winC_b a hj16)
  rw [← hj, ← hr] at CP
  have HB := Lib.hid hb
  have HV := Lib.hid hV
  rw [← hC]
  clear hXb
  generalize a.b j = x at *
  generalize 2 ^ r = y at *
  clear hn hp hj hr hC hV hb hg h64
  go_enter Try.func18, Try.ntmps18
  go_upto_region 1 with (fail)
  rw [← HV.out]
  go_wp2_with fail
  refine (CP.out _).mono ?_
  rintro e w1 ⟨rfl, hw⟩
  obtain rfl := hw.symm
  go_wp2
  go_ret
  exact ⟨by rw [HH.out]; rfl, HB.out⟩

/-- the places of c numbers from T on, cleared -/
def clrG (a : Wn) (T c : Nat) (p : Nat) : Bool := hasW a p && decide (c ≤ (p + 1024 - T % 1024) % 1024)
def ClrW (a : Wn) (T c : Nat) (x : Wn) : Prop := W64 x ∧ x.top = a.top ∧ ∀ p, p < 1024 → hasW x p = clrG a T c p
set_option maxRecDepth 100000 in
theorem ClrW.zero {a : Wn} (h : W64 a) (T : Nat) : ClrW a T 0 a := ⟨h, rfl, fun p _ => by unfold clrG; rw [decide_eq_true (Nat.zero_le _), Bool.and_true]⟩
set_option maxRecDepth 100000 in
theorem ClrW.step {a x : Wn} {T k : Nat} (h : ClrW a T k x) (hk : k < 1024) (p : Nat) (hp : p = (T + k) % 1024) {z : Nat} (hz : z = x.b (p / 64) &&& (18446744073709551615 - 2 ^ (p % 64))) : ClrW a T (k + 1) ⟨a.top, updN x.b (p / 64) z⟩ := by
  have hb := h.1 (p / 64) (by omega)
  refine ⟨setW_64 h.1 _ _ (by rw [hz]; exact Nat.lt_of_le_of_lt Nat.and_le_left hb), rfl, fun q hq => ?_⟩
  rw [hz, has_not x a.top p q hb, h.2.2 q hq]
  unfold clrG
  rw [Bool.and_assoc]
  congr 1
  rw [Bool.eq_iff_iff, Bool.and_eq_true, Bool.not_eq_true', decide_eq_true_iff, decide_eq_false_iff_not, decide_eq_true_iff]
  omega
set_option maxRecDepth 100000 in
theorem ClrW.min {a x : Wn} {T c m : Nat} (hm : m = if c < 1024 then c else 1024) (h : ClrW a T m x) : ClrW a T c x := ⟨h.1, h.2.1, fun p hp => by
  rw [h.2.2 p hp]
  unfold clrG
  congr 1
  rw [Bool.eq_iff_iff, decide_eq_true_iff, decide_eq_true_iff, hm]
  split <;> omega⟩
set_option maxRecDepth 100000 in
set_option maxHeartbeats 2000000 in
theorem wcleared_any (a : Wn) (h64 : W64 a) (T c : Nat) (hT : a.top = (T : Int)) (hTb : T ≤ 4611686018427387905) (hcb : c ≤ 4611686018427387905) (W : World) : Calls Try.prog 19 #[.agg (winC a), .int .i64 (c : Int)] W fun e W' => (∃ x, e = .returned (.agg (winC x)) ∧ ClrW a T c x) ∧ Below W.heap.size W W' := by
  obtain ⟨V, C, hC, hV, hb, hg, hg2⟩ := boxWZ W a
  obtain ⟨m, hm⟩ : ∃ m, m = if c < 1024 then c else 1024 := ⟨_, rfl⟩
  have HM := Lib.hid hm
  have HMC := Lib.hid (show (c < 1024 → m = c) ∧ (¬ c < 1024 → m = 1024) from by rw [hm]; split <;> omega)
  have hm1 : m ≤ 1024 := by rw [hm]; split <;> omega
  have HB := Lib.hid hb
  have HV := Lib.hid hV
  have HG := Lib.hid hg
  have HJ := Lib.hid hg2
  have HT := Lib.hid hT
  have H64 := Lib.hid h64
  rw [← hC]
  clear hC hV hb hg hg2 hm hT h64
  go_enter Try.func19, Try.ntmps19
  go_upto_region 1 with (fail)
  rw [← HV.out]
  go_cut [9, 10] (fun t9 t10 wx => t9 = .int .i64 (m : Int) ∧ t10 = .int .i64 0 ∧ wx = V)
  case first =>
    go_wp2_with fail
    all_goals
      go_meet
      case rel => exact ⟨by congr 1; have h1 := HMC.out; omega, rfl, rfl⟩
  case rest =>
  obtain ⟨rfl, rfl, rfl⟩ := hcut
  go_wp2_with fail
  go_loopw [10] (fun iv wr => ∃ k : Nat, k ≤ m ∧ iv = .int .i64 (k : Int) ∧ Hid (∃ x, ClrW a T k x ∧ BoxW wr W.heap.size x) ∧ Hid (BoxW wr (W.heap.size + 1) wn0) ∧ Hid (Below W.heap.size W wr)) (fun iv _ => m - (intOf iv).toNat)
  case atStart => exact ⟨0, Nat.zero_le _, rfl, Lib.hid ⟨a, ClrW.zero H64.out T, HG.out⟩, HJ, HB⟩
  case round =>
    clear HG HJ HB HV
    obtain ⟨k, hk, rfl, HX, HJ, HB⟩ := hrel
    obtain ⟨x, hx, hg⟩ := HX.out
    have HG := Lib.hid hg
    have HCX := Lib.hid hx
    clear HX hx hg
    by_cases hlt : k < m
    · have hki : (k : Int) < (m : Int) := by omega
      obtain ⟨N, hN⟩ : ∃ N, N = T + k := ⟨_, rfl⟩
      have hNi : (T : Int) + (k : Int) = (N : Int) := by omega
      obtain ⟨p, hp⟩ : ∃ p, p = N % 1024 := ⟨_, rfl⟩
      have hpb : p < 1024 := by omega
      have CP := Lib.hid (fun w => wplace_any (N : Int) (by constructor <;> omega) p (by omega) w)
      have x0 : wr.cell? ⟨W.heap.size, 0, none⟩ = some (.int .i64 (T : Int)) := by rw [← HT.out, ← HCX.out.2.1]; exact HG.out.cell (winC_top x)
      obtain ⟨j, hj⟩ : ∃ j, j = p / 64 := ⟨_, rfl⟩
      obtain ⟨r, hr⟩ : ∃ r, r = p % 64 := ⟨_, rfl⟩
      have hj16 : j < 16 := by omega
      have j1 : (j : Int) < 16 := by omega
      have j0 : (0 : Int) ≤ (j : Int) := by omega
      have x1 := HG.out.cell (winC_b x hj16)
      have f1 := HG.out.thaw (1 + j)
      have hxb := HCX.out.1 j hj16
      have hyb := pow2_lt (show r ≤ 63 by omega)
      obtain ⟨u, hu⟩ : ∃ u, u = x.b j := ⟨_, rfl⟩
      obtain ⟨y, hy⟩ : ∃ y, y = 2 ^ r := ⟨_, rfl⟩
      rw [← hj, ← hr, ← hy] at CP
      rw [← hu] at x1 hxb
      rw [← hy] at hyb
      have hbit := u64_andNot_nat u y hxb hyb
      obtain ⟨z, hz⟩ : ∃ z, z = u &&& (18446744073709551615 - y) := ⟨_, rfl⟩
      rw [← hz] at hbit
      have HST := Lib.hid (show ClrW a T (k + 1) ⟨a.top, updN x.b j z⟩ from by
        have h := HCX.out.step (by omega) p (by rw [hp, hN]) (z := z) (by rw [hz, hu, hy, ← hj, ← hr])
        rw [← hj] at h
        exact h)
      have HTX := Lib.hid (show x.top = a.top from HCX.out.2.1)
      clear hu hy hz hj hr hp hN HCX
      go_wp2_with fail
      refine (CP.out _).mono ?_
      rintro e w1 ⟨rfl, hw⟩
      obtain rfl := hw.symm
      clear CP
      go_wp2
      go_roundw
      case rel => exact ⟨k + 1, by omega, by go_num, Lib.hid ⟨_, HST.out, by
        have h := HG.out.set (winC_setB x hj16 z)
        rw [HTX.out] at h
        exact h⟩, Lib.hid (by
        show (wr.setCell _ _).heap[_]? = _
        exact (Below.heap_setCell wr ⟨W.heap.size, 1 + j, none⟩ _ (W.heap.size + 1) (show W.heap.size + 1 ≠ W.heap.size by omega)).trans HJ.out), Lib.hid (HB.out.setCell (p := ⟨W.heap.size, 1 + j, none⟩) (Nat.le_refl _) _)⟩
      case measure => simp [intOf]; omega
    · have hki : ¬ (k : Int) < (m : Int) := by omega
      obtain rfl : k = m := by omega
      go_wp2_with (first | (refine loadW _ (.tmp 2) W.heap.size x HG.out rfl rfl rfl ?_) | (refine storeW _ (.tmp 4) (.tmp 30) (W.heap.size + 1) x _ HJ.out rfl rfl rfl rfl rfl ?_))
      refine bodyPost_ret (retWo rfl _ _ (W.heap.size + 1) x rfl (setRow_heap _ _ _ _ _ _ HJ.out)) rfl ?_
      exact ⟨⟨x, rfl, HCX.out.min HM.out⟩, Below.setRowG HB.out (by omega) _⟩
end Go.Proofs.Ytdnfggjklblpnaa
