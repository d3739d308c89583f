
/- Package frame: Push. -/
import Derived.Test.YtplekllhnpljiaaJ13
import Derived.Test.YtplekllhnpljiaaJ14
import Derived.Test.YtplekllhnpljiaaJ15
import Derived.WalkMore
import Derived.Deep.DeepCutAuto
namespace Go.Proofs.Ytplekllhnpljiaa
open Go.RowKit

set_option maxRecDepth 100000 in
theorem Ow.fresh8 {w : World} {base : Nat} {v : Value} {l : List UInt8} (h : Ow w base v l) : ∃ A c, v = .slice A l.length c ∧ l.length ≤ c ∧ c ≤ 9223372036854775807 ∧ Rd w w.heap.size A l ∧ ∀ p, A = some p → base ≤ p.block := by
  obtain ⟨A, c, e, h1, h2, h3⟩ := h.form
  refine ⟨A, c, e, h1, h2, h3, fun p hp => ?_⟩
  subst hp
  rcases h.2 with ⟨e2, _⟩ | ⟨g, cap, cur, e2, hbg, -⟩
  · rw [e] at e2; cases e2
  · rw [e] at e2
    cases e2
    exact hbg
/-- where the loop is: at the place k of all bytes -/
structure PuIn (F : Fd) (L : List UInt8) (W : World) (BV : Nat) (A7 : Option Addr) (a0 : Value) (k : Nat) (us : List Value) (R : List (List UInt8)) (sk bd : Int) (vo : Value) (wr : World) : Prop where
  at_ : AtF F L k sk bd R
  own : OwR wr BV vo us
  rows : SEs wr us R
  aw : ∀ g, g < W.heap.size → ∀ u ∈ us, AwV g u
  box : wr.heap[W.heap.size]? = some (.cells #[a0, .int .i64 sk, .int .i64 bd] 25 (0, 0))
  res : wr.heap[W.heap.size + 1]? = some (.cells #[.slice none 0 0, .int .i64 0, .int .i64 0] 25 (0, 0))
  bel : Below W.heap.size W wr
  all : Rd wr wr.heap.size A7 L
  size : BV ≤ wr.heap.size
set_option maxRecDepth 100000 in
theorem PuIn.go {F : Fd} {L : List UInt8} {W : World} {BV : Nat} {A7 : Option Addr} {a0 : Value} {k : Nat} {us : List Value} {R : List (List UInt8)} {sk bd : Int} {vo : Value} {wr w : World} (h : PuIn F L W BV A7 a0 k us R sk bd vo wr) (hb : Below wr.heap.size wr w) : PuIn F L W BV A7 a0 k us R sk bd vo w :=
  ⟨h.at_, h.own.call hb, h.rows.go hb, h.aw, oldG h.box hb (Nat.le_refl _), oldG h.res hb (Nat.le_refl _), belG h.bel hb h.bel.size, h.all.go hb, Nat.le_trans h.size hb.size⟩
set_option maxRecDepth 100000 in
theorem OwR.set1 {w : World} {base : Nat} {v : Value} {us : List Value} (h : OwR w base v us) (p : Addr) (x : Value) (hp : p.block < base) : OwR (w.setCell p x) base v us := by
  rcases h with h | ⟨g', cap, cur, h0, h1, h2, h3⟩
  · exact .inl h
  · exact .inr ⟨g', cap, cur, h0, h1, (Below.heap_setCell w p x g' (by omega)).trans h2, h3⟩
set_option maxRecDepth 100000 in
theorem Rd.set1 {w : World} {A : Option Addr} {l : List UInt8} {cur : Array Value} {t : TypeId} {fr : Nat × Nat} (h : Rd w w.heap.size A l) (p : Addr) (x : Value) (hg : w.heap[p.block]? = some (.cells cur t fr)) (hn : ∀ x ∈ cur.toList, NoB x = true) : Rd (w.setCell p x) (w.setCell p x).heap.size A l :=
  h.keepN hg hn (fun k hk => Below.heap_setCell w p x k hk) (by simp [World.setCell])
set_option maxRecDepth 100000 in
/-- a store into the feed's own box -/
theorem PuIn.store {F : Fd} {L : List UInt8} {W : World} {BV : Nat} {A7 A A' : Option Addr} {n c n' c' : Nat} {k : Nat} {us : List Value} {R : List (List UInt8)} {sk bd : Int} {vo : Value} {wr : World} (h : PuIn F L W BV A7 (.slice A n c) k us R sk bd vo wr) (hBV : BV = W.heap.size + 2)
    (i : Nat) (x : Value) {sk' bd' : Int} (hc : (#[.slice A n c, .int .i64 sk, .int .i64 bd] : Array Value).setIfInBounds i x = #[.slice A' n' c', .int .i64 sk', .int .i64 bd']) {k' : Nat} (hA : AtF F L k' sk' bd' R) : PuIn F L W BV A7 (.slice A' n' c') k' us R sk' bd' vo (wr.setCell ⟨W.heap.size, i, none⟩ x) := by
  have hk := fun A l (hr : Rd wr wr.heap.size A l) => hr.set1 ⟨W.heap.size, i, none⟩ x h.box (noB3 _ _ _ _ _)
  refine ⟨hA, h.own.set1 _ _ (by show W.heap.size < BV; omega), h.rows.keep hk, h.aw, ?_, ?_, h.bel.setCell (p := ⟨W.heap.size, i, none⟩) (Nat.le_refl _) _, hk _ _ h.all, ?_⟩
  · rw [← hc]
    exact heap_setCell_same wr W.heap.size i _ _ x h.box
  · exact (Below.heap_setCell wr ⟨W.heap.size, i, none⟩ x (W.heap.size + 1) (by simp)).trans h.res
  · simpa [World.setCell] using h.size
set_option maxRecDepth 100000 in
/-- two stores: one frame more was none -/
theorem PuIn.bad {F : Fd} {L : List UInt8} {W : World} {BV : Nat} {A7 A : Option Addr} {n c k : Nat} {us : List Value} {R : List (List UInt8)} {bd : Int} {vo : Value} {wr : World} (h : PuIn F L W BV A7 (.slice A n c) k us R 0 bd vo wr) (hBV : BV = W.heap.size + 2)
    (k' : Nat) (sk' : Int) (hA : AtF F L k' sk' (inc64 bd) R) : PuIn F L W BV A7 (.slice A n c) k' us R sk' (inc64 bd) vo ((wr.setCell ⟨W.heap.size, 2, none⟩ (.int .i64 (wrap64 (bd + 1)))).setCell ⟨W.heap.size, 1, none⟩ (.int .i64 sk')) := by
  have hk := fun A l (hr : Rd wr wr.heap.size A l) => hr.set1 ⟨W.heap.size, 2, none⟩ (.int .i64 (wrap64 (bd + 1))) h.box (noB3 _ _ _ _ _)
  have hb2 := heap_setCell_same wr W.heap.size 2 _ _ (.int .i64 (wrap64 (bd + 1))) h.box
  have hk2 := fun A l (hr : Rd (wr.setCell ⟨W.heap.size, 2, none⟩ (.int .i64 (wrap64 (bd + 1)))) (wr.setCell ⟨W.heap.size, 2, none⟩ (.int .i64 (wrap64 (bd + 1)))).heap.size A l) => hr.set1 ⟨W.heap.size, 1, none⟩ (.int .i64 sk') hb2 (noB3 _ n c 0 (wrap64 (bd + 1)))
  refine ⟨hA, (h.own.set1 _ _ (by show W.heap.size < BV; omega)).set1 _ _ (by show W.heap.size < BV; omega), (h.rows.keep hk).keep hk2, h.aw, ?_, ?_, (h.bel.setCell (p := ⟨W.heap.size, 2, none⟩) (Nat.le_refl _) _).setCell (p := ⟨W.heap.size, 1, none⟩) (Nat.le_refl _) _, hk2 _ _ (hk _ _ h.all), ?_⟩
  · exact heap_setCell_same _ W.heap.size 1 _ _ (.int .i64 sk') hb2
  · exact ((Below.heap_setCell _ ⟨W.heap.size, 1, none⟩ _ (W.heap.size + 1) (by simp)).trans (Below.heap_setCell wr ⟨W.heap.size, 2, none⟩ _ (W.heap.size + 1) (by simp))).trans h.res
  · simpa [World.setCell] using h.size
set_option maxRecDepth 100000 in
/-- a row more -/
theorem PuIn.row {F : Fd} {L : List UInt8} {W : World} {BV : Nat} {A7 AR : Option Addr} {a0 : Value} {k : Nat} {us : List Value} {R : List (List UInt8)} {sk bd : Int} {vo v6 : Value} {wr w6 : World} (h : PuIn F L W BV A7 a0 k us R sk bd vo wr) (hBV : BV = W.heap.size + 2) (hQ : ∀ p, A7 = some p → W.heap.size + 2 ≤ p.block)
    (k' i M : Nat) (hAR : AR = A7.map (fun x => x.add i)) (hA : AtF F L k' sk bd (R ++ [(L.drop i).take M])) (hM : ((L.drop i).take M).length = M) (hMm : M ≤ 9223372036854775807) (hr : Rd wr wr.heap.size (A7.map (fun x => x.add i)) ((L.drop i).take M))
    (ho : OwR w6 BV v6 (us ++ [.slice AR M M])) (hg : (wr.alloc (.cells #[.slice AR M M] 23)).grownBy w6 vo.ownBlock) :
    PuIn F L W BV A7 a0 k' (us ++ [.slice AR M M]) (R ++ [(L.drop i).take M]) sk bd v6 w6 := by
  have hal := (Below.refl wr.heap.size wr).alloc (Nat.le_refl _) (.cells #[.slice AR M M] 23)
  have hoa := h.own.alloc (.cells #[.slice AR M M] 23)
  have hK := fun (A : Option Addr) (l : List UInt8) (hr : Rd wr wr.heap.size A l) => Rd.grownR (hr.go hal) hoa hg
  have hB6 : Below BV wr w6 := hoa.below ((Below.refl BV wr).alloc h.size _) hg (Nat.le_trans h.size hal.size)
  refine ⟨hA, ho, (h.rows.keep hK).append (SEs.one ⟨_, M, by rw [hM], by rw [hM]; exact Nat.le_refl _, hMm, hK _ _ (by rw [hAR]; exact hr)⟩), fun g hgW u hu => ?_, (hB6.block W.heap.size (by omega)).trans h.box, (hB6.block (W.heap.size + 1) (by omega)).trans h.res, h.bel.trans (hB6.mono (by omega)), hK _ _ h.all, Nat.le_trans h.size hB6.size⟩
  rcases List.mem_append.1 hu with hu | hu
  · exact h.aw g hgW u hu
  · obtain rfl : u = .slice AR M M := by simpa using hu
    intro A' n' c' e h0 p hp
    cases e
    rw [hAR] at hp
    obtain ⟨p', hp', rfl⟩ := Option.map_eq_some_iff.1 hp
    have := hQ p' hp'
    have e : (p'.add i).block = p'.block := by unfold Addr.add; split <;> rfl
    rw [e]
    omega
set_option maxRecDepth 100000 in
theorem OwR.rc {w : World} {base n c : Nat} {A : Option Addr} {us : List Value} (h : OwR w base (.slice A n c) us) : RC w w.heap.size A us := by
  intro h0
  rcases h with ⟨e, rfl⟩ | ⟨g, cap, cur, e, h1, h2, h3, h4, h5, h6, -⟩
  · simp at h0
  · cases e
    refine ⟨g, 0, rfl, (Array.getElem?_eq_some_iff.1 h2).1, fun j u hu => ?_⟩
    have hju : j < us.length := (List.getElem?_eq_some_iff.1 hu).1
    have k : cur[j]? = us[j]? := by
      rw [← Array.getElem?_toList]
      conv => rhs; rw [← h6]
      rw [List.getElem?_take, if_pos (by omega)]
    rw [cell_of_row _ _ _ _ _ _ h2, Nat.zero_add, k, hu]
set_option maxRecDepth 100000 in
/-- the end -/
theorem PuIn.done {F : Fd} {L : List UInt8} {W : World} {BV : Nat} {A7 A8 : Option Addr} {N k c8 : Nat} {us : List Value} {R : List (List UInt8)} {sk bd : Int} {vo x y : Value} {w : World} (h : PuIn F L W BV A7 (.slice A8 (N - k) c8) k us R sk bd vo w) (hBV : BV = W.heap.size + 2) (hN : N = L.length)
    (hE : pushF F L = (⟨L.drop k, sk, bd⟩, R)) (p1 : N - k ≤ c8) (p2 : c8 ≤ 9223372036854775807) (p3 : Rd w w.heap.size A8 (L.drop k)) (p4 : ∀ p, A8 = some p → W.heap.size ≤ p.block) :
    AnsPushD W.heap.size x y (set3F w (W.heap.size + 1) (.slice A8 (N - k) c8) (.int .i64 sk) (.int .i64 bd)) (.returned (.tuple #[.agg #[.slice A8 (N - k) c8, .int .i64 sk, .int .i64 bd], vo])) (pushF F L).1 (pushF F L).2 ∧ Below W.heap.size W (set3F w (W.heap.size + 1) (.slice A8 (N - k) c8) (.int .i64 sk) (.int .i64 bd)) := by
  have hno : ∀ u ∈ (#[.slice none 0 0, .int .i64 0, .int .i64 0] : Array Value).toList, NoB u = true := noB3 none 0 0 0 0
  have hoth := fun j hj => set3F_other w (W.heap.size + 1) j (.slice A8 (N - k) c8) (.int .i64 sk) (.int .i64 bd) hj
  have hsz := set3F_size w (W.heap.size + 1) (.slice A8 (N - k) c8) (.int .i64 sk) (.int .i64 bd)
  have hk := fun (A : Option Addr) (l : List UInt8) (hr : Rd w w.heap.size A l) => hr.keepN h.res hno hoth (Nat.le_of_eq hsz.symm)
  have hl : (L.drop k).length = N - k := by rw [List.length_drop, hN]
  have hO : OwR (set3F w (W.heap.size + 1) (.slice A8 (N - k) c8) (.int .i64 sk) (.int .i64 bd)) BV vo us := h.own.keepN (by omega) hoth
  obtain ⟨A9, c9, rfl, r1, r2⟩ := h.own.form
  rw [hE]
  refine ⟨⟨A8, c8, A9, c9, us, by rw [hl, h.rows.1], by rw [hl]; exact p1, p2, hk _ _ p3, by rw [← h.rows.1]; exact r1, r2, h.rows.keep hk, hO.rc, fun g hg _ _ => ⟨?_, h.aw g hg⟩, fun h0 => ?_⟩, Below.set3F h.bel (Nat.le_succ _) _ _ _⟩
  · intro A' n' c' e _ p hp
    cases e
    have := p4 p hp
    omega
  · obtain ⟨b, o, e, h1⟩ := OwR.fresh hO (by rw [h.rows.1]; exact h0)
    exact ⟨b, o, e, by omega⟩
set_option maxRecDepth 100000 in
set_option maxHeartbeats 4000000 in
theorem fPush0_any (A : Option Addr) (l : List UInt8) (c : Nat) (s b : Int) (B : Option Addr) (v : List UInt8) (d : Nat) (W : World) (hR : RightFd ⟨l, s, b⟩) (hr : Rd W W.heap.size A l) (hv : v.length ≤ 50000) (hs : Rd W W.heap.size B v) (x y : Value) :
    Calls Try.prog 35 #[.agg #[.slice A l.length c, .int .i64 s, .int .i64 b], .slice B v.length d] W fun e W' => AnsPushD W.heap.size x y W' e (pushF ⟨l, s, b⟩ v).1 (pushF ⟨l, s, b⟩ v).2 ∧ Below W.heap.size W W' := by
  have hsh := hR.short
  obtain ⟨L, hL⟩ : ∃ L, L = l ++ v := ⟨_, rfl⟩
  obtain ⟨n, hn⟩ : ∃ n, n = l.length := ⟨_, rfl⟩
  obtain ⟨m, hm⟩ : ∃ m, m = v.length := ⟨_, rfl⟩
  obtain ⟨N, hN⟩ : ∃ N, N = L.length := ⟨_, rfl⟩
  have HNN := Lib.hid (show N = n + m by rw [hN, hL, List.length_append, hn, hm])
  obtain ⟨k0, hk0⟩ : ∃ k, k = min s.toNat L.length := ⟨_, rfl⟩
  have HA0 := Lib.hid (at_begin hR L k0 hk0)
  have HST := Lib.hid (show pushF ⟨l, s, b⟩ v = pushF ⟨[], s, b⟩ L by rw [hL]; exact at_start hR v)
  have hs0 : 0 ≤ s := hR.1
  have hs1 : s ≤ 65535 := hR.2.1
  rw [HST.out]
  obtain ⟨V, hV, hb, g1, g2⟩ := box2x W #[.slice A l.length c, .int .i64 s, .int .i64 b] #[.slice none 0 0, .int .i64 0, .int .i64 0] 25 25
  have HVS := Lib.hid (show V.heap.size = W.heap.size + 2 by rw [hV]; simp)
  have hsh' : l.length < 1026 := hsh
  have CC := Lib.hid (concat82_any A B l v n m c d V hn hm (by omega) (by omega) (hr.go hb) (hs.go hb))
  rw [← hL] at CC
  have hN1 : N ≤ 51026 := by rw [HNN.out]; omega
  have HMIN := Lib.hid (show ((N : Int) < s → k0 = N) ∧ (¬ (N : Int) < s → (k0 : Int) = s) from ⟨fun h => by rw [hk0, ← hN]; omega, fun h => by rw [hk0, ← hN]; omega⟩)
  have HNL := Lib.hid hN
  rw [← hn] at hV g1 ⊢
  rw [← hm]
  have HV := Lib.hid hV
  have HB := Lib.hid hb
  have G1 := Lib.hid g1
  have G2 := Lib.hid g2
  clear hV hb g1 g2 hR hr hs hn hm hsh hsh' hL hN hk0 hv
  go_enter Try.func35, Try.ntmps35
  go_wp2_with fail
  go_step3
  rw [← HV.out]
  clear HV
  obtain ⟨x0, x1, x2⟩ := cG3 G1.out
  go_wp2_with fail
  refine CC.out.mono ?_
  rintro e w1 ⟨⟨v1, rfl, ho⟩, hb⟩
  obtain ⟨A7, c7, rfl, q1, q2, q3, q4⟩ := ho.fresh8
  rw [← HNL.out] at q1 ⊢
  have HB1 := Lib.hid (belG HB.out hb HB.out.size)
  have G1' := Lib.hid (oldG G1.out hb (Nat.le_refl _))
  have G2' := Lib.hid (oldG G2.out hb (Nat.le_refl _))
  have RL := Lib.hid q3
  have QB := Lib.hid (show ∀ p, A7 = some p → W.heap.size + 2 ≤ p.block from fun p hp => by rw [← HVS.out]; exact q4 p hp)
  have HSZ := Lib.hid hb.size
  clear hb ho q3 q4 CC G1 G2 x0 x1 x2
  obtain ⟨x0, x1, x2⟩ := cG3 G1'.out
  go_upto_region 3 with (fail)
  go_cut [8] (fun t8 wx => t8 = .int .i64 (k0 : Int) ∧ wx = w1)
  case first =>
    go_wp2_with fail
    all_goals
      go_meet
      case rel => exact ⟨by congr 1; have h1 := HMIN.out; omega, rfl⟩
  case rest =>
  obtain ⟨rfl, rfl⟩ := hcut
  have HP0 := Lib.hid (show PuIn ⟨[], s, b⟩ L W (W.heap.size + 2) A7 (.slice A n c) k0 [] [] (s - k0) b (.slice none 0 0) (wc.setCell ⟨W.heap.size, 1, none⟩ (.int .i64 (s - k0))) from
    ⟨HA0.out, OwR.nil, SEs.nil, fun g _ u hu => absurd hu (by simp), heap_setCell_same wc W.heap.size 1 _ _ _ G1'.out, (Below.heap_setCell wc ⟨W.heap.size, 1, none⟩ _ (W.heap.size + 1) (by simp)).trans G2'.out, HB1.out.setCell (p := ⟨W.heap.size, 1, none⟩) (Nat.le_refl _) _, RL.out.set1 ⟨W.heap.size, 1, none⟩ _ G1'.out (noB3 _ _ _ _ _), by simpa [World.setCell, HVS.out] using HSZ.out⟩)
  have u1 := fG G1'.out 1
  have hk0s := HA0.out.lo
  clear HA0
  go_wp2_with fail
  go_step3
  generalize wc.setCell ⟨W.heap.size, 1, none⟩ (.int .i64 (s - k0)) = w2 at *
  go_wp2_with fail
  go_loopw [6, 8] (fun vo t8 wr => ∃ (k : Nat) (us : List Value) (R : List (List UInt8)) (sk bd : Int), k ≤ N ∧ t8 = .int .i64 (k : Int) ∧ Hid (PuIn ⟨[], s, b⟩ L W (W.heap.size + 2) A7 (.slice A n c) k us R sk bd vo wr)) (fun _ t8 _ => N - (intOf t8).toNat)
  case atStart => exact ⟨k0, [], [], s - k0, b, by have h := HMIN.out; omega, rfl, HP0⟩
  case round =>
    obtain ⟨k, us, R, sk, bd, hkN, rfl, HP⟩ := hrel
    have i0 : (0 : Int) ≤ (k : Int) := Int.natCast_nonneg _
    by_cases hlt : k + 2 ≤ N
    · have hc7 : ¬ c7 = k := by omega
      have hsk : sk = 0 := by
        have h1 := HP.out.at_.lo
        have h2 := HP.out.at_.ends
        have h3 := HNL.out
        by_cases h : 0 < sk
        · have := h2 h; omega
        · omega
      subst hsk
      have hLk : (L.drop k).length = N - k := by rw [List.length_drop, ← HNL.out]
      have hcut := (HP.out.all).cut k (N - k) c7 (by rw [← HNL.out]; omega) (by rw [← HNL.out]; omega)
      rw [if_neg hc7, List.take_of_length_le (by omega)] at hcut
      have CT := Lib.hid (show Calls Try.prog 37 #[.slice (A7.map (fun x => x.add k)) (N - k) (c7 - k)] wr fun e W' => e = .returned (.int .i64 (nF (L.drop k) : Nat)) ∧ Below wr.heap.size wr W' from by
        have h := told_any (A7.map (fun x => x.add k)) (L.drop k) (c7 - k) wr (by omega) (by rw [Nat.mul_one] at hcut; exact hcut)
        rw [hLk] at h
        exact h)
      obtain ⟨M, hM⟩ : ∃ M, M = nF (L.drop k) := ⟨_, rfl⟩
      have hMb := nF_lt (L.drop k)
      rw [← hM] at CT hMb
      have HM := Lib.hid hM
      have CM := Lib.hid (fun w => may_any (M : Int) w)
      clear hcut hLk hM
      have i1 : (2 : Int) ≤ (N : Int) - (k : Int) := by omega
      go_wp2_with fail
      refine CT.out.mono ?_
      rintro e w3 ⟨rfl, hb⟩
      have HP3 := Lib.hid (HP.out.go hb)
      clear hb CT HP
      generalize hwr : wr = wq at *
      clear hwr
      go_wp2_with fail
      refine (CM.out _).mono ?_
      rintro e w4 ⟨rfl, rfl⟩
      clear CM
      by_cases hmay : 1 ≤ (M : Int) ∧ (M : Int) ≤ 1024
      · rw [decide_eq_true hmay]
        obtain ⟨j1, j2⟩ := hmay
        by_cases hend : N < k + 2 + M
        · have i2 : (N : Int) < (k : Int) + 2 + (M : Int) := by omega
          have HE := Lib.hid (at_end HP3.out.at_ (.inr (by have h1 := HM.out; have h2 := HNL.out; omega)))
          clear hlt
          have CL := Lib.hid (fun (AK : Option Addr) (cK : Nat) (h : Rd w4 w4.heap.size AK (L.drop k)) => (show Calls Try.prog 41 #[.slice AK (N - k) cK] w4 fun e w' => AnsOw8 w4.heap.size w' e (L.drop k) ∧ Below w4.heap.size w4 w' from by
            have h2 := clone8_any AK (L.drop k) cK w4 (by rw [List.length_drop, ← HNL.out]; omega) h
            rw [List.length_drop, ← HNL.out] at h2
            exact h2))
          have hcut := (HP3.out.all).cut k (N - k) c7 (by rw [← HNL.out]; omega) (by rw [← HNL.out]; omega)
          rw [List.take_of_length_le (by rw [List.length_drop, ← HNL.out]; exact Nat.le_refl _), Nat.mul_one] at hcut
          by_cases hck : c7 = k
          all_goals try (exfalso; omega)
          all_goals
            first
            | (rw [if_pos hck] at hcut)
            | (rw [if_neg hck] at hcut)
            have HCU := Lib.hid hcut
            clear hcut
            go_wp2_with fail
            refine (CL.out _ _ HCU.out).mono ?_
            rintro e w5 ⟨⟨v5, rfl, ho⟩, hb⟩
            obtain ⟨A8, c8, rfl, p1, p2, p3, p4⟩ := ho.fresh8
            rw [List.length_drop, ← HNL.out] at p1 ⊢
            have HP5 := Lib.hid (HP3.out.go hb)
            have P4 := Lib.hid (show ∀ p, A8 = some p → W.heap.size ≤ p.block from fun p hp => Nat.le_trans HP3.out.bel.size (p4 p hp))
            have P3 := Lib.hid p3
            clear ho hb p3 p4 CL HCU
            have z1 := HP5.out.box
            obtain ⟨x0, x1, x2⟩ := cG3 z1
            have u0 := fG z1 0
            have HP6 := Lib.hid (HP5.out.store rfl 0 (.slice A8 (N - k) c8) rfl HP5.out.at_)
            have HR6 := Lib.hid (P3.out.set1 ⟨W.heap.size, 0, none⟩ (.slice A8 (N - k) c8) z1 (noB3 _ _ _ _ _))
            clear z1
            go_upto_region 16 with (fail)
            generalize w5.setCell ⟨W.heap.size, 0, none⟩ (.slice A8 (N - k) c8) = Y at *
            clear u0 x0 x1 x2
            obtain ⟨x0, x1, x2⟩ := cG3 HP6.out.box
            obtain ⟨y0, y1, y2⟩ := cG3 HP6.out.res
            have u0 := fG HP6.out.res 0
            have u1 := fG HP6.out.res 1
            have u2 := fG HP6.out.res 2
            have HD := Lib.hid (HP6.out.done (x := x) (y := y) rfl HNL.out HE.out p1 p2 HR6.out P4.out)
            clear HP3 HP5
            go_wp2
            rw [Exit.noGoto_ret]
            refine bodyPost_ret (retFd rfl _ (set3F Y (W.heap.size + 1) (.slice A8 (N - k) c8) (.int .i64 0) (.int .i64 bd)) (W.heap.size + 1) _ _ _ _ rfl rfl (set3F_same _ _ _ HP6.out.res)) rfl ?_
            exact HD.out
        · have i2 : ¬ (N : Int) < (k : Int) + 2 + (M : Int) := by omega
          have HAR := Lib.hid (at_row HP3.out.at_ M HM.out (by omega) (by omega) (by rw [← HNL.out]; omega))
          have hlr : ((L.drop (k + 2)).take M).length = M := by rw [List.length_take, List.length_drop, ← HNL.out]; omega
          have hrw := (HP3.out.all).cut (k + 2) M c7 (by rw [← HNL.out]; omega) (by rw [← HNL.out]; omega)
          rw [if_neg (by omega), Nat.mul_one] at hrw
          have HRW := Lib.hid hrw
          have HLR := Lib.hid hlr
          have HUL := Lib.hid (show us.length ≤ 60000 by have h1 := HP3.out.rows.1; have h2 := HP3.out.at_.rows; omega)
          clear hrw hlr hlt hend
          obtain ⟨b7, o7, rfl, -, -⟩ := HP3.out.all (by rw [← HNL.out]; omega)
          go_wp2_with (at_builtin; refine wpList_appR _ rfl (.tmp 40) (.tmp 47) rfl (W.heap.size + 2) _ us rfl (by exact HP3.out.own.alloc _) ⟨w4.heap.size, 0, none⟩ 1 1 rfl [.slice (some ⟨b7, o7 + (k + 2), none⟩) M M] rfl (by exact cell_one_new _ _ _) (by intro u hu; have hu' : u = .slice (some ⟨b7, o7 + (k + 2), none⟩) M M := (by simpa using hu); exact ⟨_, _, _, hu'⟩) (by decide) (by have := HUL.out; omega) (by exact le_alloc HP3.out.size _) ?_; intro v6 w6 hown6 hgrow6; have HP6 := Lib.hid (HP3.out.row rfl QB.out (k + 2 + M) (k + 2) M (by simp only [Option.map_some, Addr.add_lit]) HAR.out HLR.out (by omega) HRW.out hown6 hgrow6); clear hown6 hgrow6)
          go_roundw
          case rel => exact ⟨k + 2 + M, _, _, 0, bd, by omega, by go_num, HP6⟩
          case measure => simp [intOf]; omega
      · rw [decide_eq_false hmay]
        obtain ⟨k', hk'⟩ : ∃ k', k' = min (k + 2 + M) N := ⟨_, rfl⟩
        have HAB := Lib.hid (at_bad HP3.out.at_ (by rw [← HNL.out]; omega) M k' HM.out (by omega) (by rw [hk', HNL.out]))
        have z1 := HP3.out.box
        obtain ⟨x0, x1, x2⟩ := cG3 z1
        have u1 := fG z1 1
        have u2 := fG z1 2
        clear z1
        by_cases hend : N < k + 2 + M
        · have i2 : (N : Int) < (k : Int) + 2 + (M : Int) := by omega
          obtain rfl : k' = N := by omega
          have HPB := Lib.hid (HP3.out.bad rfl k' ((k : Int) + 2 + (M : Int) - (k' : Int)) (by have h := HAB.out; push_cast at h; exact h))
          clear hk' hmay
          go_wp2
          go_roundw
          case rel => exact ⟨k', _, _, _, _, by omega, by go_num, HPB⟩
          case measure => simp [intOf]; omega
        · have i2 : ¬ (N : Int) < (k : Int) + 2 + (M : Int) := by omega
          obtain rfl : k' = k + 2 + M := by omega
          have HPB := Lib.hid (HP3.out.bad rfl (k + 2 + M) 0 (by have h := HAB.out; push_cast at h; simpa using h))
          clear hk' hmay
          go_wp2
          go_roundw
          case rel => exact ⟨k + 2 + M, _, _, _, _, by omega, by go_num, HPB⟩
          case measure => simp [intOf]; omega
    · have i1 : ¬ (2 : Int) ≤ (N : Int) - (k : Int) := by omega
      have HP3 := HP
      have HE := Lib.hid (at_end HP3.out.at_ (.inl (by rw [← HNL.out]; omega)))
      obtain ⟨w3, hw3⟩ : ∃ w, w = wr := ⟨_, rfl⟩
      rw [← hw3] at HP3
      clear hlt
      subst hw3
      clear HP
      have CL := Lib.hid (fun (AK : Option Addr) (cK : Nat) (h : Rd w3 w3.heap.size AK (L.drop k)) => (show Calls Try.prog 41 #[.slice AK (N - k) cK] w3 fun e w' => AnsOw8 w3.heap.size w' e (L.drop k) ∧ Below w3.heap.size w3 w' from by
        have h2 := clone8_any AK (L.drop k) cK w3 (by rw [List.length_drop, ← HNL.out]; omega) h
        rw [List.length_drop, ← HNL.out] at h2
        exact h2))
      have hcut := (HP3.out.all).cut k (N - k) c7 (by rw [← HNL.out]; omega) (by rw [← HNL.out]; omega)
      rw [List.take_of_length_le (by rw [List.length_drop, ← HNL.out]; exact Nat.le_refl _), Nat.mul_one] at hcut
      by_cases hck : c7 = k
      all_goals try (exfalso; omega)
      all_goals
        first
        | (rw [if_pos hck] at hcut)
        | (rw [if_neg hck] at hcut)
        have HCU := Lib.hid hcut
        clear hcut
        go_wp2_with fail
        refine (CL.out _ _ HCU.out).mono ?_
        rintro e w5 ⟨⟨v5, rfl, ho⟩, hb⟩
        obtain ⟨A8, c8, rfl, p1, p2, p3, p4⟩ := ho.fresh8
        rw [List.length_drop, ← HNL.out] at p1 ⊢
        have HP5 := Lib.hid (HP3.out.go hb)
        have P4 := Lib.hid (show ∀ p, A8 = some p → W.heap.size ≤ p.block from fun p hp => Nat.le_trans HP3.out.bel.size (p4 p hp))
        have P3 := Lib.hid p3
        clear ho hb p3 p4 CL HCU
        have z1 := HP5.out.box
        obtain ⟨x0, x1, x2⟩ := cG3 z1
        have u0 := fG z1 0
        have HP6 := Lib.hid (HP5.out.store rfl 0 (.slice A8 (N - k) c8) rfl HP5.out.at_)
        have HR6 := Lib.hid (P3.out.set1 ⟨W.heap.size, 0, none⟩ (.slice A8 (N - k) c8) z1 (noB3 _ _ _ _ _))
        clear z1
        go_upto_region 16 with (fail)
        generalize w5.setCell ⟨W.heap.size, 0, none⟩ (.slice A8 (N - k) c8) = Y at *
        clear u0 x0 x1 x2
        obtain ⟨x0, x1, x2⟩ := cG3 HP6.out.box
        obtain ⟨y0, y1, y2⟩ := cG3 HP6.out.res
        have u0 := fG HP6.out.res 0
        have u1 := fG HP6.out.res 1
        have u2 := fG HP6.out.res 2
        have HD := Lib.hid (HP6.out.done (x := x) (y := y) rfl HNL.out HE.out p1 p2 HR6.out P4.out)
        clear HP3 HP5
        go_wp2
        rw [Exit.noGoto_ret]
        refine bodyPost_ret (retFd rfl _ (set3F Y (W.heap.size + 1) (.slice A8 (N - k) c8) (.int .i64 sk) (.int .i64 bd)) (W.heap.size + 1) _ _ _ _ rfl rfl (set3F_same _ _ _ HP6.out.res)) rfl ?_
        exact HD.out
end Go.Proofs.Ytplekllhnpljiaa
/- Package frame: what each call answers. (Proved of the landed code: XFdL, XFdN, XFdO.) -/

namespace Go.Proofs.Ytplekllhnpljiaa
open Go.RowKit

set_option maxRecDepth 100000 in
theorem fRight_any (A : Option Addr) (l : List UInt8) (c : Nat) (s b : Int) (W : World) (hl : l.length ≤ 50000) (_hs : -9223372036854775808 ≤ s ∧ s ≤ 9223372036854775807) (hr : Rd W W.heap.size A l) :
    Calls Try.prog 30 #[.agg #[.slice A l.length c, .int .i64 s, .int .i64 b]] W fun e W' => e = .returned (.bool (decide (RightFd ⟨l, s, b⟩))) ∧ Below W.heap.size W W' :=
  fRight0_any A l c s b W hl hr
set_option maxRecDepth 100000 in
theorem fSame_any (A B : Option Addr) (l m : List UInt8) (c d : Nat) (s1 b1 s2 b2 : Int) (W : World) (_hl : l.length ≤ 50000) (_hm : m.length ≤ 50000) (hr : Rd W W.heap.size A l) (hs : Rd W W.heap.size B m) :
    Calls Try.prog 31 #[.agg #[.slice A l.length c, .int .i64 s1, .int .i64 b1], .agg #[.slice B m.length d, .int .i64 s2, .int .i64 b2]] W fun e W' => e = .returned (.bool (decide (l = m ∧ s1 = s2 ∧ b1 = b2))) ∧ Below W.heap.size W W' :=
  fSame0_any A B l m c d s1 b1 s2 b2 W hr hs
set_option maxRecDepth 100000 in
theorem fPushD_any (A : Option Addr) (l : List UInt8) (c : Nat) (s b : Int) (B : Option Addr) (v : List UInt8) (d : Nat) (W : World) (hR : RightFd ⟨l, s, b⟩) (_hc : l.length ≤ c) (_hcm : c ≤ 9223372036854775807) (_hb : -9223372036854775808 ≤ b ∧ b ≤ 9223372036854775807) (hr : Rd W W.heap.size A l) (hv : v.length ≤ 50000) (_hd : v.length ≤ d) (_hdm : d ≤ 9223372036854775807) (hs : Rd W W.heap.size B v) :
    Calls Try.prog 35 #[.agg #[.slice A l.length c, .int .i64 s, .int .i64 b], .slice B v.length d] W fun e W' => AnsPushD W.heap.size (.slice A l.length c) (.slice B v.length d) W' e (pushF ⟨l, s, b⟩ v).1 (pushF ⟨l, s, b⟩ v).2 ∧ Below W.heap.size W W' :=
  fPush0_any A l c s b B v d W hR hr hv hs _ _
set_option maxRecDepth 100000 in
theorem fPush_any (A : Option Addr) (l : List UInt8) (c : Nat) (s b : Int) (B : Option Addr) (v : List UInt8) (d : Nat) (W : World) (hR : RightFd ⟨l, s, b⟩) (hc : l.length ≤ c) (hcm : c ≤ 9223372036854775807) (hb : -9223372036854775808 ≤ b ∧ b ≤ 9223372036854775807) (hr : Rd W W.heap.size A l) (hv : v.length ≤ 50000) (hd : v.length ≤ d) (hdm : d ≤ 9223372036854775807) (hs : Rd W W.heap.size B v) :
    Calls Try.prog 35 #[.agg #[.slice A l.length c, .int .i64 s, .int .i64 b], .slice B v.length d] W fun e W' => AnsPush W' e (pushF ⟨l, s, b⟩ v).1 (pushF ⟨l, s, b⟩ v).2 ∧ Below W.heap.size W W' :=
  (fPushD_any A l c s b B v d W hR hc hcm hb hr hv hd hdm hs).mono fun _ _ h => ⟨h.1.ans, h.2⟩
end Go.Proofs.Ytplekllhnpljiaa
