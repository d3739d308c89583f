
/- The document's answer (frame): Push. -/
import Derived.Test.YtplekllhnpljiaaJ12
namespace Go.Proofs.Ytplekllhnpljiaa
open Go.RowKit

set_option maxRecDepth 100000 in
/-- bytes, where one block alone changes, in which no byte lies -/
theorem Rd.keepN {w w' : World} {g : Nat} {A : Option Addr} {l : List UInt8} {cur : Array Value} {t : TypeId} {fr : Nat × Nat} (h : Rd w w.heap.size A l) (hg : w.heap[g]? = some (.cells cur t fr)) (hn : ∀ x ∈ cur.toList, NoB x = true) (hk : ∀ k, k ≠ g → w'.heap[k]? = w.heap[k]?) (hs : w.heap.size ≤ w'.heap.size) : Rd w' w'.heap.size A l := by
  intro h0
  obtain ⟨b, o, rfl, hb, hc⟩ := h h0
  have hne := Rd.notF (w := w) (B := w.heap.size) (A := some ⟨b, o, none⟩) (l := l) (fun _ => ⟨b, o, rfl, hb, hc⟩) hg hn h0 ⟨b, o, none⟩ rfl
  exact ⟨b, o, rfl, by omega, fun j hj => by rw [World.cell?_of_block (w := w) (a := ⟨b, o + j, none⟩) (hk b hne)]; exact hc j hj⟩
set_option maxRecDepth 100000 in
theorem OwR.keepN {w w' : World} {base g : Nat} {v : Value} {us : List Value} (h : OwR w base v us) (hg : g < base) (hk : ∀ k, k ≠ g → w'.heap[k]? = w.heap[k]?) : OwR w' base v us := by
  rcases h with h | ⟨g', cap, cur, h0, h1, h2, h3⟩
  · exact .inl h
  · exact .inr ⟨g', cap, cur, h0, h1, (hk g' (by omega)).trans h2, h3⟩
set_option maxRecDepth 100000 in
theorem noB3 (A : Option Addr) (n c : Nat) (x y : Int) : ∀ u ∈ (#[.slice A n c, .int .i64 x, .int .i64 y] : Array Value).toList, NoB u = true := by
  intro u hu
  simp at hu
  rcases hu with rfl | rfl | rfl <;> rfl
def AnsPush (W' : World) (e : Ending) (f : Fd) (rs : List (List UInt8)) : Prop := ∃ A1 c1 A2 c2, e = .returned (.tuple #[.agg #[.slice A1 f.buf.length c1, .int .i64 f.skip, .int .i64 f.bad], .slice A2 rs.length c2]) ∧ f.buf.length ≤ c1 ∧ c1 ≤ 9223372036854775807 ∧ Rd W' W'.heap.size A1 f.buf ∧ rs.length ≤ c2 ∧ c2 ≤ 9223372036854775807 ∧ Mat W' W'.heap.size A2 rs
/-- the same, and the frames' row lies in new memory (from block N on) -/
def AnsPushN (N : Nat) (W' : World) (e : Ending) (f : Fd) (rs : List (List UInt8)) : Prop := ∃ A1 c1 A2 c2, e = .returned (.tuple #[.agg #[.slice A1 f.buf.length c1, .int .i64 f.skip, .int .i64 f.bad], .slice A2 rs.length c2]) ∧ f.buf.length ≤ c1 ∧ c1 ≤ 9223372036854775807 ∧ Rd W' W'.heap.size A1 f.buf ∧ rs.length ≤ c2 ∧ c2 ≤ 9223372036854775807 ∧ Mat W' W'.heap.size A2 rs ∧ (0 < rs.length → ∃ b o, A2 = some ⟨b, o, none⟩ ∧ N ≤ b)
set_option maxRecDepth 100000 in
theorem AnsPushN.ans {N : Nat} {W' : World} {e : Ending} {f : Fd} {rs : List (List UInt8)} (h : AnsPushN N W' e f rs) : AnsPush W' e f rs := by
  obtain ⟨A1, c1, A2, c2, h1, h2, h3, h4, h5, h6, h7, -⟩ := h
  exact ⟨A1, c1, A2, c2, h1, h2, h3, h4, h5, h6, h7⟩
set_option maxRecDepth 100000 in
theorem OwR.fresh {w : World} {base n c : Nat} {A : Option Addr} {us : List Value} (h : OwR w base (.slice A n c) us) (h0 : 0 < us.length) : ∃ b o, A = some ⟨b, o, none⟩ ∧ base ≤ b := by
  rcases h with ⟨e, rfl⟩ | ⟨g, cap, cur, e, h1, -⟩
  · simp at h0
  · cases e
    exact ⟨g, 0, rfl, h1⟩
/-- the box at g holds a feed -/
def BoxFd (w : World) (g : Nat) (f : Fd) : Prop := ∃ A c, w.heap[g]? = some (.cells #[.slice A f.buf.length c, .int .i64 f.skip, .int .i64 f.bad] 25 (0, 0)) ∧ f.buf.length ≤ c ∧ c ≤ 9223372036854775807 ∧ Rd w w.heap.size A f.buf

set_option maxRecDepth 100000 in
set_option maxHeartbeats 4000000 in
theorem refPushN_any (A : Option Addr) (l : List UInt8) (c : Nat) (s b : Int) (B : Option Addr) (v : List UInt8) (d : Nat) (W : World) (hR : RightFd ⟨l, s, b⟩) (hc : l.length ≤ c) (hcm : c ≤ 9223372036854775807) (hr : Rd W W.heap.size A l) (hv : v.length ≤ 100000) (hs : Rd W W.heap.size B v) :
    Calls Try.prog 26 #[.agg #[.slice A l.length c, .int .i64 s, .int .i64 b], .slice B v.length d] W fun e W' => AnsPushN W.heap.size W' e (pushF ⟨l, s, b⟩ v).1 (pushF ⟨l, s, b⟩ v).2 ∧ Below W.heap.size W W' := by
  obtain ⟨V, hV, hb, g1, g2⟩ := box2x W #[.slice A l.length c, .int .i64 s, .int .i64 b] #[.slice none 0 0, .int .i64 0, .int .i64 0] 25 25
  have HVS := Lib.hid (show V.heap.size = W.heap.size + 2 by rw [hV]; simp)
  obtain ⟨F, hF⟩ : ∃ F : Fd, F = ⟨l, s, b⟩ := ⟨_, rfl⟩
  have HB0 := Lib.hid (show BoxFd V W.heap.size F from by rw [hF]; exact ⟨A, c, g1, hc, hcm, hr.go hb⟩)
  rw [← hF] at hR ⊢
  have HRF := Lib.hid (fun k => right_push (v.take k) hR)
  have HSN := Lib.hid (fun k h => pushF_snoc v k h F)
  have HPL := Lib.hid (fun k => push_len (v.take k) F)
  have HV := Lib.hid hV
  have HB := Lib.hid hb
  have RB := Lib.hid (fun w (h : Below W.heap.size W w) => (hs.below h (Nat.le_refl _)).more h.size)
  have HG2 := Lib.hid g2
  obtain ⟨n, hn⟩ : ∃ n, n = l.length := ⟨_, rfl⟩
  obtain ⟨m, hm⟩ : ∃ m, m = v.length := ⟨_, rfl⟩
  have HM := Lib.hid hm
  rw [← hn] at HV ⊢
  rw [← hm] at hv ⊢
  clear hV hb g1 g2 hF hR hr hs hn hm hc hcm
  obtain ⟨P, hP⟩ : ∃ P : Nat → Fd × List (List UInt8), P = fun k => pushF F (v.take k) := ⟨_, rfl⟩
  have HPE := Lib.hid (show pushF F v = P m by rw [hP, HM.out]; simp only [List.take_length])
  rw [HPE.out]
  have HP0 := Lib.hid (show P 0 = (F, []) by rw [hP]; rfl)
  have HRP := Lib.hid (show ∀ k, RightFd (P k).1 by rw [hP]; exact HRF.out)
  have HPN := Lib.hid (show ∀ k (h : k < v.length), P (k + 1) = ((oneF (P k).1 v[k]).1, (P k).2 ++ rowF (oneF (P k).1 v[k]).2) by rw [hP]; exact HSN.out)
  have HPS := Lib.hid (show ∀ k, (P k).2.length ≤ k by rw [hP]; exact fun k => Nat.le_trans (HPL.out k) (by rw [List.length_take]; omega))
  clear hP HRF HSN HPL HPE
  go_enter Try.func26, Try.ntmps26
  go_wp2
  rw [← HV.out]
  clear HV
  go_loopw [7, 6] (fun i vo wr => ∃ k : Nat, ∃ us : List Value, k ≤ m ∧ i = .int .i64 k ∧ Hid (OwR wr (W.heap.size + 2) vo us) ∧ Hid (SEs wr us (P k).2) ∧ Hid (BoxFd wr W.heap.size (P k).1) ∧ Hid (wr.heap[W.heap.size + 1]? = some (.cells #[.slice none 0 0, .int .i64 0, .int .i64 0] 25 (0, 0))) ∧ Hid (Below W.heap.size W wr) ∧ Hid (W.heap.size + 2 ≤ wr.heap.size)) (fun i _ _ => m - (intOf i).toNat)
  case atStart => exact ⟨0, [], Nat.zero_le _, rfl, Lib.hid OwR.nil, Lib.hid (by rw [HP0.out]; exact SEs.nil), Lib.hid (by rw [HP0.out]; exact HB0.out), Lib.hid HG2.out, Lib.hid HB.out, Lib.hid (by rw [HVS.out]; exact Nat.le_refl _)⟩
  case round =>
    obtain ⟨k, us, hk, rfl, HO, HS, HBX, HZ, HBW, HSZ⟩ := hrel
    by_cases hlt : k < m
    · have hk1 : k < v.length := by rw [← HM.out]; exact hlt
      obtain ⟨A1, c1, hg, q1, q2, q3⟩ := HBX.out
      obtain ⟨x0, x1, x2⟩ := cG3 hg
      obtain ⟨b1, o1, rfl, hb1, y0⟩ := (RB.out wr HBW.out).at_ hk1
      have CO := Lib.hid (fun w (h : Below wr.heap.size wr w) => refOne_any A1 (P k).1.buf c1 (P k).1.skip (P k).1.bad v[k] w (HRP.out k) q1 q2 (q3.go h))
      have HN := Lib.hid (HPN.out k hk1)
      have hki : (k : Int) < (m : Int) := by omega
      have hk0 : (0 : Int) ≤ (k : Int) := Int.natCast_nonneg _
      have HPSk := Lib.hid (HPS.out k)
      have HUS := Lib.hid HS.out.1
      obtain ⟨X, hX⟩ : ∃ X, X = oneF (P k).1 v[k] := ⟨_, rfl⟩
      have e9 : oneF ⟨(P k).1.buf, (P k).1.skip, (P k).1.bad⟩ v[k] = X := hX.symm
      rw [← hX] at HN
      rw [e9] at CO
      have HG0 := Lib.hid hg
      have BB0 := Lib.hid ((Below.refl wr.heap.size wr).drew)
      have KEEP := Lib.hid (fun w' (h : Below wr.heap.size wr w') => (show Below wr.heap.size wr w' ∧ w'.cell? ⟨W.heap.size, 0, none⟩ = some (.slice A1 (P k).1.buf.length c1) ∧ w'.cell? ⟨W.heap.size, 1, none⟩ = some (.int .i64 (P k).1.skip) ∧ w'.cell? ⟨W.heap.size, 2, none⟩ = some (.int .i64 (P k).1.bad) ∧ w'.cell? ⟨b1, o1 + k, none⟩ = some (.int .u8 (v[k].toNat : Int)) from
        ⟨h, (cG3 (oldG hg h (Nat.le_refl _))).1, (cG3 (oldG hg h (Nat.le_refl _))).2.1, (cG3 (oldG hg h (Nat.le_refl _))).2.2, (h.cell (p := ⟨b1, o1 + k, none⟩) hb1).trans y0⟩))
      generalize v[k] = ch at *
      generalize (P k).1.buf.length = bn at *
      generalize (P k).1.skip = sk at *
      generalize (P k).1.bad = bd at *
      clear hg q1 q2 q3 hX e9 HBX hb1
      go_wp2_with fail
      clear x0 x1 x2 y0
      have BA := Lib.hid (((Below.refl wr.heap.size wr).alloc (Nat.le_refl _) (.cells #[.slice none 0 0, .int .i64 0, .int .i64 0] 25)).drew)
      go_region_held3 (fun w' => Below wr.heap.size wr w' ∧ w'.cell? ⟨W.heap.size, 0, none⟩ = some (.slice A1 bn c1) ∧ w'.cell? ⟨W.heap.size, 1, none⟩ = some (.int .i64 sk) ∧ w'.cell? ⟨W.heap.size, 2, none⟩ = some (.int .i64 bd) ∧ w'.cell? ⟨b1, o1 + k, none⟩ = some (.int .u8 (ch.toNat : Int)))
        (first | with_reducible exact KEEP.out _ BB0.out | with_reducible exact KEEP.out _ BB1.out | with_reducible exact KEEP.out _ BA.out | with_reducible exact KEEP.out _ BC.out | with_reducible exact KEEP.out _ BD.out | with_reducible exact KEEP.out _ BE.out)
        (first
        | (go_at_call 36; (with_reducible refine (CO.out _ BB0.out).mono ?_); rintro e wz ⟨⟨A2, c2, A3, c3, rfl, q1, q2, q3, q4, q5, q6⟩, hb⟩; have BB1 := Lib.hid (belG BB0.out hb BB0.out.size); have BC := Lib.hid (BB1.out.alloc BB1.out.size (.cells #[.slice none 0 0, .int .i64 0, .int .i64 0] 25)); have BD := Lib.hid (BB1.out.alloc BB1.out.size (.cells #[.slice A2 X.1.buf.length c2, .int .i64 X.1.skip, .int .i64 X.1.bad] 25)); have HBC := Lib.hid hb; have Q1 := Lib.hid q1; have Q2 := Lib.hid q2; have Q3 := Lib.hid q3; have Q4 := Lib.hid q4; have Q5 := Lib.hid q5; have Q6 := Lib.hid q6; clear hb q1 q2 q3 q4 q5 q6)
        | (go_at_call 36; (with_reducible refine (CO.out _ BA.out).mono ?_); rintro e wz ⟨⟨A2, c2, A3, c3, rfl, q1, q2, q3, q4, q5, q6⟩, hb⟩; have BB1 := Lib.hid (belG BA.out hb BA.out.size); have hz := (hb.block wr.heap.size (by simp)).trans (heap_alloc_new wr (.cells #[.slice none 0 0, .int .i64 0, .int .i64 0] 25)); have HZ8 := Lib.hid hz; obtain ⟨e0, e1, e2⟩ := cG3 hz; have f0 := fG hz 0; have f1 := fG hz 1; have f2 := fG hz 2; clear hz; have BE := Lib.hid (((BB1.out.setCell (p := ⟨wr.heap.size, 0, none⟩) (Nat.le_refl _) (.slice A2 X.1.buf.length c2)).setCell (p := ⟨wr.heap.size, 1, none⟩) (Nat.le_refl _) (.int .i64 X.1.skip)).setCell (p := ⟨wr.heap.size, 2, none⟩) (Nat.le_refl _) (.int .i64 X.1.bad)); have HBC := Lib.hid hb; have Q1 := Lib.hid q1; have Q2 := Lib.hid q2; have Q3 := Lib.hid q3; have Q4 := Lib.hid q4; have Q5 := Lib.hid q5; have Q6 := Lib.hid q6; clear hb q1 q2 q3 q4 q5 q6))
      · obtain ⟨Zw, hZw⟩ : ∃ Z, Z = wz.alloc (.cells #[.slice A2 X.1.buf.length c2, .int .i64 X.1.skip, .int .i64 X.1.bad] 25) := ⟨_, rfl⟩
        have hal : Below wz.heap.size wz Zw := by rw [hZw]; exact (Below.refl wz.heap.size wz).alloc (Nat.le_refl _) _
        have hg8 : Zw.heap[wz.heap.size]? = some (.cells #[.slice A2 X.1.buf.length c2, .int .i64 X.1.skip, .int .i64 X.1.bad] 25 (0, 0)) := by rw [hZw]; exact heap_alloc_new wz _
        rw [← hZw]
        have hwz : Below wr.heap.size wr Zw := belG BB1.out hal BB1.out.size
        have HRX := Lib.hid (Q3.out.go hal)
        have HRY := Lib.hid (Q6.out.go hal)
        have hgg : wr.heap.size ≤ wz.heap.size := BB1.out.size
        obtain ⟨g8, hg⟩ : ∃ g, g = wz.heap.size := ⟨_, rfl⟩
        rw [← hg] at hg8 hgg ⊢
        clear hZw hal hg
        have HOz := Lib.hid (HO.out.call hwz)
        have HSz := Lib.hid (HS.out.go hwz)
        have HG0z := Lib.hid (oldG HG0.out hwz (Nat.le_refl _))
        have HZz := Lib.hid (oldG HZ.out hwz (Nat.le_refl _))
        have HBz := Lib.hid (belG HBW.out hwz HBW.out.size)
        have HSZz := Lib.hid (Nat.le_trans HSZ.out hwz.size)
        have HG8 := Lib.hid hg8
        have HGG := Lib.hid hgg
        clear hwz hg8 hgg BB0 BB1 BA KEEP CO HBC HG0 HO HS HZ HBW HSZ Q3 Q6
        obtain ⟨x0, x1, x2⟩ := cG3 HG8.out
        obtain ⟨y0, y1, y2⟩ := cG3 HG0z.out
        have u0 := fG HG0z.out 0
        have u1 := fG HG0z.out 1
        have u2 := fG HG0z.out 2
        go_upto_region 7 with (fail)
        clear x0 x1 x2 y0 y1 y2 u0 u1 u2
        obtain ⟨Y, hY⟩ : ∃ Y, Y = set3F Zw W.heap.size (.slice A2 X.1.buf.length c2) (.int .i64 X.1.skip) (.int .i64 X.1.bad) := ⟨_, rfl⟩
        have hothY : ∀ k, k ≠ W.heap.size → Y.heap[k]? = Zw.heap[k]? := fun k hk => by rw [hY]; exact set3F_other Zw _ k _ _ _ hk
        have hsY : Y.heap.size = Zw.heap.size := by rw [hY]; exact set3F_size _ _ _ _ _
        have hgY : Y.heap[W.heap.size]? = some (.cells #[.slice A2 X.1.buf.length c2, .int .i64 X.1.skip, .int .i64 X.1.bad] 25 (0, 0)) := by rw [hY]; exact set3F_same _ _ _ HG0z.out
        have HBy := Lib.hid (show Below W.heap.size W Y by rw [hY]; exact Below.set3F HBz.out (Nat.le_refl _) _ _ _)
        show Code.wp _ _ _ _ (set3F Zw W.heap.size (.slice A2 X.1.buf.length c2) (.int .i64 X.1.skip) (.int .i64 X.1.bad))
        rw [← hY]
        have HRXy := Lib.hid (HRX.out.keepN HG0z.out (noB3 _ _ _ _ _) hothY (Nat.le_of_eq hsY.symm))
        have HRYy := Lib.hid (HRY.out.keepN HG0z.out (noB3 _ _ _ _ _) hothY (Nat.le_of_eq hsY.symm))
        have HOy := Lib.hid (HOz.out.keepN (by omega) hothY)
        have HSy := Lib.hid (HSz.out.keep (fun A l hr => hr.keepN HG0z.out (noB3 _ _ _ _ _) hothY (Nat.le_of_eq hsY.symm)))
        have HZy := Lib.hid ((hothY _ (by omega)).trans HZz.out)
        have HSZy := Lib.hid (show W.heap.size + 2 ≤ Y.heap.size by rw [hsY]; exact HSZz.out)
        have HGY := Lib.hid hgY
        have HUS2 := Lib.hid (show us.length ≤ 100000 by have h1 := HUS.out; have h2 := HPSk.out; omega)
        clear hothY hsY hgY hY HRX HRY HOz HSz HG0z HZz HBz HSZz HG8 HGG
        by_cases hr0 : X.2.length = 0
        · have hX2 : X.2 = [] := List.eq_nil_of_length_eq_zero hr0
          have HN2 := Lib.hid (show P (k + 1) = (X.1, (P k).2) by rw [HN.out, hX2]; simp [rowF])
          have i1 : ¬ (0 : Int) < (X.2.length : Int) := by omega
          clear hX2 hr0
          generalize X.2.length = rn at *
          go_wp2
          go_roundw
          case rel => exact ⟨k + 1, us, by omega, by go_num, HOy, Lib.hid (by rw [HN2.out]; exact HSy.out), Lib.hid (by rw [HN2.out]; exact ⟨A2, c2, HGY.out, Q1.out, Q2.out, HRXy.out⟩), HZy, HBy, HSZy⟩
          case measure => simp [intOf]; omega
        · have hX2 : X.2 ≠ [] := fun e => hr0 (by rw [e]; rfl)
          have HN2 := Lib.hid (show P (k + 1) = (X.1, (P k).2 ++ [X.2]) by rw [HN.out]; unfold rowF; rw [if_neg hX2])
          have HE := Lib.hid (show SE Y Y.heap.size (.slice A3 X.2.length c3) X.2 from ⟨A3, c3, rfl, Q4.out, Q5.out, HRYy.out⟩)
          have i1 : (0 : Int) < (X.2.length : Int) := by omega
          clear hX2 hr0
          generalize X.2.length = rn at *
          go_wp2_with (at_builtin; refine wpList_appR _ rfl (.tmp 29) (.tmp 31) rfl (W.heap.size + 2) _ us rfl (by exact HOy.out.alloc _) ⟨Y.heap.size, 0, none⟩ 1 1 rfl [.slice A3 rn c3] rfl (by exact cell_one_new _ _ _) (by intro u hu; have hu' : u = .slice A3 rn c3 := (by simpa using hu); exact ⟨_, _, _, hu'⟩) (by decide) (by have := HUS2.out; omega) (by exact le_alloc HSZy.out _) ?_; intro v6 w6 hown6 hgrow6; have HO6 := Lib.hid hown6; have HG6 := Lib.hid hgrow6; have hal := (Below.refl Y.heap.size Y).alloc (Nat.le_refl _) (.cells #[.slice A3 rn c3] 23); have HK6 := Lib.hid (fun (A : Option Addr) (l : List UInt8) (hr : Rd Y Y.heap.size A l) => Rd.grownR (hr.go hal) (HOy.out.alloc _) hgrow6); have HB6 := Lib.hid (OwR.below (base := W.heap.size + 2) (w0 := Y) (HOy.out.alloc _) ((Below.refl (W.heap.size + 2) Y).alloc HSZy.out _) hgrow6 (le_alloc HSZy.out _)); clear hown6 hgrow6 hal)
          go_roundw
          case rel => exact ⟨k + 1, _, by omega, by go_num, HO6, Lib.hid (by rw [HN2.out]; exact (HSy.out.keep HK6.out).append (SEs.one (HE.out.keep HK6.out))), Lib.hid (by rw [HN2.out]; exact ⟨A2, c2, (HB6.out.block W.heap.size (by omega)).trans HGY.out, Q1.out, Q2.out, HK6.out _ _ HRXy.out⟩), Lib.hid ((HB6.out.block (W.heap.size + 1) (by omega)).trans HZy.out), Lib.hid (HBy.out.trans (HB6.out.mono (by omega))), Lib.hid (Nat.le_trans HSZy.out HB6.out.size)⟩
          case measure => simp [intOf]; omega
      · obtain ⟨Zw, hZw⟩ : ∃ Z, Z = set3F wz wr.heap.size (.slice A2 X.1.buf.length c2) (.int .i64 X.1.skip) (.int .i64 X.1.bad) := ⟨_, rfl⟩
        have hg8 : Zw.heap[wr.heap.size]? = some (.cells #[.slice A2 X.1.buf.length c2, .int .i64 X.1.skip, .int .i64 X.1.bad] 25 (0, 0)) := by rw [hZw]; exact set3F_same _ _ _ HZ8.out
        have hoth : ∀ k, k ≠ wr.heap.size → Zw.heap[k]? = wz.heap[k]? := fun k hk => by rw [hZw]; exact set3F_other wz _ k _ _ _ hk
        have hszz : Zw.heap.size = wz.heap.size := by rw [hZw]; exact set3F_size _ _ _ _ _
        have hwz : Below wr.heap.size wr Zw := by rw [hZw]; exact Below.set3F BB1.out (Nat.le_refl _) _ _ _
        have HRX := Lib.hid (Q3.out.keepN HZ8.out (noB3 _ _ _ _ _) hoth (by omega))
        have HRY := Lib.hid (Q6.out.keepN HZ8.out (noB3 _ _ _ _ _) hoth (by omega))
        have hgg : wr.heap.size ≤ wr.heap.size := Nat.le_refl _
        obtain ⟨g8, hg⟩ : ∃ g, g = wr.heap.size := ⟨_, rfl⟩
        show Exit.then _ _ Exit.normal _ (set3F wz wr.heap.size (.slice A2 X.1.buf.length c2) (.int .i64 X.1.skip) (.int .i64 X.1.bad))
        rw [← hZw]
        have hgg2 : wr.heap.size ≤ g8 := by omega
        rw [← hg] at hg8
        rw [show (wr.heap.size : Nat) = g8 from hg.symm]
        clear hZw hoth hszz hgg
        have hgg := hgg2
        clear hgg2
        clear e0 e1 e2 f0 f1 f2 BE HZ8 hg
        have HOz := Lib.hid (HO.out.call hwz)
        have HSz := Lib.hid (HS.out.go hwz)
        have HG0z := Lib.hid (oldG HG0.out hwz (Nat.le_refl _))
        have HZz := Lib.hid (oldG HZ.out hwz (Nat.le_refl _))
        have HBz := Lib.hid (belG HBW.out hwz HBW.out.size)
        have HSZz := Lib.hid (Nat.le_trans HSZ.out hwz.size)
        have HG8 := Lib.hid hg8
        have HGG := Lib.hid hgg
        clear hwz hg8 hgg BB0 BB1 BA KEEP CO HBC HG0 HO HS HZ HBW HSZ Q3 Q6
        obtain ⟨x0, x1, x2⟩ := cG3 HG8.out
        obtain ⟨y0, y1, y2⟩ := cG3 HG0z.out
        have u0 := fG HG0z.out 0
        have u1 := fG HG0z.out 1
        have u2 := fG HG0z.out 2
        go_upto_region 7 with (fail)
        clear x0 x1 x2 y0 y1 y2 u0 u1 u2
        obtain ⟨Y, hY⟩ : ∃ Y, Y = set3F Zw W.heap.size (.slice A2 X.1.buf.length c2) (.int .i64 X.1.skip) (.int .i64 X.1.bad) := ⟨_, rfl⟩
        have hothY : ∀ k, k ≠ W.heap.size → Y.heap[k]? = Zw.heap[k]? := fun k hk => by rw [hY]; exact set3F_other Zw _ k _ _ _ hk
        have hsY : Y.heap.size = Zw.heap.size := by rw [hY]; exact set3F_size _ _ _ _ _
        have hgY : Y.heap[W.heap.size]? = some (.cells #[.slice A2 X.1.buf.length c2, .int .i64 X.1.skip, .int .i64 X.1.bad] 25 (0, 0)) := by rw [hY]; exact set3F_same _ _ _ HG0z.out
        have HBy := Lib.hid (show Below W.heap.size W Y by rw [hY]; exact Below.set3F HBz.out (Nat.le_refl _) _ _ _)
        show Code.wp _ _ _ _ (set3F Zw W.heap.size (.slice A2 X.1.buf.length c2) (.int .i64 X.1.skip) (.int .i64 X.1.bad))
        rw [← hY]
        have HRXy := Lib.hid (HRX.out.keepN HG0z.out (noB3 _ _ _ _ _) hothY (Nat.le_of_eq hsY.symm))
        have HRYy := Lib.hid (HRY.out.keepN HG0z.out (noB3 _ _ _ _ _) hothY (Nat.le_of_eq hsY.symm))
        have HOy := Lib.hid (HOz.out.keepN (by omega) hothY)
        have HSy := Lib.hid (HSz.out.keep (fun A l hr => hr.keepN HG0z.out (noB3 _ _ _ _ _) hothY (Nat.le_of_eq hsY.symm)))
        have HZy := Lib.hid ((hothY _ (by omega)).trans HZz.out)
        have HSZy := Lib.hid (show W.heap.size + 2 ≤ Y.heap.size by rw [hsY]; exact HSZz.out)
        have HGY := Lib.hid hgY
        have HUS2 := Lib.hid (show us.length ≤ 100000 by have h1 := HUS.out; have h2 := HPSk.out; omega)
        clear hothY hsY hgY hY HRX HRY HOz HSz HG0z HZz HBz HSZz HG8 HGG
        by_cases hr0 : X.2.length = 0
        · have hX2 : X.2 = [] := List.eq_nil_of_length_eq_zero hr0
          have HN2 := Lib.hid (show P (k + 1) = (X.1, (P k).2) by rw [HN.out, hX2]; simp [rowF])
          have i1 : ¬ (0 : Int) < (X.2.length : Int) := by omega
          clear hX2 hr0
          generalize X.2.length = rn at *
          go_wp2
          go_roundw
          case rel => exact ⟨k + 1, us, by omega, by go_num, HOy, Lib.hid (by rw [HN2.out]; exact HSy.out), Lib.hid (by rw [HN2.out]; exact ⟨A2, c2, HGY.out, Q1.out, Q2.out, HRXy.out⟩), HZy, HBy, HSZy⟩
          case measure => simp [intOf]; omega
        · have hX2 : X.2 ≠ [] := fun e => hr0 (by rw [e]; rfl)
          have HN2 := Lib.hid (show P (k + 1) = (X.1, (P k).2 ++ [X.2]) by rw [HN.out]; unfold rowF; rw [if_neg hX2])
          have HE := Lib.hid (show SE Y Y.heap.size (.slice A3 X.2.length c3) X.2 from ⟨A3, c3, rfl, Q4.out, Q5.out, HRYy.out⟩)
          have i1 : (0 : Int) < (X.2.length : Int) := by omega
          clear hX2 hr0
          generalize X.2.length = rn at *
          go_wp2_with (at_builtin; refine wpList_appR _ rfl (.tmp 29) (.tmp 31) rfl (W.heap.size + 2) _ us rfl (by exact HOy.out.alloc _) ⟨Y.heap.size, 0, none⟩ 1 1 rfl [.slice A3 rn c3] rfl (by exact cell_one_new _ _ _) (by intro u hu; have hu' : u = .slice A3 rn c3 := (by simpa using hu); exact ⟨_, _, _, hu'⟩) (by decide) (by have := HUS2.out; omega) (by exact le_alloc HSZy.out _) ?_; intro v6 w6 hown6 hgrow6; have HO6 := Lib.hid hown6; have HG6 := Lib.hid hgrow6; have hal := (Below.refl Y.heap.size Y).alloc (Nat.le_refl _) (.cells #[.slice A3 rn c3] 23); have HK6 := Lib.hid (fun (A : Option Addr) (l : List UInt8) (hr : Rd Y Y.heap.size A l) => Rd.grownR (hr.go hal) (HOy.out.alloc _) hgrow6); have HB6 := Lib.hid (OwR.below (base := W.heap.size + 2) (w0 := Y) (HOy.out.alloc _) ((Below.refl (W.heap.size + 2) Y).alloc HSZy.out _) hgrow6 (le_alloc HSZy.out _)); clear hown6 hgrow6 hal)
          go_roundw
          case rel => exact ⟨k + 1, _, by omega, by go_num, HO6, Lib.hid (by rw [HN2.out]; exact (HSy.out.keep HK6.out).append (SEs.one (HE.out.keep HK6.out))), Lib.hid (by rw [HN2.out]; exact ⟨A2, c2, (HB6.out.block W.heap.size (by omega)).trans HGY.out, Q1.out, Q2.out, HK6.out _ _ HRXy.out⟩), Lib.hid ((HB6.out.block (W.heap.size + 1) (by omega)).trans HZy.out), Lib.hid (HBy.out.trans (HB6.out.mono (by omega))), Lib.hid (Nat.le_trans HSZy.out HB6.out.size)⟩
          case measure => simp [intOf]; omega
    · have hki : ¬ (k : Int) < (m : Int) := by omega
      have hkm : k = m := by omega
      subst hkm
      obtain ⟨A1, c1, hg, q1, q2, q3⟩ := HBX.out
      obtain ⟨x0, x1, x2⟩ := cG3 hg
      obtain ⟨y0, y1, y2⟩ := cG3 HZ.out
      have u0 := fG HZ.out 0
      have u1 := fG HZ.out 1
      have u2 := fG HZ.out 2
      obtain ⟨A9, c9, rfl, p1, p2⟩ := HO.out.form
      have hno : ∀ u ∈ (#[.slice none 0 0, .int .i64 0, .int .i64 0] : Array Value).toList, NoB u = true := noB3 none 0 0 0 0
      have hoth := fun j hj => set3F_other wr (W.heap.size + 1) j (.slice A1 (P k).1.buf.length c1) (.int .i64 (P k).1.skip) (.int .i64 (P k).1.bad) hj
      have hsz := set3F_size wr (W.heap.size + 1) (.slice A1 (P k).1.buf.length c1) (.int .i64 (P k).1.skip) (.int .i64 (P k).1.bad)
      have hO2 := HO.out.keepN (by omega) hoth
      have hS2 := HS.out.keep (fun A l hr => hr.keepN HZ.out hno hoth (Nat.le_of_eq hsz.symm))
      have hQ3 := q3.keepN HZ.out hno hoth (Nat.le_of_eq hsz.symm)
      have HMT := Lib.hid (OwR.mat hO2 hS2)
      have HFR := Lib.hid (fun h0 => OwR.fresh hO2 h0)
      have HUL := Lib.hid HS.out.1
      have HEN := Lib.hid (show AnsPushN W.heap.size (set3F wr (W.heap.size + 1) (.slice A1 (P k).1.buf.length c1) (.int .i64 (P k).1.skip) (.int .i64 (P k).1.bad)) (.returned (.tuple #[.agg #[.slice A1 (P k).1.buf.length c1, .int .i64 (P k).1.skip, .int .i64 (P k).1.bad], .slice A9 us.length c9])) (P k).1 (P k).2 from
        ⟨A1, c1, A9, c9, by rw [HUL.out], q1, q2, hQ3, by rw [← HUL.out]; exact p1, p2, HMT.out, fun h0 => by obtain ⟨b, o, e, h⟩ := HFR.out (by rw [HUL.out]; exact h0); exact ⟨b, o, e, by omega⟩⟩)
      have HBE := Lib.hid (Below.set3F HBW.out (Nat.le_succ W.heap.size) (.slice A1 (P k).1.buf.length c1) (.int .i64 (P k).1.skip) (.int .i64 (P k).1.bad))
      clear hno hoth hsz hO2 hS2 hQ3 HMT q1 q2 q3 hg p1 p2 hlt
      go_wp2
      refine bodyPost_ret (retFd rfl _ (set3F wr (W.heap.size + 1) (.slice A1 (P k).1.buf.length c1) (.int .i64 (P k).1.skip) (.int .i64 (P k).1.bad)) (W.heap.size + 1) _ _ _ _ rfl rfl (set3F_same _ _ _ HZ.out)) rfl ?_
      exact ⟨HEN.out, HBE.out⟩
set_option maxRecDepth 100000 in
theorem refPush_any (A : Option Addr) (l : List UInt8) (c : Nat) (s b : Int) (B : Option Addr) (v : List UInt8) (d : Nat) (W : World) (hR : RightFd ⟨l, s, b⟩) (hc : l.length ≤ c) (hcm : c ≤ 9223372036854775807) (hr : Rd W W.heap.size A l) (hv : v.length ≤ 100000) (hs : Rd W W.heap.size B v) :
    Calls Try.prog 26 #[.agg #[.slice A l.length c, .int .i64 s, .int .i64 b], .slice B v.length d] W fun e W' => AnsPush W' e (pushF ⟨l, s, b⟩ v).1 (pushF ⟨l, s, b⟩ v).2 ∧ Below W.heap.size W W' :=
  (refPushN_any A l c s b B v d W hR hc hcm hr hv hs).mono fun _ _ h => ⟨h.1.ans, h.2⟩
end Go.Proofs.Ytplekllhnpljiaa
