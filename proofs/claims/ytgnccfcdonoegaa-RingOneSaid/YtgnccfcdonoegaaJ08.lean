
/- Package ring: keeps, offers, greatest, Right. -/
import Derived.Test.YtgnccfcdonoegaaJ07
namespace Go.Proofs.Ytgnccfcdonoegaa
open Go.RowKit

def KeepG (r : Rg) : Prop := (r.old = gn0 ∧ r.left = 0) ∨ (RealG r.old ∧ r.old.no < r.cur.no ∧ 1 ≤ r.left ∧ r.left ≤ 16)
instance (r : Rg) : Decidable (KeepG r) := by unfold KeepG; infer_instance
def OffG (r : Rg) : Prop := r.pend = gn0 ∨ (RealG r.pend ∧ r.cur.no < r.pend.no)
instance (r : Rg) : Decidable (OffG r) := by unfold OffG; infer_instance
def gmax (r : Rg) : Int := max (max (max 0 r.old.no) r.cur.no) r.pend.no
set_option maxRecDepth 100000 in
theorem rightR_by (r : Rg) : RightR r ↔ (r = rg0 ∨ (RealG r.cur ∧ KeepG r ∧ OffG r ∧ gmax r ≤ r.top ∧ r.top ≤ 2147483647)) := by
  unfold RightR KeepG OffG gmax
  constructor
  · rintro (h | ⟨h1, h2, h3, h4, h5, h6⟩)
    · exact .inl h
    · refine .inr ⟨h1, h5, h6, ?_, h2⟩
      have h0 := h1.1
      rcases h5 with h5 | h5
      · rw [h5.1]
        show max (max (max 0 (0 : Int)) r.cur.no) r.pend.no ≤ r.top
        omega
      · omega
  · rintro (h | ⟨h1, h5, h6, h4, h2⟩)
    · exact .inl h
    · exact .inr ⟨h1, h2, by omega, by omega, h5, h6⟩
set_option maxRecDepth 100000 in
theorem IsR.old {C : Array Value} {x : Wg} {r : Rg} (h : IsR C x r) : Part C 2 (genC x.old r.old) := by rw [h.eq]; exact part_old x r
set_option maxRecDepth 100000 in
theorem IsR.cur {C : Array Value} {x : Wg} {r : Rg} (h : IsR C x r) : Part C 0 (genC x.cur r.cur) := by rw [h.eq]; exact part_cur x r
set_option maxRecDepth 100000 in
theorem IsR.pend {C : Array Value} {x : Wg} {r : Rg} (h : IsR C x r) : Part C 4 (genC x.pend r.pend) := by rw [h.eq]; exact part_pend x r
set_option maxRecDepth 100000 in
theorem IsR.at0 {C : Array Value} {x : Wg} {r : Rg} (h : IsR C x r) : C[0]? = some (.int .i64 r.cur.no) := by rw [h.eq]; rfl
set_option maxRecDepth 100000 in
theorem IsR.at2 {C : Array Value} {x : Wg} {r : Rg} (h : IsR C x r) : C[2]? = some (.int .i64 r.old.no) := by rw [h.eq]; rfl
set_option maxRecDepth 100000 in
theorem IsR.at4 {C : Array Value} {x : Wg} {r : Rg} (h : IsR C x r) : C[4]? = some (.int .i64 r.pend.no) := by rw [h.eq]; rfl
set_option maxRecDepth 100000 in
theorem IsR.at6 {C : Array Value} {x : Wg} {r : Rg} (h : IsR C x r) : C[6]? = some (.int .i64 r.left) := by rw [h.eq]; rfl
set_option maxRecDepth 100000 in
theorem IsR.at7 {C : Array Value} {x : Wg} {r : Rg} (h : IsR C x r) : C[7]? = some (.int .i64 r.top) := by rw [h.eq]; rfl
set_option maxRecDepth 100000 in
set_option maxHeartbeats 4000000 in
theorem keepsW_any {C : Array Value} {x : Wg} {r : Rg} (h : IsR C x r) (W : World) : Calls Try.prog 38 #[.agg C] W fun e W' => e = .returned (.bool (decide (KeepG r))) ∧ Below W.heap.size W W' := by
  obtain ⟨D, hD⟩ : ∃ D, D = decide (KeepG r) := ⟨_, rfl⟩
  rw [← hD]
  have C1 := Lib.hid (fun w => noneK_any x.old r.old w)
  have C2 := Lib.hid (fun w => isK_any x.old r.old w)
  have HX := Lib.hid (show decide (r.old = gn0) = true → decide (RealG r.old) = false from fun h => decide_eq_false (fun h2 => h2.ne (of_decide_eq_true h)))
  have HD := Lib.hid (show D = true ↔ ((decide (r.old = gn0) = true ∧ r.left = 0) ∨ (decide (RealG r.old) = true ∧ r.old.no < r.cur.no ∧ 1 ≤ r.left ∧ r.left ≤ 16)) from by
    rw [hD]
    simp only [decide_eq_true_eq]
    exact Iff.rfl)
  generalize decide (r.old = gn0) = p2 at *
  generalize decide (RealG r.old) = p3 at *
  have HF := Lib.hid (show (D = true → False) → D = false from fun h => by
    cases D with
    | false => rfl
    | true => exact (h rfl).elim)
  clear hD
  obtain ⟨V, hV, hb, hg⟩ := bx1 W 66 C
  have HC := Lib.hid h
  have HB := Lib.hid hb
  have HV := Lib.hid hV
  have HG := Lib.hid hg
  have hsz := h.size
  clear hV hb hg h
  go_enter Try.func38, Try.ntmps38
  go_upto_region 1 with (fail)
  rw [← HV.out]
  clear HV
  go_wp2_with (refine loadPx (.tmp 4) W.heap.size 2 C (genC x.old r.old) tyGen rfl HC.out.old HG.out rfl rfl rfl ?_)
  refine (C1.out _).mono ?_
  rintro e w1 ⟨rfl, hb⟩
  have nHB := Lib.hid (belG HB.out hb HB.out.size)
  have nHG := Lib.hid (Bx.go HG.out hb)
  clear hb HB HG
  have HB := nHB
  have HG := nHG
  clear nHB nHG
  cases p2 with
  | true =>
    have a0 := HG.out.cell HC.out.at6
    by_cases h0 : r.left = 0
    · obtain rfl : D = true := HD.out.2 (.inl ⟨rfl, h0⟩)
      clear HD HF HX
      rw [h0] at a0
      clear h0
      go_wp2_with fail
      go_ret
      exact ⟨by first | rfl | (simp; done) | (simp; omega), HB.out⟩
    · obtain rfl : D = false := HF.out (fun hd => by
        rcases HD.out.1 hd with q | q
        · exact h0 q.2
        · exact Bool.noConfusion (q.1.symm.trans (HX.out rfl)))
      have b0 : (r.left == 0) = false := beq_eq_false_iff_ne.2 h0
      clear HD HF HX h0
      go_wp2_with fail
      go_ret
      exact ⟨by first | rfl | (simp; done) | (simp; omega), HB.out⟩
  | false =>
    clear HX
    go_wp2_with (refine loadPx (.tmp 12) W.heap.size 2 C (genC x.old r.old) tyGen rfl HC.out.old HG.out rfl rfl rfl ?_)
    refine (C2.out _).mono ?_
    rintro e w1 ⟨rfl, hb⟩
    have nHB := Lib.hid (belG HB.out hb HB.out.size)
    have nHG := Lib.hid (Bx.go HG.out hb)
    clear hb HB HG
    have HB := nHB
    have HG := nHG
    clear nHB nHG
    have a0 := HG.out.cell HC.out.at0
    have a2 := HG.out.cell HC.out.at2
    have a6 := HG.out.cell HC.out.at6
    cases p3 with
    | false =>
      obtain rfl : D = false := HF.out (fun hd => by
        rcases HD.out.1 hd with q | q
        · exact Bool.noConfusion q.1
        · exact Bool.noConfusion q.1)
      clear HD HF
      go_wp2_with fail
      go_ret
      exact ⟨by first | rfl | (simp; done) | (simp; omega), HB.out⟩
    | true =>
      by_cases h1 : r.old.no < r.cur.no
      case neg =>
        obtain rfl : D = false := HF.out (fun hd => by
          rcases HD.out.1 hd with q | q
          · exact Bool.noConfusion q.1
          · exact h1 q.2.1)
        clear HD HF
        go_wp2_with fail
        go_ret
        exact ⟨by first | rfl | (simp; done) | (simp; omega), HB.out⟩
      by_cases h2 : 1 ≤ r.left
      case neg =>
        obtain rfl : D = false := HF.out (fun hd => by
          rcases HD.out.1 hd with q | q
          · exact Bool.noConfusion q.1
          · exact h2 q.2.2.1)
        clear HD HF
        go_wp2_with fail
        go_ret
        exact ⟨by first | rfl | (simp; done) | (simp; omega), HB.out⟩
      by_cases h3 : r.left ≤ 16
      case neg =>
        obtain rfl : D = false := HF.out (fun hd => by
          rcases HD.out.1 hd with q | q
          · exact Bool.noConfusion q.1
          · exact h3 q.2.2.2)
        clear HD HF
        go_wp2_with fail
        go_ret
        exact ⟨by first | rfl | (simp; done) | (simp; omega), HB.out⟩
      obtain rfl : D = true := HD.out.2 (.inr ⟨rfl, h1, h2, h3⟩)
      clear HD HF
      go_wp2_with fail
      go_ret
      exact ⟨by first | rfl | (simp; done) | (simp; omega), HB.out⟩
set_option maxRecDepth 100000 in
set_option maxHeartbeats 4000000 in
theorem offersW_any {C : Array Value} {x : Wg} {r : Rg} (h : IsR C x r) (W : World) : Calls Try.prog 39 #[.agg C] W fun e W' => e = .returned (.bool (decide (OffG r))) ∧ Below W.heap.size W W' := by
  obtain ⟨D, hD⟩ : ∃ D, D = decide (OffG r) := ⟨_, rfl⟩
  rw [← hD]
  have C1 := Lib.hid (fun w => noneK_any x.pend r.pend w)
  have C2 := Lib.hid (fun w => isK_any x.pend r.pend w)
  have HD := Lib.hid (show D = true ↔ (decide (r.pend = gn0) = true ∨ (decide (RealG r.pend) = true ∧ r.cur.no < r.pend.no)) from by
    rw [hD]
    simp only [decide_eq_true_eq]
    exact Iff.rfl)
  generalize decide (r.pend = gn0) = p2 at *
  generalize decide (RealG r.pend) = p3 at *
  have HF := Lib.hid (show (D = true → False) → D = false from fun h => by
    cases D with
    | false => rfl
    | true => exact (h rfl).elim)
  clear hD
  obtain ⟨V, hV, hb, hg⟩ := bx1 W 66 C
  have HC := Lib.hid h
  have HB := Lib.hid hb
  have HV := Lib.hid hV
  have HG := Lib.hid hg
  have hsz := h.size
  clear hV hb hg h
  go_enter Try.func39, Try.ntmps39
  go_upto_region 1 with (fail)
  rw [← HV.out]
  clear HV
  go_wp2_with (refine loadPx (.tmp 4) W.heap.size 4 C (genC x.pend r.pend) tyGen rfl HC.out.pend HG.out rfl rfl rfl ?_)
  refine (C1.out _).mono ?_
  rintro e w1 ⟨rfl, hb⟩
  have nHB := Lib.hid (belG HB.out hb HB.out.size)
  have nHG := Lib.hid (Bx.go HG.out hb)
  clear hb HB HG
  have HB := nHB
  have HG := nHG
  clear nHB nHG
  cases p2 with
  | true =>
    obtain rfl : D = true := HD.out.2 (.inl rfl)
    clear HD HF
    go_wp2_with fail
    go_ret
    exact ⟨by first | rfl | (simp; done) | (simp; omega), HB.out⟩
  | false =>
    go_wp2_with (refine loadPx (.tmp 9) W.heap.size 4 C (genC x.pend r.pend) tyGen rfl HC.out.pend HG.out rfl rfl rfl ?_)
    refine (C2.out _).mono ?_
    rintro e w1 ⟨rfl, hb⟩
    have nHB := Lib.hid (belG HB.out hb HB.out.size)
    have nHG := Lib.hid (Bx.go HG.out hb)
    clear hb HB HG
    have HB := nHB
    have HG := nHG
    clear nHB nHG
    have a0 := HG.out.cell HC.out.at0
    have a4 := HG.out.cell HC.out.at4
    cases p3 with
    | false =>
      obtain rfl : D = false := HF.out (fun hd => by
        rcases HD.out.1 hd with q | q
        · exact Bool.noConfusion q
        · exact Bool.noConfusion q.1)
      clear HD HF
      go_wp2_with fail
      go_ret
      exact ⟨by first | rfl | (simp; done) | (simp; omega), HB.out⟩
    | true =>
      by_cases h1 : r.cur.no < r.pend.no
      case neg =>
        obtain rfl : D = false := HF.out (fun hd => by
          rcases HD.out.1 hd with q | q
          · exact Bool.noConfusion q
          · exact h1 q.2)
        clear HD HF
        go_wp2_with fail
        go_ret
        exact ⟨by first | rfl | (simp; done) | (simp; omega), HB.out⟩
      obtain rfl : D = true := HD.out.2 (.inr ⟨rfl, h1⟩)
      clear HD HF
      go_wp2_with fail
      go_ret
      exact ⟨by first | rfl | (simp; done) | (simp; omega), HB.out⟩
/-- the greatest of the first n generations' numbers -/
def GmTo (r : Rg) (n m : Int) : Prop := (n = 0 → m = 0) ∧ (n = 1 → m = max 0 r.old.no) ∧ (n = 2 → m = max (max 0 r.old.no) r.cur.no) ∧ (n = 3 → m = gmax r)
set_option maxRecDepth 100000 in
set_option maxHeartbeats 4000000 in
theorem greatestW_any {C : Array Value} {x : Wg} {r : Rg} (h : IsR C x r) (W : World) : Calls Try.prog 40 #[.agg C] W fun e W' => e = .returned (.int .i64 (gmax r)) ∧ Below W.heap.size W W' := by
  obtain ⟨V, hV, hb, hg⟩ := bx1 W 66 C
  have HC := Lib.hid h
  have HB := Lib.hid hb
  have HV := Lib.hid hV
  have HG := Lib.hid hg
  have hsz := h.size
  clear hV hb hg h
  go_enter Try.func40, Try.ntmps40
  go_upto_region 1 with (fail)
  rw [← HV.out]
  clear HV
  go_upto_region 2 with (fail)
  go_wp2_with (refine loadX (.tmp 1) W.heap.size C tyWork HC.out.size HG.out rfl rfl rfl ?_)
  refine (gensI_any HC.out _).mono ?_
  rintro e w1 ⟨rfl, hb⟩
  have HB1 := Lib.hid (belG HB.out hb HB.out.size)
  clear hb HB HG
  unfold gensC
  go_wp2_with fail
  go_loopw [3, 8] (fun v i wr => ∃ n m : Int, i = .int .i64 n ∧ v = .int .i64 m ∧ (n = 0 ∨ n = 1 ∨ n = 2 ∨ n = 3) ∧ Hid (GmTo r n m) ∧ Hid (Below W.heap.size W wr)) (fun _ i _ => 3 - (intOf i).toNat)
  case atStart => exact ⟨0, 0, rfl, rfl, .inl rfl, Lib.hid ⟨fun _ => rfl, fun h => absurd h (by decide), fun h => absurd h (by decide), fun h => absurd h (by decide)⟩, HB1⟩
  case round =>
    clear HB1
    obtain ⟨n, m, rfl, rfl, hn, HE, HB⟩ := hrel
    rcases hn with rfl | rfl | rfl | rfl
    · have hix := fun w => index_g0 (.int .i64 r.old.no) (.slice x.old.1 r.old.key.length x.old.2) (.int .i64 r.cur.no) (.slice x.cur.1 r.cur.key.length x.cur.2) (.int .i64 r.pend.no) (.slice x.pend.1 r.pend.key.length x.pend.2) w
      obtain ⟨V7, hV7⟩ : ∃ z, z = wr.alloc (.cells #[.int .i64 r.old.no, .slice x.old.1 r.old.key.length x.old.2] 24) := ⟨_, rfl⟩
      have ha := (Below.refl wr.heap.size wr).alloc (Nat.le_refl _) (.cells (genC x.old r.old) 24)
      have hx := Bx.new wr 24 (genC x.old r.old)
      rw [show wr.alloc (.cells (genC x.old r.old) 24) = V7 from hV7.symm] at ha hx
      have nHB := Lib.hid (belG HB.out ha HB.out.size)
      have a0 := hx.cell (genC_cn _ _)
      have HV7 := Lib.hid hV7
      clear hV7 ha hx HB
      go_upto_region 5 with (fail)
      clear hix
      rw [← HV7.out]
      clear HV7
      by_cases h1 : m < r.old.no
      · go_wp2_with fail
        all_goals first
          | (go_roundw
             case rel => exact ⟨1, r.old.no, by go_num, by go_num, .inr (.inl rfl), Lib.hid ⟨fun h => absurd h (by decide), fun _ => by have := HE.out.1 rfl; omega, fun h => absurd h (by decide), fun h => absurd h (by decide)⟩, nHB⟩
             case measure => simp [intOf])
      · go_wp2_with fail
        all_goals first
          | (go_roundw
             case rel => exact ⟨1, m, by go_num, by go_num, .inr (.inl rfl), Lib.hid ⟨fun h => absurd h (by decide), fun _ => by have := HE.out.1 rfl; omega, fun h => absurd h (by decide), fun h => absurd h (by decide)⟩, nHB⟩
             case measure => simp [intOf])
          | (go_roundw
             case rel => exact ⟨1, r.old.no, by go_num, by go_num, .inr (.inl rfl), Lib.hid ⟨fun h => absurd h (by decide), fun _ => by have := HE.out.1 rfl; omega, fun h => absurd h (by decide), fun h => absurd h (by decide)⟩, nHB⟩
             case measure => simp [intOf])
    · have hix := fun w => index_g1 (.int .i64 r.old.no) (.slice x.old.1 r.old.key.length x.old.2) (.int .i64 r.cur.no) (.slice x.cur.1 r.cur.key.length x.cur.2) (.int .i64 r.pend.no) (.slice x.pend.1 r.pend.key.length x.pend.2) w
      obtain ⟨V7, hV7⟩ : ∃ z, z = wr.alloc (.cells #[.int .i64 r.cur.no, .slice x.cur.1 r.cur.key.length x.cur.2] 24) := ⟨_, rfl⟩
      have ha := (Below.refl wr.heap.size wr).alloc (Nat.le_refl _) (.cells (genC x.cur r.cur) 24)
      have hx := Bx.new wr 24 (genC x.cur r.cur)
      rw [show wr.alloc (.cells (genC x.cur r.cur) 24) = V7 from hV7.symm] at ha hx
      have nHB := Lib.hid (belG HB.out ha HB.out.size)
      have a0 := hx.cell (genC_cn _ _)
      have HV7 := Lib.hid hV7
      clear hV7 ha hx HB
      go_upto_region 5 with (fail)
      clear hix
      rw [← HV7.out]
      clear HV7
      by_cases h1 : m < r.cur.no
      · go_wp2_with fail
        all_goals first
          | (go_roundw
             case rel => exact ⟨2, r.cur.no, by go_num, by go_num, .inr (.inr (.inl rfl)), Lib.hid ⟨fun h => absurd h (by decide), fun h => absurd h (by decide), fun _ => by have := HE.out.2.1 rfl; omega, fun h => absurd h (by decide)⟩, nHB⟩
             case measure => simp [intOf])
      · go_wp2_with fail
        all_goals first
          | (go_roundw
             case rel => exact ⟨2, m, by go_num, by go_num, .inr (.inr (.inl rfl)), Lib.hid ⟨fun h => absurd h (by decide), fun h => absurd h (by decide), fun _ => by have := HE.out.2.1 rfl; omega, fun h => absurd h (by decide)⟩, nHB⟩
             case measure => simp [intOf])
          | (go_roundw
             case rel => exact ⟨2, r.cur.no, by go_num, by go_num, .inr (.inr (.inl rfl)), Lib.hid ⟨fun h => absurd h (by decide), fun h => absurd h (by decide), fun _ => by have := HE.out.2.1 rfl; omega, fun h => absurd h (by decide)⟩, nHB⟩
             case measure => simp [intOf])
    · have hix := fun w => index_g2 (.int .i64 r.old.no) (.slice x.old.1 r.old.key.length x.old.2) (.int .i64 r.cur.no) (.slice x.cur.1 r.cur.key.length x.cur.2) (.int .i64 r.pend.no) (.slice x.pend.1 r.pend.key.length x.pend.2) w
      obtain ⟨V7, hV7⟩ : ∃ z, z = wr.alloc (.cells #[.int .i64 r.pend.no, .slice x.pend.1 r.pend.key.length x.pend.2] 24) := ⟨_, rfl⟩
      have ha := (Below.refl wr.heap.size wr).alloc (Nat.le_refl _) (.cells (genC x.pend r.pend) 24)
      have hx := Bx.new wr 24 (genC x.pend r.pend)
      rw [show wr.alloc (.cells (genC x.pend r.pend) 24) = V7 from hV7.symm] at ha hx
      have nHB := Lib.hid (belG HB.out ha HB.out.size)
      have a0 := hx.cell (genC_cn _ _)
      have HV7 := Lib.hid hV7
      clear hV7 ha hx HB
      go_upto_region 5 with (fail)
      clear hix
      rw [← HV7.out]
      clear HV7
      by_cases h1 : m < r.pend.no
      · go_wp2_with fail
        all_goals first
          | (go_roundw
             case rel => exact ⟨3, r.pend.no, by go_num, by go_num, .inr (.inr (.inr rfl)), Lib.hid ⟨fun h => absurd h (by decide), fun h => absurd h (by decide), fun h => absurd h (by decide), fun _ => by have := HE.out.2.2.1 rfl; unfold gmax; omega⟩, nHB⟩
             case measure => simp [intOf])
      · go_wp2_with fail
        all_goals first
          | (go_roundw
             case rel => exact ⟨3, m, by go_num, by go_num, .inr (.inr (.inr rfl)), Lib.hid ⟨fun h => absurd h (by decide), fun h => absurd h (by decide), fun h => absurd h (by decide), fun _ => by have := HE.out.2.2.1 rfl; unfold gmax; omega⟩, nHB⟩
             case measure => simp [intOf])
          | (go_roundw
             case rel => exact ⟨3, r.pend.no, by go_num, by go_num, .inr (.inr (.inr rfl)), Lib.hid ⟨fun h => absurd h (by decide), fun h => absurd h (by decide), fun h => absurd h (by decide), fun _ => by have := HE.out.2.2.1 rfl; unfold gmax; omega⟩, nHB⟩
             case measure => simp [intOf])
    · obtain rfl := HE.out.2.2.2 rfl
      go_wp2_with fail
      go_ret
      exact ⟨rfl, HB.out⟩
end Go.Proofs.Ytgnccfcdonoegaa
