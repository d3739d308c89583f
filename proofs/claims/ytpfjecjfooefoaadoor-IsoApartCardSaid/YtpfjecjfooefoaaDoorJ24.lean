
/- The document's answer: Read. -/
import Derived.Test.YtpfjecjfooefoaaDoorJ18
namespace Go.Proofs.YtpfjecjfooefoaaDoor
open Go.RowKit

/-- a value, a place behind it, and an error -/
def Ans3 (W' : World) (e : Ending) (l : List UInt8) (n : Nat) (i x : Int) : Prop := ∃ A c, e = .returned (.tuple #[.slice A n c, .int .i64 i, .int .i64 x]) ∧ n ≤ c ∧ c ≤ 9223372036854775807 ∧ Rd W' W'.heap.size A l
set_option maxRecDepth 100000 in
theorem Ans3.none {W' : World} {x : Int} : Ans3 W' (.returned (.tuple #[.slice none 0 0, .int .i64 0, .int .i64 x])) [] 0 0 x := ⟨_, _, rfl, Nat.le_refl _, by omega, Rd.nil⟩
set_option maxRecDepth 100000 in
theorem conv5 (s : List UInt8) (hs : s.length ≤ 100000) : ∃ (cc : World → Nat) (ww : World → World), ∀ W, (convert 9 27 (.string ⟨s.toArray⟩)).run Tryd.prog W = .ok (.slice (some ⟨W.heap.size, 0, none⟩) s.length (cc W)) (ww W) ∧ Rd (ww W) (ww W).heap.size (some ⟨W.heap.size, 0, none⟩) s ∧ Below W.heap.size W (ww W) ∧ s.length ≤ cc W ∧ cc W ≤ 9223372036854775807 := by
  have hsz : (⟨s.toArray⟩ : ByteArray).size = s.length := by simp [ByteArray.size]
  refine ⟨fun W => grownCap W (⟨s.toArray⟩ : ByteArray).size 0 5, fun W => W.drew.alloc (.cells (bytesRow ⟨s.toArray⟩ (grownCap W (⟨s.toArray⟩ : ByteArray).size 0 5)) 5 ((bytesRow ⟨s.toArray⟩ (grownCap W (⟨s.toArray⟩ : ByteArray).size 0 5)).size, (bytesRow ⟨s.toArray⟩ (grownCap W (⟨s.toArray⟩ : ByteArray).size 0 5)).size + 1)), fun W => ⟨?_, ?_, (Below.refl _ _).drew.alloc (Nat.le_refl _) _, ?_, ?_⟩⟩
  · have h := run_bytes_of_string W 9 27 5 ⟨s.toArray⟩ Tryd.underlying9 Tryd.underlying27 Tryd.underlying5
    rw [hsz] at h ⊢
    exact h
  · intro h0
    refine ⟨W.heap.size, 0, rfl, by rw [World.size_alloc]; exact Nat.lt_succ_self _, fun j hj => ?_⟩
    rw [Nat.zero_add]
    have hg := heap_alloc_new W.drew (.cells (bytesRow ⟨s.toArray⟩ (grownCap W (⟨s.toArray⟩ : ByteArray).size 0 5)) 5 ((bytesRow ⟨s.toArray⟩ (grownCap W (⟨s.toArray⟩ : ByteArray).size 0 5)).size, (bytesRow ⟨s.toArray⟩ (grownCap W (⟨s.toArray⟩ : ByteArray).size 0 5)).size + 1))
    refine (cell_of_row _ _ _ _ _ _ hg).trans ?_
    have hj2 : j < (⟨s.toArray⟩ : ByteArray).data.size := by simpa using hj
    unfold bytesRow
    rw [Array.getElem?_append_left (by rw [Array.size_map]; exact hj2), Array.getElem?_map, Array.getElem?_eq_getElem hj2]
    simp
  · have h := grownCap_ge W (⟨s.toArray⟩ : ByteArray).size 0 5
    rw [← hsz]
    exact h
  · have : grownCap W (⟨s.toArray⟩ : ByteArray).size 0 5 ≤ maxLen := grownCap_le_maxLen W _ 0 5 (by rw [hsz]; unfold maxLen; omega)
    unfold maxLen at this
    show grownCap W (⟨s.toArray⟩ : ByteArray).size 0 5 ≤ _
    omega

set_option maxRecDepth 100000 in
set_option maxHeartbeats 8000000 in
theorem refRead_any (no : Int) (A : Option Addr) (b : List UInt8) (c : Nat) (at_ : Int) (W : World) (hl : b.length ≤ 10000) (hc : b.length ≤ c) (hcm : c ≤ 9223372036854775807) (hr : Rd W W.heap.size A b) :
    Calls Tryd.prog 60 #[.int .i64 no, .slice A b.length c, .int .i64 at_] W fun e W' => Ans3 W' e (readF no b at_).1 (readF no b at_).1.length (readF no b at_).2.1 (readF no b at_).2.2 ∧ Below W.heap.size W W' := by
  have CO := Lib.hid (refOf_any no)
  have RB := Lib.hid (fun w (h : Below W.heap.size W w) => (hr.below h (Nat.le_refl _)).more h.size)
  have CC := Lib.hid (refCount_any (fk no) (form_le no).1)
  have CF := Lib.hid (fun (A' : Option Addr) (v : List UInt8) (n' c' : Nat) (w : World) (hn' : n' = v.length) (hv : v.length ≤ 100000) (h : Rd w w.heap.size A' v) => (show Calls Tryd.prog 79 #[.agg #[.int .i64 (fk no : Int), .int .i64 (fl no : Int)], .slice A' n' c'] w fun e W' => e = .returned (.bool (fitF (fk no) (fl no) v)) ∧ Below w.heap.size w W' from by subst hn'; exact refFits_any (fk no) (fl no) A' v c' w (form_le no).1 (by have := (form_le no).2; omega) (by omega) h))
  obtain ⟨R, hR⟩ : ∃ R, R = readF no b at_ := ⟨_, rfl⟩
  rw [← hR]
  obtain ⟨M, hM⟩ : ∃ M, M = b.length := ⟨_, rfl⟩
  have CT := Lib.hid (fun (p m : Nat) (w : World) (h : Below W.heap.size W w) => (show Calls Tryd.prog 56 #[.slice A M c, .int .i64 (p : Int), .int .i64 (m : Int)] w fun e W' => e = .returned (.tuple #[.string ⟨(tbS b p m).1.toArray⟩, .int .i64 (tbS b p m).2.1, .int .i64 (tbS b p m).2.2]) ∧ Below w.heap.size w W' from by rw [hM]; exact refTakeBcd_all A b c p m w (by omega) hc (RB.out w h)))
  have HM := Lib.hid hM
  rw [← hM] at hl ⊢
  have hMc : M ≤ c := by omega
  have HR := Lib.hid hR
  have HC := Lib.hid hc
  obtain ⟨bd1, bd2⟩ := form_le no
  have bdq := cnt_le (fk no)
  have bd3 : ¬ fk no = 0 → 1 ≤ fl no := by rcases form_bd no with h1 | h1 <;> omega
  by_cases hk : fk no = 0
  · have HE := Lib.hid (show R = ([], 0, 12) by rw [HR.out]; exact read_none no b at_ hk)
    have e0 : decide (fk no ≠ 0) = false := decide_eq_false (by omega)
    rw [e0] at CO
    rw [HE.out]
    clear e0 hk CF CC HE hr hR hM hc CT HC HR bd1 bd2 bdq bd3
    generalize fk no = k at *
    generalize fl no = n at *
    go_enter Tryd.func60, Tryd.ntmps60
    go_wp2_with fail
    refine (CO.out _).mono ?_
    rintro e w1 ⟨rfl, hb⟩
    have HB := Lib.hid (hb.alloc hb.size (.cells #[.int .i64 (k : Int), .int .i64 (n : Int)] 95))
    clear hb CO
    go_wp2
    go_ret3
    exact ⟨Ans3.none, HB.out⟩
  have e0 : decide (fk no ≠ 0) = true := decide_eq_true hk
  rw [e0] at CO
  clear e0
  by_cases ha : at_ < 0 ∨ (M : Int) < at_
  · have HE := Lib.hid (show R = ([], 0, 1) by rw [HR.out]; unfold readF; rw [if_neg hk, if_pos (by rw [← HM.out]; exact ha)])
    rw [HE.out]
    clear hk CF CC HE hr hR hM hc CT HC HR bd1 bd2 bdq bd3
    generalize fk no = k at *
    generalize fl no = n at *
    by_cases h1 : at_ < 0
    · go_enter Tryd.func60, Tryd.ntmps60
      go_wp2_with fail
      refine (CO.out _).mono ?_
      rintro e w1 ⟨rfl, hb⟩
      have HB := Lib.hid (hb.alloc hb.size (.cells #[.int .i64 (k : Int), .int .i64 (n : Int)] 95))
      clear hb CO
      go_wp2
      go_ret3
      exact ⟨Ans3.none, HB.out⟩
    · have h2 : (M : Int) < at_ := by omega
      clear ha
      go_enter Tryd.func60, Tryd.ntmps60
      go_wp2_with fail
      refine (CO.out _).mono ?_
      rintro e w1 ⟨rfl, hb⟩
      have HB := Lib.hid (hb.alloc hb.size (.cells #[.int .i64 (k : Int), .int .i64 (n : Int)] 95))
      clear hb CO
      go_wp2
      go_ret3
      exact ⟨Ans3.none, HB.out⟩
  obtain ⟨p0, rfl⟩ := Int.eq_ofNat_of_zero_le (show 0 ≤ at_ by omega)
  have hpM : p0 ≤ M := by omega
  have HE := Lib.hid (show R = readH (fk no) (fl no) b p0 by rw [HR.out]; unfold readF; rw [if_neg hk, if_neg (by rw [← HM.out]; exact ha)]; rfl)
  have d1 : ¬ (p0 : Int) < 0 := by omega
  have d2 : ¬ (M : Int) < (p0 : Int) := by omega
  have bd4 := bd3 hk
  clear hk hR hr hM ha hc HR bd3
  generalize fk no = k at *
  generalize fl no = n at *
  have HEH := Lib.hid (fun (h : 0 < cntF k) => (show readH k n b p0 = _ from if_pos h))
  have HEN := Lib.hid (fun (h : ¬ 0 < cntF k) => (show readH k n b p0 = readB k n b p0 n from if_neg h))
  have HTE := Lib.hid (fun (p m : Nat) (hm : m ≤ 999) (hp : p ≤ M) => tbS_err b p m hm (by rw [← HM.out]; exact hp))
  have HTO := Lib.hid (fun (p m : Nat) => tbS_ok b p m)
  generalize cntF k = q at *
  have bq3 : q ≤ 3 := bdq
  clear bdq
  by_cases hq0 : 0 < q
  · have HEA := HEH.out hq0
    have i2 : (0 : Int) < (q : Int) := by omega
    have HTA := Lib.hid (HTO.out p0 q)
    have HTB := Lib.hid (HTE.out p0 q (by omega) hpM)
    have CTA := Lib.hid (CT.out p0 q)
    rw [HEA] at HE
    clear HEA HEH HEN
    obtain ⟨T1, hT1⟩ : ∃ t, t = tbS b p0 q := ⟨_, rfl⟩
    have HT1E := Lib.hid hT1
    rw [← hT1] at HE HTA HTB CTA
    clear hT1 HT1E
    by_cases hT1 : T1.2.2 = 0
    · obtain ⟨t1, t2, t3, t4, t5⟩ := HTA.out hT1
      have CV := Lib.hid (show ∀ w, Calls Tryd.prog 57 #[.string ⟨T1.1.toArray⟩] w fun e W' => e = .returned (.tuple #[.int .i64 ((val T1.1 : Nat) : Int), .int .i64 0]) ∧ Below w.heap.size w W' from fun w => by
        have h3 := refValue_any ⟨T1.1.toArray⟩ w (by simp [ByteArray.size]; omega)
        rw [show (⟨T1.1.toArray⟩ : ByteArray).data.toList = T1.1 from rfl, valR_ok _ (by omega) (by omega) t4] at h3
        exact h3)
      rw [← HM.out] at t1
      have HN2 := Lib.hid t2
      clear t2 t3 t4 t5
      by_cases hlo : val T1.1 < 1
      · have HX := Lib.hid (show R = ([], 0, 2) by rw [HE.out, if_pos hT1, if_pos (by omega)])
        rw [HX.out]
        have i10 : (T1.2.2 != 0) = false := by rw [hT1]; rfl
        have HT10 := Lib.hid hT1
        clear HX HE HTA HTB hT1 CF CT HTE HTO RB HM HC
        have j1 : ((val T1.1 : Nat) : Int) < 1 := by omega
        generalize val T1.1 = N1 at *
        go_enter Tryd.func60, Tryd.ntmps60
        go_wp2_with fail
        refine (CO.out _).mono ?_
        rintro e w1 ⟨rfl, hb⟩
        obtain ⟨V1, hV1⟩ : ∃ V, V = w1.alloc (.cells #[.int .i64 (k : Int), .int .i64 (n : Int)] 95) := ⟨_, rfl⟩
        have hbv : Below W.heap.size W V1 := by rw [hV1]; exact hb.alloc hb.size _
        have hg := heap_alloc_new w1 (.cells #[.int .i64 (k : Int), .int .i64 (n : Int)] 95)
        rw [← hV1] at hg
        obtain ⟨g, hgg⟩ : ∃ g, g = w1.heap.size := ⟨_, rfl⟩
        rw [← hgg] at hg
        have HB := Lib.hid hbv
        have HV1 := Lib.hid hV1
        have HGG := Lib.hid hgg
        have HG := Lib.hid hg
        obtain ⟨x0, x1⟩ := cells2 hg
        rw [hV1] at x0 x1
        clear hb hbv hV1 hgg hg CO
        go_wp2_with fail
        (try rw [← HV1.out])
        (try rw [← HGG.out])
        clear x0 x1 HV1 HGG
        obtain ⟨x0, x1⟩ := cells2 HG.out
        refine (CC.out _).mono ?_
        rintro e w3 ⟨rfl, rfl⟩
        obtain ⟨WX, hWX⟩ : ∃ x, x = V1 := ⟨_, rfl⟩
        rw [← hWX] at HB HG x0 x1 ⊢
        clear hWX
        go_wp2_with fail
        refine (CC.out _).mono ?_
        rintro e w3 ⟨rfl, rfl⟩
        go_wp2_with fail
        refine (CTA.out _ HB.out).mono ?_
        rintro e w4 ⟨rfl, hb⟩
        have nHB := Lib.hid (bel5 HB.out hb HB.out.size)
        have nHG := Lib.hid (old5 HG.out hb (Nat.le_refl _))
        clear hb HB HG x0 x1
        obtain ⟨x0, x1⟩ := cells2 nHG.out
        go_wp2_with fail
        refine (CV.out _).mono ?_
        rintro e w5 ⟨rfl, hb⟩
        have HBZ := Lib.hid (bel5 nHB.out hb nHB.out.size)
        have hg5 := old5 nHG.out hb (Nat.le_refl _)
        clear hb x0 x1
        obtain ⟨x0, x1⟩ := cells2 hg5
        clear hg5
        go_wp2
        go_ret3
        exact ⟨Ans3.none, HBZ.out⟩
      by_cases hhi : n < val T1.1
      · have HX := Lib.hid (show R = ([], 0, 2) by rw [HE.out, if_pos hT1, if_pos (by omega)])
        rw [HX.out]
        have i10 : (T1.2.2 != 0) = false := by rw [hT1]; rfl
        have HT10 := Lib.hid hT1
        clear HX HE HTA HTB hT1 CF CT HTE HTO RB HM HC
        have j1 : ¬ ((val T1.1 : Nat) : Int) < 1 := by omega
        have j2 : (n : Int) < ((val T1.1 : Nat) : Int) := by omega
        generalize val T1.1 = N1 at *
        go_enter Tryd.func60, Tryd.ntmps60
        go_wp2_with fail
        refine (CO.out _).mono ?_
        rintro e w1 ⟨rfl, hb⟩
        obtain ⟨V1, hV1⟩ : ∃ V, V = w1.alloc (.cells #[.int .i64 (k : Int), .int .i64 (n : Int)] 95) := ⟨_, rfl⟩
        have hbv : Below W.heap.size W V1 := by rw [hV1]; exact hb.alloc hb.size _
        have hg := heap_alloc_new w1 (.cells #[.int .i64 (k : Int), .int .i64 (n : Int)] 95)
        rw [← hV1] at hg
        obtain ⟨g, hgg⟩ : ∃ g, g = w1.heap.size := ⟨_, rfl⟩
        rw [← hgg] at hg
        have HB := Lib.hid hbv
        have HV1 := Lib.hid hV1
        have HGG := Lib.hid hgg
        have HG := Lib.hid hg
        obtain ⟨x0, x1⟩ := cells2 hg
        rw [hV1] at x0 x1
        clear hb hbv hV1 hgg hg CO
        go_wp2_with fail
        (try rw [← HV1.out])
        (try rw [← HGG.out])
        clear x0 x1 HV1 HGG
        obtain ⟨x0, x1⟩ := cells2 HG.out
        refine (CC.out _).mono ?_
        rintro e w3 ⟨rfl, rfl⟩
        obtain ⟨WX, hWX⟩ : ∃ x, x = V1 := ⟨_, rfl⟩
        rw [← hWX] at HB HG x0 x1 ⊢
        clear hWX
        go_wp2_with fail
        refine (CC.out _).mono ?_
        rintro e w3 ⟨rfl, rfl⟩
        go_wp2_with fail
        refine (CTA.out _ HB.out).mono ?_
        rintro e w4 ⟨rfl, hb⟩
        have nHB := Lib.hid (bel5 HB.out hb HB.out.size)
        have nHG := Lib.hid (old5 HG.out hb (Nat.le_refl _))
        clear hb HB HG x0 x1
        obtain ⟨x0, x1⟩ := cells2 nHG.out
        go_wp2_with fail
        refine (CV.out _).mono ?_
        rintro e w5 ⟨rfl, hb⟩
        have HBZ := Lib.hid (bel5 nHB.out hb nHB.out.size)
        have hg5 := old5 nHG.out hb (Nat.le_refl _)
        clear hb x0 x1
        obtain ⟨x0, x1⟩ := cells2 hg5
        clear hg5
        go_wp2
        go_ret3
        exact ⟨Ans3.none, HBZ.out⟩
      have HE3 := Lib.hid (show R = readB k n b (p0 + (q + 1) / 2) (val T1.1) by rw [HE.out, if_pos hT1, if_neg (by omega)])
      have j1 : ¬ ((val T1.1 : Nat) : Int) < 1 := by omega
      have j2 : ¬ (n : Int) < ((val T1.1 : Nat) : Int) := by omega
      have i10' : (T1.2.2 != 0) = false := by rw [hT1]; rfl
      have HT10 := Lib.hid hT1
      clear HTA HTB hT1 HE
      have HE := Lib.hid True.intro
      obtain ⟨m, hm⟩ : ∃ m, m = val T1.1 := ⟨_, rfl⟩
      rw [← hm] at HE3 CV j1 j2 hlo hhi
      obtain ⟨p, hp⟩ : ∃ p, p = p0 + (q + 1) / 2 := ⟨_, rfl⟩
      rw [← hp] at HE3 HN2 t1
      have hpM' : p ≤ M := t1
      clear hm hp t1
      rw [show T1.2.1 = (p : Int) from HN2.out] at CTA
      obtain ⟨sz, hsz⟩ : ∃ s, s = sizeF k m := ⟨_, rfl⟩
      have HSZ := Lib.hid hsz
      have hszm : sz ≤ m := by rw [hsz]; unfold sizeF; split <;> omega
      have hp16 : p ≤ 10000 := by omega
      have hm16 : m ≤ 400 := by omega
      have hm1 : 1 ≤ m := by omega
      by_cases hs : M < p + sz
      · by_cases hk2 : k ≤ 2
        · have HX := Lib.hid (show R = ([], 0, 3) by rw [HE3.out]; unfold readB; rw [← HSZ.out, ← HM.out, if_pos hs])
          rw [HX.out]
          have i1 : (k : Int) ≤ 2 := by omega
          have i4 : ((m : Int) + 1) / 2 = (sz : Int) := by rw [hsz]; unfold sizeF; rw [if_pos hk2]; omega
          have i5 : (M : Int) - (p : Int) < (sz : Int) := by omega
          clear HSZ hsz hszm hs hk2 HE3 HE HX CF CT HTE HTO RB HM HC
          go_enter Tryd.func60, Tryd.ntmps60
          go_wp2_with fail
          refine (CO.out _).mono ?_
          rintro e w1 ⟨rfl, hb⟩
          obtain ⟨V1, hV1⟩ : ∃ V, V = w1.alloc (.cells #[.int .i64 (k : Int), .int .i64 (n : Int)] 95) := ⟨_, rfl⟩
          have hbv : Below W.heap.size W V1 := by rw [hV1]; exact hb.alloc hb.size _
          have hg := heap_alloc_new w1 (.cells #[.int .i64 (k : Int), .int .i64 (n : Int)] 95)
          rw [← hV1] at hg
          obtain ⟨g, hgg⟩ : ∃ g, g = w1.heap.size := ⟨_, rfl⟩
          rw [← hgg] at hg
          have HB := Lib.hid hbv
          have HV1 := Lib.hid hV1
          have HGG := Lib.hid hgg
          have HG := Lib.hid hg
          obtain ⟨x0, x1⟩ := cells2 hg
          rw [hV1] at x0 x1
          clear hb hbv hV1 hgg hg CO
          go_wp2_with fail
          (try rw [← HV1.out])
          (try rw [← HGG.out])
          clear x0 x1 HV1 HGG
          obtain ⟨x0, x1⟩ := cells2 HG.out
          refine (CC.out _).mono ?_
          rintro e w3 ⟨rfl, rfl⟩
          obtain ⟨WX, hWX⟩ : ∃ x, x = V1 := ⟨_, rfl⟩
          rw [← hWX] at HB HG x0 x1 ⊢
          clear hWX
          go_wp2_with fail
          refine (CC.out _).mono ?_
          rintro e w3 ⟨rfl, rfl⟩
          go_wp2_with fail
          refine (CTA.out _ HB.out).mono ?_
          rintro e w4 ⟨rfl, hb⟩
          have nHB := Lib.hid (bel5 HB.out hb HB.out.size)
          have nHG := Lib.hid (old5 HG.out hb (Nat.le_refl _))
          clear hb HB HG x0 x1
          obtain ⟨x0, x1⟩ := cells2 nHG.out
          go_wp2_with fail
          refine (CV.out _).mono ?_
          rintro e w5 ⟨rfl, hb⟩
          have mHB := Lib.hid (bel5 nHB.out hb nHB.out.size)
          have mHG := Lib.hid (old5 nHG.out hb (Nat.le_refl _))
          clear hb x0 x1 nHB nHG
          obtain ⟨WX, hWX⟩ : ∃ x, x = w5 := ⟨_, rfl⟩
          rw [← hWX] at mHB mHG ⊢
          have HB := mHB
          have HG := mHG
          clear mHB mHG hWX
          obtain ⟨x0, x1⟩ := cells2 HG.out
          go_wp2
          go_ret3
          exact ⟨Ans3.none, HB.out⟩
        · have HX := Lib.hid (show R = ([], 0, 3) by rw [HE3.out]; unfold readB; rw [← HSZ.out, ← HM.out, if_pos hs])
          rw [HX.out]
          have i1 : ¬ (k : Int) ≤ 2 := by omega
          have hsm : sz = m := by rw [hsz]; unfold sizeF; rw [if_neg hk2]
          have i5 : (M : Int) - (p : Int) < (m : Int) := by omega
          clear hsm
          clear HSZ hsz hszm hs hk2 HE3 HE HX CF CT HTE HTO RB HM HC
          go_enter Tryd.func60, Tryd.ntmps60
          go_wp2_with fail
          refine (CO.out _).mono ?_
          rintro e w1 ⟨rfl, hb⟩
          obtain ⟨V1, hV1⟩ : ∃ V, V = w1.alloc (.cells #[.int .i64 (k : Int), .int .i64 (n : Int)] 95) := ⟨_, rfl⟩
          have hbv : Below W.heap.size W V1 := by rw [hV1]; exact hb.alloc hb.size _
          have hg := heap_alloc_new w1 (.cells #[.int .i64 (k : Int), .int .i64 (n : Int)] 95)
          rw [← hV1] at hg
          obtain ⟨g, hgg⟩ : ∃ g, g = w1.heap.size := ⟨_, rfl⟩
          rw [← hgg] at hg
          have HB := Lib.hid hbv
          have HV1 := Lib.hid hV1
          have HGG := Lib.hid hgg
          have HG := Lib.hid hg
          obtain ⟨x0, x1⟩ := cells2 hg
          rw [hV1] at x0 x1
          clear hb hbv hV1 hgg hg CO
          go_wp2_with fail
          (try rw [← HV1.out])
          (try rw [← HGG.out])
          clear x0 x1 HV1 HGG
          obtain ⟨x0, x1⟩ := cells2 HG.out
          refine (CC.out _).mono ?_
          rintro e w3 ⟨rfl, rfl⟩
          obtain ⟨WX, hWX⟩ : ∃ x, x = V1 := ⟨_, rfl⟩
          rw [← hWX] at HB HG x0 x1 ⊢
          clear hWX
          go_wp2_with fail
          refine (CC.out _).mono ?_
          rintro e w3 ⟨rfl, rfl⟩
          go_wp2_with fail
          refine (CTA.out _ HB.out).mono ?_
          rintro e w4 ⟨rfl, hb⟩
          have nHB := Lib.hid (bel5 HB.out hb HB.out.size)
          have nHG := Lib.hid (old5 HG.out hb (Nat.le_refl _))
          clear hb HB HG x0 x1
          obtain ⟨x0, x1⟩ := cells2 nHG.out
          go_wp2_with fail
          refine (CV.out _).mono ?_
          rintro e w5 ⟨rfl, hb⟩
          have mHB := Lib.hid (bel5 nHB.out hb nHB.out.size)
          have mHG := Lib.hid (old5 nHG.out hb (Nat.le_refl _))
          clear hb x0 x1 nHB nHG
          obtain ⟨WX, hWX⟩ : ∃ x, x = w5 := ⟨_, rfl⟩
          rw [← hWX] at mHB mHG ⊢
          have HB := mHB
          have HG := mHG
          clear mHB mHG hWX
          obtain ⟨x0, x1⟩ := cells2 HG.out
          go_wp2
          go_ret3
          exact ⟨Ans3.none, HB.out⟩
      · by_cases hk2 : k ≤ 2
        · have i1 : (k : Int) ≤ 2 := by omega
          have i4 : ((m : Int) + 1) / 2 = (sz : Int) := by rw [hsz]; unfold sizeF; rw [if_pos hk2]; omega
          have i5 : ¬ (M : Int) - (p : Int) < (sz : Int) := by omega
          have i6 : ((p : Int) + (sz : Int)).toNat - p = sz := by omega
          have i7 : (p : Int) + (sz : Int) ≤ (c : Int) := by omega
          have i8 : (p : Int) ≤ (p : Int) + (sz : Int) := by omega
          have i9 : (0 : Int) ≤ (p : Int) := by omega
          have hsz1 : 1 ≤ sz := by rw [hsz]; unfold sizeF; split <;> omega
          have hcp : ¬ c = p := by omega
          have HCUT := Lib.hid (fun w (h : Below W.heap.size W w) => (show Rd w w.heap.size (A.map (fun x => x.add p)) ((b.drop p).take sz) from by
            have h9 := (RB.out w h).cut p sz c (by rw [← HM.out]; omega) HC.out
            rw [if_neg hcp, Nat.mul_one] at h9
            exact h9))
          have HCL := Lib.hid (show sz = ((b.drop p).take sz).length by rw [List.length_take, List.length_drop, ← HM.out]; omega)
          have HT2 := Lib.hid (HTO.out p m)
          have CT2 := Lib.hid (CT.out p m)
          have HX0 := Lib.hid (show R = if (tbS b p m).2.2 = 0 then (if fitF k n (tbS b p m).1 = true then ((tbS b p m).1, ((p + sz : Nat) : Int), 0) else ([], 0, 2)) else ([], 0, 2) by
            rw [HE3.out]; unfold readB; rw [← HSZ.out, ← HM.out, if_neg hs, if_pos hk2])
          generalize tbS b p m = T2 at *
          by_cases hT2 : T2.2.2 = 0
          · cases hfit : fitF k n T2.1 with
            | false =>
              obtain ⟨u1, u2, u3, u4, u5⟩ := HT2.out hT2
              have HX := Lib.hid (show R = ([], 0, 2) by rw [HX0.out, if_pos hT2, hfit]; rfl)
              rw [HX.out]
              have i10 : (T2.2.2 != 0) = false := by rw [hT2]; rfl
              have HT0 := Lib.hid hT2
              have HLN := Lib.hid (show T2.1.length ≤ 400 by rw [u3]; omega)
              obtain ⟨cc, ww, hcw⟩ := conv5 T2.1 (by have := HLN.out; omega)
              have HCW := Lib.hid (fun W => (hcw W).2)
              have hcv := fun W => (hcw W).1
              clear hcw u1 u2 u3 u4 u5
              have CF2 := Lib.hid (fun A' c' w => CF.out A' T2.1 T2.1.length c' w rfl (by have := HLN.out; omega))
              rw [hfit] at CF2
              clear HX hfit hT2 CF HSZ hsz hszm hsz1 hs hk2 HE3 HE HX0 RB HM HC HTE HTO HT2 CT
              go_enter Tryd.func60, Tryd.ntmps60
              go_wp2_with fail
              refine (CO.out _).mono ?_
              rintro e w1 ⟨rfl, hb⟩
              obtain ⟨V1, hV1⟩ : ∃ V, V = w1.alloc (.cells #[.int .i64 (k : Int), .int .i64 (n : Int)] 95) := ⟨_, rfl⟩
              have hbv : Below W.heap.size W V1 := by rw [hV1]; exact hb.alloc hb.size _
              have hg := heap_alloc_new w1 (.cells #[.int .i64 (k : Int), .int .i64 (n : Int)] 95)
              rw [← hV1] at hg
              obtain ⟨g, hgg⟩ : ∃ g, g = w1.heap.size := ⟨_, rfl⟩
              rw [← hgg] at hg
              have HB := Lib.hid hbv
              have HV1 := Lib.hid hV1
              have HGG := Lib.hid hgg
              have HG := Lib.hid hg
              obtain ⟨x0, x1⟩ := cells2 hg
              rw [hV1] at x0 x1
              clear hb hbv hV1 hgg hg CO
              go_wp2_with fail
              (try rw [← HV1.out])
              (try rw [← HGG.out])
              clear x0 x1 HV1 HGG
              obtain ⟨x0, x1⟩ := cells2 HG.out
              refine (CC.out _).mono ?_
              rintro e w3 ⟨rfl, rfl⟩
              obtain ⟨WX, hWX⟩ : ∃ x, x = V1 := ⟨_, rfl⟩
              rw [← hWX] at HB HG x0 x1 ⊢
              clear hWX
              go_wp2_with fail
              refine (CC.out _).mono ?_
              rintro e w3 ⟨rfl, rfl⟩
              go_wp2_with fail
              refine (CTA.out _ HB.out).mono ?_
              rintro e w4 ⟨rfl, hb⟩
              have nHB := Lib.hid (bel5 HB.out hb HB.out.size)
              have nHG := Lib.hid (old5 HG.out hb (Nat.le_refl _))
              clear hb HB HG x0 x1
              obtain ⟨x0, x1⟩ := cells2 nHG.out
              go_wp2_with fail
              refine (CV.out _).mono ?_
              rintro e w5 ⟨rfl, hb⟩
              have mHB := Lib.hid (bel5 nHB.out hb nHB.out.size)
              have mHG := Lib.hid (old5 nHG.out hb (Nat.le_refl _))
              clear hb x0 x1 nHB nHG
              obtain ⟨WX, hWX⟩ : ∃ x, x = w5 := ⟨_, rfl⟩
              rw [← hWX] at mHB mHG ⊢
              have HB := mHB
              have HG := mHG
              clear mHB mHG hWX
              obtain ⟨x0, x1⟩ := cells2 HG.out
              go_wp2_with (first
                | (at_builtin; refine wpList_appS _ rfl (.tmp 85) (.tmp 91) rfl WX.heap.size _ [] ((b.drop p).take sz) rfl (by exact Ow.made0 WX (Nat.le_refl _)) _ _ _ _ rfl HCL.out (by exact (HCUT.out WX HB.out).below ((Below.refl WX.heap.size WX).alloc (Nat.le_refl _) _) (Nat.le_refl _)) (by have := HCL.out; show 0 + List.length ((b.drop p).take sz) ≤ 100000000; omega) (by exact le_alloc (Nat.le_refl _) _) ?_; intro v5 w5 hown5 hgrow5; have hb5 := Ow.below (w0 := WX) (by exact Ow.made0 WX (Nat.le_refl _)) (by exact (Below.refl WX.heap.size WX).alloc (Nat.le_refl _) _) hgrow5 (by exact le_alloc (Nat.le_refl _) _); have HB5 := Lib.hid (bel5 HB.out hb5 HB.out.size); have hg5 := old5 HG.out hb5 (Nat.le_refl _); have HG5 := Lib.hid hg5; clear x0 x1; obtain ⟨x0, x1⟩ := cells2 hg5; rw [List.nil_append] at hown5; obtain ⟨A5, c5, e5, q1, q2, q3⟩ := hown5.form; subst e5; have Q1 := Lib.hid q1; have Q2 := Lib.hid q2; have Q3 := Lib.hid q3; clear hown5 hgrow5 hb5 hg5 q1 q2 q3))
              (refine (CT2.out _ HB5.out).mono ?_)
              rintro e w6 ⟨rfl, hb⟩
              have HB6 := Lib.hid (bel5 HB5.out hb HB5.out.size)
              have hg6 := old5 HG5.out hb (Nat.le_refl _)
              obtain ⟨r1, r2, r3, r4⟩ := HCW.out w6
              have hg7 := old5 hg6 r2 (Nat.le_refl _)
              obtain ⟨y0, y1⟩ := cells2 hg7
              have HB7 := Lib.hid (bel5 HB6.out r2 HB6.out.size)
              have RR := Lib.hid r1
              have R3 := Lib.hid r3
              have R4 := Lib.hid r4
              clear hb hg6 x0 x1 r1 r2 r3 r4 hg7
              go_wp2_with fail
              refine (CF2.out _ _ _ RR.out).mono ?_
              rintro e w8 ⟨rfl, hb⟩
              have HB8 := Lib.hid (bel5 HB7.out hb HB7.out.size)
              have RR8 := Lib.hid ((RR.out.below hb (Nat.le_refl _)).more hb.size)
              clear hb y0 y1
              go_wp2
              go_ret3
              exact ⟨Ans3.none, HB8.out⟩
            | true =>
              obtain ⟨u1, u2, u3, u4, u5⟩ := HT2.out hT2
              have HX := Lib.hid (show R = (T2.1, ((p + sz : Nat) : Int), 0) by rw [HX0.out, if_pos hT2, hfit]; rfl)
              rw [HX.out]
              have i10 : (T2.2.2 != 0) = false := by rw [hT2]; rfl
              have HT0 := Lib.hid hT2
              have HLN := Lib.hid (show T2.1.length ≤ 400 by rw [u3]; omega)
              obtain ⟨cc, ww, hcw⟩ := conv5 T2.1 (by have := HLN.out; omega)
              have HCW := Lib.hid (fun W => (hcw W).2)
              have hcv := fun W => (hcw W).1
              clear hcw u1 u2 u3 u4 u5
              have CF2 := Lib.hid (fun A' c' w => CF.out A' T2.1 T2.1.length c' w rfl (by have := HLN.out; omega))
              rw [hfit] at CF2
              clear HX hfit hT2 CF HSZ hsz hszm hsz1 hs hk2 HE3 HE HX0 RB HM HC HTE HTO HT2 CT
              go_enter Tryd.func60, Tryd.ntmps60
              go_wp2_with fail
              refine (CO.out _).mono ?_
              rintro e w1 ⟨rfl, hb⟩
              obtain ⟨V1, hV1⟩ : ∃ V, V = w1.alloc (.cells #[.int .i64 (k : Int), .int .i64 (n : Int)] 95) := ⟨_, rfl⟩
              have hbv : Below W.heap.size W V1 := by rw [hV1]; exact hb.alloc hb.size _
              have hg := heap_alloc_new w1 (.cells #[.int .i64 (k : Int), .int .i64 (n : Int)] 95)
              rw [← hV1] at hg
              obtain ⟨g, hgg⟩ : ∃ g, g = w1.heap.size := ⟨_, rfl⟩
              rw [← hgg] at hg
              have HB := Lib.hid hbv
              have HV1 := Lib.hid hV1
              have HGG := Lib.hid hgg
              have HG := Lib.hid hg
              obtain ⟨x0, x1⟩ := cells2 hg
              rw [hV1] at x0 x1
              clear hb hbv hV1 hgg hg CO
              go_wp2_with fail
              (try rw [← HV1.out])
              (try rw [← HGG.out])
              clear x0 x1 HV1 HGG
              obtain ⟨x0, x1⟩ := cells2 HG.out
              refine (CC.out _).mono ?_
              rintro e w3 ⟨rfl, rfl⟩
              obtain ⟨WX, hWX⟩ : ∃ x, x = V1 := ⟨_, rfl⟩
              rw [← hWX] at HB HG x0 x1 ⊢
              clear hWX
              go_wp2_with fail
              refine (CC.out _).mono ?_
              rintro e w3 ⟨rfl, rfl⟩
              go_wp2_with fail
              refine (CTA.out _ HB.out).mono ?_
              rintro e w4 ⟨rfl, hb⟩
              have nHB := Lib.hid (bel5 HB.out hb HB.out.size)
              have nHG := Lib.hid (old5 HG.out hb (Nat.le_refl _))
              clear hb HB HG x0 x1
              obtain ⟨x0, x1⟩ := cells2 nHG.out
              go_wp2_with fail
              refine (CV.out _).mono ?_
              rintro e w5 ⟨rfl, hb⟩
              have mHB := Lib.hid (bel5 nHB.out hb nHB.out.size)
              have mHG := Lib.hid (old5 nHG.out hb (Nat.le_refl _))
              clear hb x0 x1 nHB nHG
              obtain ⟨WX, hWX⟩ : ∃ x, x = w5 := ⟨_, rfl⟩
              rw [← hWX] at mHB mHG ⊢
              have HB := mHB
              have HG := mHG
              clear mHB mHG hWX
              obtain ⟨x0, x1⟩ := cells2 HG.out
              go_wp2_with (first
                | (at_builtin; refine wpList_appS _ rfl (.tmp 85) (.tmp 91) rfl WX.heap.size _ [] ((b.drop p).take sz) rfl (by exact Ow.made0 WX (Nat.le_refl _)) _ _ _ _ rfl HCL.out (by exact (HCUT.out WX HB.out).below ((Below.refl WX.heap.size WX).alloc (Nat.le_refl _) _) (Nat.le_refl _)) (by have := HCL.out; show 0 + List.length ((b.drop p).take sz) ≤ 100000000; omega) (by exact le_alloc (Nat.le_refl _) _) ?_; intro v5 w5 hown5 hgrow5; have hb5 := Ow.below (w0 := WX) (by exact Ow.made0 WX (Nat.le_refl _)) (by exact (Below.refl WX.heap.size WX).alloc (Nat.le_refl _) _) hgrow5 (by exact le_alloc (Nat.le_refl _) _); have HB5 := Lib.hid (bel5 HB.out hb5 HB.out.size); have hg5 := old5 HG.out hb5 (Nat.le_refl _); have HG5 := Lib.hid hg5; clear x0 x1; obtain ⟨x0, x1⟩ := cells2 hg5; rw [List.nil_append] at hown5; obtain ⟨A5, c5, e5, q1, q2, q3⟩ := hown5.form; subst e5; have Q1 := Lib.hid q1; have Q2 := Lib.hid q2; have Q3 := Lib.hid q3; clear hown5 hgrow5 hb5 hg5 q1 q2 q3))
              (refine (CT2.out _ HB5.out).mono ?_)
              rintro e w6 ⟨rfl, hb⟩
              have HB6 := Lib.hid (bel5 HB5.out hb HB5.out.size)
              have hg6 := old5 HG5.out hb (Nat.le_refl _)
              obtain ⟨r1, r2, r3, r4⟩ := HCW.out w6
              have hg7 := old5 hg6 r2 (Nat.le_refl _)
              obtain ⟨y0, y1⟩ := cells2 hg7
              have HB7 := Lib.hid (bel5 HB6.out r2 HB6.out.size)
              have RR := Lib.hid r1
              have R3 := Lib.hid r3
              have R4 := Lib.hid r4
              clear hb hg6 x0 x1 r1 r2 r3 r4 hg7
              go_wp2_with fail
              refine (CF2.out _ _ _ RR.out).mono ?_
              rintro e w8 ⟨rfl, hb⟩
              have HB8 := Lib.hid (bel5 HB7.out hb HB7.out.size)
              have RR8 := Lib.hid ((RR.out.below hb (Nat.le_refl _)).more hb.size)
              clear hb y0 y1
              go_wp2
              go_ret3
              exact ⟨⟨_, _, by first | rfl | (push_cast; rfl), R3.out, R4.out, RR8.out⟩, HB8.out⟩
          · have HX := Lib.hid (show R = ([], 0, 2) by rw [HX0.out, if_neg hT2])
            rw [HX.out]
            have i10 : (T2.2.2 != 0) = true := by simpa using hT2
            clear HX hT2 CF HSZ hsz hszm hsz1 hs hk2 HE3 HE HX0 RB HM HC HTE HTO HT2 CT
            go_enter Tryd.func60, Tryd.ntmps60
            go_wp2_with fail
            refine (CO.out _).mono ?_
            rintro e w1 ⟨rfl, hb⟩
            obtain ⟨V1, hV1⟩ : ∃ V, V = w1.alloc (.cells #[.int .i64 (k : Int), .int .i64 (n : Int)] 95) := ⟨_, rfl⟩
            have hbv : Below W.heap.size W V1 := by rw [hV1]; exact hb.alloc hb.size _
            have hg := heap_alloc_new w1 (.cells #[.int .i64 (k : Int), .int .i64 (n : Int)] 95)
            rw [← hV1] at hg
            obtain ⟨g, hgg⟩ : ∃ g, g = w1.heap.size := ⟨_, rfl⟩
            rw [← hgg] at hg
            have HB := Lib.hid hbv
            have HV1 := Lib.hid hV1
            have HGG := Lib.hid hgg
            have HG := Lib.hid hg
            obtain ⟨x0, x1⟩ := cells2 hg
            rw [hV1] at x0 x1
            clear hb hbv hV1 hgg hg CO
            go_wp2_with fail
            (try rw [← HV1.out])
            (try rw [← HGG.out])
            clear x0 x1 HV1 HGG
            obtain ⟨x0, x1⟩ := cells2 HG.out
            refine (CC.out _).mono ?_
            rintro e w3 ⟨rfl, rfl⟩
            obtain ⟨WX, hWX⟩ : ∃ x, x = V1 := ⟨_, rfl⟩
            rw [← hWX] at HB HG x0 x1 ⊢
            clear hWX
            go_wp2_with fail
            refine (CC.out _).mono ?_
            rintro e w3 ⟨rfl, rfl⟩
            go_wp2_with fail
            refine (CTA.out _ HB.out).mono ?_
            rintro e w4 ⟨rfl, hb⟩
            have nHB := Lib.hid (bel5 HB.out hb HB.out.size)
            have nHG := Lib.hid (old5 HG.out hb (Nat.le_refl _))
            clear hb HB HG x0 x1
            obtain ⟨x0, x1⟩ := cells2 nHG.out
            go_wp2_with fail
            refine (CV.out _).mono ?_
            rintro e w5 ⟨rfl, hb⟩
            have mHB := Lib.hid (bel5 nHB.out hb nHB.out.size)
            have mHG := Lib.hid (old5 nHG.out hb (Nat.le_refl _))
            clear hb x0 x1 nHB nHG
            obtain ⟨WX, hWX⟩ : ∃ x, x = w5 := ⟨_, rfl⟩
            rw [← hWX] at mHB mHG ⊢
            have HB := mHB
            have HG := mHG
            clear mHB mHG hWX
            obtain ⟨x0, x1⟩ := cells2 HG.out
            go_wp2_with (first
              | (at_builtin; refine wpList_appS _ rfl (.tmp 85) (.tmp 91) rfl WX.heap.size _ [] ((b.drop p).take sz) rfl (by exact Ow.made0 WX (Nat.le_refl _)) _ _ _ _ rfl HCL.out (by exact (HCUT.out WX HB.out).below ((Below.refl WX.heap.size WX).alloc (Nat.le_refl _) _) (Nat.le_refl _)) (by have := HCL.out; show 0 + List.length ((b.drop p).take sz) ≤ 100000000; omega) (by exact le_alloc (Nat.le_refl _) _) ?_; intro v5 w5 hown5 hgrow5; have hb5 := Ow.below (w0 := WX) (by exact Ow.made0 WX (Nat.le_refl _)) (by exact (Below.refl WX.heap.size WX).alloc (Nat.le_refl _) _) hgrow5 (by exact le_alloc (Nat.le_refl _) _); have HB5 := Lib.hid (bel5 HB.out hb5 HB.out.size); have hg5 := old5 HG.out hb5 (Nat.le_refl _); have HG5 := Lib.hid hg5; clear x0 x1; obtain ⟨x0, x1⟩ := cells2 hg5; rw [List.nil_append] at hown5; obtain ⟨A5, c5, e5, q1, q2, q3⟩ := hown5.form; subst e5; have Q1 := Lib.hid q1; have Q2 := Lib.hid q2; have Q3 := Lib.hid q3; clear hown5 hgrow5 hb5 hg5 q1 q2 q3))
            (refine (CT2.out _ HB5.out).mono ?_)
            rintro e w6 ⟨rfl, hb⟩
            have HB6 := Lib.hid (bel5 HB5.out hb HB5.out.size)
            clear hb
            go_wp2
            go_ret3
            exact ⟨Ans3.none, HB6.out⟩
        · have i1 : ¬ (k : Int) ≤ 2 := by omega
          have hsm : sz = m := by rw [hsz]; unfold sizeF; rw [if_neg hk2]
          have HX0 := Lib.hid (show R = if fitF k n ((b.drop p).take m) = true then ((b.drop p).take m, ((p + m : Nat) : Int), 0) else ([], 0, 2) by
            rw [HE3.out]; unfold readB; rw [← HSZ.out, ← HM.out, if_neg hs, if_neg hk2, hsm])
          rw [hsm] at hs
          clear hsm hszm hsz HSZ sz
          have i5 : ¬ (M : Int) - (p : Int) < (m : Int) := by omega
          have i6 : ((p : Int) + (m : Int)).toNat - p = m := by omega
          have i7 : (p : Int) + (m : Int) ≤ (c : Int) := by omega
          have i8 : (p : Int) ≤ (p : Int) + (m : Int) := by omega
          have i9 : (0 : Int) ≤ (p : Int) := by omega
          have hcp : ¬ c = p := by omega
          have HCUT := Lib.hid (fun w (h : Below W.heap.size W w) => (show Rd w w.heap.size (A.map (fun x => x.add p)) ((b.drop p).take m) from by
            have h9 := (RB.out w h).cut p m c (by rw [← HM.out]; omega) HC.out
            rw [if_neg hcp, Nat.mul_one] at h9
            exact h9))
          have HCL := Lib.hid (show m = ((b.drop p).take m).length by rw [List.length_take, List.length_drop, ← HM.out]; omega)
          cases hfit : fitF k n ((b.drop p).take m) with
          | false =>
            have HX := Lib.hid (show R = ([], 0, 2) by rw [HX0.out, hfit]; rfl)
            rw [HX.out]
            have CF2 := Lib.hid (fun A' c' w => CF.out A' ((b.drop p).take m) _ c' w rfl (by have := HCL.out; omega))
            rw [hfit] at CF2
            generalize (b.drop p).take m = D at *
            clear HX hfit CF hs hk2 HE3 HE HX0 RB HM HC HTE HTO CT
            go_enter Tryd.func60, Tryd.ntmps60
            go_wp2_with fail
            refine (CO.out _).mono ?_
            rintro e w1 ⟨rfl, hb⟩
            obtain ⟨V1, hV1⟩ : ∃ V, V = w1.alloc (.cells #[.int .i64 (k : Int), .int .i64 (n : Int)] 95) := ⟨_, rfl⟩
            have hbv : Below W.heap.size W V1 := by rw [hV1]; exact hb.alloc hb.size _
            have hg := heap_alloc_new w1 (.cells #[.int .i64 (k : Int), .int .i64 (n : Int)] 95)
            rw [← hV1] at hg
            obtain ⟨g, hgg⟩ : ∃ g, g = w1.heap.size := ⟨_, rfl⟩
            rw [← hgg] at hg
            have HB := Lib.hid hbv
            have HV1 := Lib.hid hV1
            have HGG := Lib.hid hgg
            have HG := Lib.hid hg
            obtain ⟨x0, x1⟩ := cells2 hg
            rw [hV1] at x0 x1
            clear hb hbv hV1 hgg hg CO
            go_wp2_with fail
            (try rw [← HV1.out])
            (try rw [← HGG.out])
            clear x0 x1 HV1 HGG
            obtain ⟨x0, x1⟩ := cells2 HG.out
            refine (CC.out _).mono ?_
            rintro e w3 ⟨rfl, rfl⟩
            obtain ⟨WX, hWX⟩ : ∃ x, x = V1 := ⟨_, rfl⟩
            rw [← hWX] at HB HG x0 x1 ⊢
            clear hWX
            go_wp2_with fail
            refine (CC.out _).mono ?_
            rintro e w3 ⟨rfl, rfl⟩
            go_wp2_with fail
            refine (CTA.out _ HB.out).mono ?_
            rintro e w4 ⟨rfl, hb⟩
            have nHB := Lib.hid (bel5 HB.out hb HB.out.size)
            have nHG := Lib.hid (old5 HG.out hb (Nat.le_refl _))
            clear hb HB HG x0 x1
            obtain ⟨x0, x1⟩ := cells2 nHG.out
            go_wp2_with fail
            refine (CV.out _).mono ?_
            rintro e w5 ⟨rfl, hb⟩
            have mHB := Lib.hid (bel5 nHB.out hb nHB.out.size)
            have mHG := Lib.hid (old5 nHG.out hb (Nat.le_refl _))
            clear hb x0 x1 nHB nHG
            obtain ⟨WX, hWX⟩ : ∃ x, x = w5 := ⟨_, rfl⟩
            rw [← hWX] at mHB mHG ⊢
            have HB := mHB
            have HG := mHG
            clear mHB mHG hWX
            obtain ⟨x0, x1⟩ := cells2 HG.out
            go_wp2_with (first
              | (at_builtin; refine wpList_appS _ rfl (.tmp 85) (.tmp 91) rfl WX.heap.size _ [] D rfl (by exact Ow.made0 WX (Nat.le_refl _)) _ _ _ _ rfl HCL.out (by exact (HCUT.out WX HB.out).below ((Below.refl WX.heap.size WX).alloc (Nat.le_refl _) _) (Nat.le_refl _)) (by have := HCL.out; show 0 + List.length D ≤ 100000000; omega) (by exact le_alloc (Nat.le_refl _) _) ?_; intro v5 w5 hown5 hgrow5; have hb5 := Ow.below (w0 := WX) (by exact Ow.made0 WX (Nat.le_refl _)) (by exact (Below.refl WX.heap.size WX).alloc (Nat.le_refl _) _) hgrow5 (by exact le_alloc (Nat.le_refl _) _); have HB5 := Lib.hid (bel5 HB.out hb5 HB.out.size); have hg5 := old5 HG.out hb5 (Nat.le_refl _); have HG5 := Lib.hid hg5; clear x0 x1; obtain ⟨x0, x1⟩ := cells2 hg5; rw [List.nil_append] at hown5; obtain ⟨A5, c5, e5, q1, q2, q3⟩ := hown5.form; subst e5; have Q1 := Lib.hid q1; have Q2 := Lib.hid q2; have Q3 := Lib.hid q3; clear hown5 hgrow5 hb5 hg5 q1 q2 q3))
            refine (CF2.out _ _ _ Q3.out).mono ?_
            rintro e w8 ⟨rfl, hb⟩
            have HB8 := Lib.hid (bel5 HB5.out hb HB5.out.size)
            have RR8 := Lib.hid ((Q3.out.below hb (Nat.le_refl _)).more hb.size)
            clear hb x0 x1
            go_wp2
            go_ret3
            exact ⟨Ans3.none, HB8.out⟩
          | true =>
            have HX := Lib.hid (show R = ((b.drop p).take m, ((p + m : Nat) : Int), 0) by rw [HX0.out, hfit]; rfl)
            rw [HX.out]
            have CF2 := Lib.hid (fun A' c' w => CF.out A' ((b.drop p).take m) _ c' w rfl (by have := HCL.out; omega))
            rw [hfit] at CF2
            generalize (b.drop p).take m = D at *
            clear HX hfit CF hs hk2 HE3 HE HX0 RB HM HC HTE HTO CT
            go_enter Tryd.func60, Tryd.ntmps60
            go_wp2_with fail
            refine (CO.out _).mono ?_
            rintro e w1 ⟨rfl, hb⟩
            obtain ⟨V1, hV1⟩ : ∃ V, V = w1.alloc (.cells #[.int .i64 (k : Int), .int .i64 (n : Int)] 95) := ⟨_, rfl⟩
            have hbv : Below W.heap.size W V1 := by rw [hV1]; exact hb.alloc hb.size _
            have hg := heap_alloc_new w1 (.cells #[.int .i64 (k : Int), .int .i64 (n : Int)] 95)
            rw [← hV1] at hg
            obtain ⟨g, hgg⟩ : ∃ g, g = w1.heap.size := ⟨_, rfl⟩
            rw [← hgg] at hg
            have HB := Lib.hid hbv
            have HV1 := Lib.hid hV1
            have HGG := Lib.hid hgg
            have HG := Lib.hid hg
            obtain ⟨x0, x1⟩ := cells2 hg
            rw [hV1] at x0 x1
            clear hb hbv hV1 hgg hg CO
            go_wp2_with fail
            (try rw [← HV1.out])
            (try rw [← HGG.out])
            clear x0 x1 HV1 HGG
            obtain ⟨x0, x1⟩ := cells2 HG.out
            refine (CC.out _).mono ?_
            rintro e w3 ⟨rfl, rfl⟩
            obtain ⟨WX, hWX⟩ : ∃ x, x = V1 := ⟨_, rfl⟩
            rw [← hWX] at HB HG x0 x1 ⊢
            clear hWX
            go_wp2_with fail
            refine (CC.out _).mono ?_
            rintro e w3 ⟨rfl, rfl⟩
            go_wp2_with fail
            refine (CTA.out _ HB.out).mono ?_
            rintro e w4 ⟨rfl, hb⟩
            have nHB := Lib.hid (bel5 HB.out hb HB.out.size)
            have nHG := Lib.hid (old5 HG.out hb (Nat.le_refl _))
            clear hb HB HG x0 x1
            obtain ⟨x0, x1⟩ := cells2 nHG.out
            go_wp2_with fail
            refine (CV.out _).mono ?_
            rintro e w5 ⟨rfl, hb⟩
            have mHB := Lib.hid (bel5 nHB.out hb nHB.out.size)
            have mHG := Lib.hid (old5 nHG.out hb (Nat.le_refl _))
            clear hb x0 x1 nHB nHG
            obtain ⟨WX, hWX⟩ : ∃ x, x = w5 := ⟨_, rfl⟩
            rw [← hWX] at mHB mHG ⊢
            have HB := mHB
            have HG := mHG
            clear mHB mHG hWX
            obtain ⟨x0, x1⟩ := cells2 HG.out
            go_wp2_with (first
              | (at_builtin; refine wpList_appS _ rfl (.tmp 85) (.tmp 91) rfl WX.heap.size _ [] D rfl (by exact Ow.made0 WX (Nat.le_refl _)) _ _ _ _ rfl HCL.out (by exact (HCUT.out WX HB.out).below ((Below.refl WX.heap.size WX).alloc (Nat.le_refl _) _) (Nat.le_refl _)) (by have := HCL.out; show 0 + List.length D ≤ 100000000; omega) (by exact le_alloc (Nat.le_refl _) _) ?_; intro v5 w5 hown5 hgrow5; have hb5 := Ow.below (w0 := WX) (by exact Ow.made0 WX (Nat.le_refl _)) (by exact (Below.refl WX.heap.size WX).alloc (Nat.le_refl _) _) hgrow5 (by exact le_alloc (Nat.le_refl _) _); have HB5 := Lib.hid (bel5 HB.out hb5 HB.out.size); have hg5 := old5 HG.out hb5 (Nat.le_refl _); have HG5 := Lib.hid hg5; clear x0 x1; obtain ⟨x0, x1⟩ := cells2 hg5; rw [List.nil_append] at hown5; obtain ⟨A5, c5, e5, q1, q2, q3⟩ := hown5.form; subst e5; have Q1 := Lib.hid q1; have Q2 := Lib.hid q2; have Q3 := Lib.hid q3; clear hown5 hgrow5 hb5 hg5 q1 q2 q3))
            refine (CF2.out _ _ _ Q3.out).mono ?_
            rintro e w8 ⟨rfl, hb⟩
            have HB8 := Lib.hid (bel5 HB5.out hb HB5.out.size)
            have RR8 := Lib.hid ((Q3.out.below hb (Nat.le_refl _)).more hb.size)
            clear hb x0 x1
            go_wp2
            go_ret3
            exact ⟨⟨_, _, by first | rfl | (push_cast; rfl), Q1.out, Q2.out, RR8.out⟩, HB8.out⟩
    · have HX := Lib.hid (show R = ([], 0, T1.2.2) by rw [HE.out, if_neg hT1])
      rw [HX.out]
      have i10 : (T1.2.2 != 0) = true := by simpa using hT1
      clear HX HE HTA HTB hT1 CF CT HTE HTO RB HM HC
      go_enter Tryd.func60, Tryd.ntmps60
      go_wp2_with fail
      refine (CO.out _).mono ?_
      rintro e w1 ⟨rfl, hb⟩
      obtain ⟨V1, hV1⟩ : ∃ V, V = w1.alloc (.cells #[.int .i64 (k : Int), .int .i64 (n : Int)] 95) := ⟨_, rfl⟩
      have hbv : Below W.heap.size W V1 := by rw [hV1]; exact hb.alloc hb.size _
      have hg := heap_alloc_new w1 (.cells #[.int .i64 (k : Int), .int .i64 (n : Int)] 95)
      rw [← hV1] at hg
      obtain ⟨g, hgg⟩ : ∃ g, g = w1.heap.size := ⟨_, rfl⟩
      rw [← hgg] at hg
      have HB := Lib.hid hbv
      have HV1 := Lib.hid hV1
      have HGG := Lib.hid hgg
      have HG := Lib.hid hg
      obtain ⟨x0, x1⟩ := cells2 hg
      rw [hV1] at x0 x1
      clear hb hbv hV1 hgg hg CO
      go_wp2_with fail
      (try rw [← HV1.out])
      (try rw [← HGG.out])
      clear x0 x1 HV1 HGG
      obtain ⟨x0, x1⟩ := cells2 HG.out
      refine (CC.out _).mono ?_
      rintro e w3 ⟨rfl, rfl⟩
      obtain ⟨WX, hWX⟩ : ∃ x, x = V1 := ⟨_, rfl⟩
      rw [← hWX] at HB HG x0 x1 ⊢
      clear hWX
      go_wp2_with fail
      refine (CC.out _).mono ?_
      rintro e w3 ⟨rfl, rfl⟩
      go_wp2_with fail
      refine (CTA.out _ HB.out).mono ?_
      rintro e w4 ⟨rfl, hb⟩
      have nHB := Lib.hid (bel5 HB.out hb HB.out.size)
      have nHG := Lib.hid (old5 HG.out hb (Nat.le_refl _))
      clear hb HB HG x0 x1
      obtain ⟨x0, x1⟩ := cells2 nHG.out
      go_wp2
      go_ret3
      exact ⟨Ans3.none, nHB.out⟩
  · have HE3 := Lib.hid (HE.out.trans (HEN.out hq0))
    have i2 : ¬ (0 : Int) < (q : Int) := by omega
    clear HEH HEN
    obtain ⟨sz, hsz⟩ : ∃ s, s = sizeF k n := ⟨_, rfl⟩
    have HSZ := Lib.hid hsz
    have hszm : sz ≤ n := by rw [hsz]; unfold sizeF; split <;> omega
    have hp16 : p0 ≤ 10000 := by omega
    have hm16 : n ≤ 400 := by omega
    have hm1 : 1 ≤ n := by omega
    by_cases hs : M < p0 + sz
    · by_cases hk2 : k ≤ 2
      · have HX := Lib.hid (show R = ([], 0, 3) by rw [HE3.out]; unfold readB; rw [← HSZ.out, ← HM.out, if_pos hs])
        rw [HX.out]
        have i1 : (k : Int) ≤ 2 := by omega
        have i4 : ((n : Int) + 1) / 2 = (sz : Int) := by rw [hsz]; unfold sizeF; rw [if_pos hk2]; omega
        have i5 : (M : Int) - (p0 : Int) < (sz : Int) := by omega
        clear HSZ hsz hszm hs hk2 HE3 HE HX CF CT HTE HTO RB HM HC
        go_enter Tryd.func60, Tryd.ntmps60
        go_wp2_with fail
        refine (CO.out _).mono ?_
        rintro e w1 ⟨rfl, hb⟩
        obtain ⟨V1, hV1⟩ : ∃ V, V = w1.alloc (.cells #[.int .i64 (k : Int), .int .i64 (n : Int)] 95) := ⟨_, rfl⟩
        have hbv : Below W.heap.size W V1 := by rw [hV1]; exact hb.alloc hb.size _
        have hg := heap_alloc_new w1 (.cells #[.int .i64 (k : Int), .int .i64 (n : Int)] 95)
        rw [← hV1] at hg
        obtain ⟨g, hgg⟩ : ∃ g, g = w1.heap.size := ⟨_, rfl⟩
        rw [← hgg] at hg
        have HB := Lib.hid hbv
        have HV1 := Lib.hid hV1
        have HGG := Lib.hid hgg
        have HG := Lib.hid hg
        obtain ⟨x0, x1⟩ := cells2 hg
        rw [hV1] at x0 x1
        clear hb hbv hV1 hgg hg CO
        go_wp2_with fail
        (try rw [← HV1.out])
        (try rw [← HGG.out])
        clear x0 x1 HV1 HGG
        obtain ⟨x0, x1⟩ := cells2 HG.out
        refine (CC.out _).mono ?_
        rintro e w3 ⟨rfl, rfl⟩
        obtain ⟨WX, hWX⟩ : ∃ x, x = V1 := ⟨_, rfl⟩
        rw [← hWX] at HB HG x0 x1 ⊢
        clear hWX
        go_wp2
        go_ret3
        exact ⟨Ans3.none, HB.out⟩
      · have HX := Lib.hid (show R = ([], 0, 3) by rw [HE3.out]; unfold readB; rw [← HSZ.out, ← HM.out, if_pos hs])
        rw [HX.out]
        have i1 : ¬ (k : Int) ≤ 2 := by omega
        have hsm : sz = n := by rw [hsz]; unfold sizeF; rw [if_neg hk2]
        have i5 : (M : Int) - (p0 : Int) < (n : Int) := by omega
        clear hsm
        clear HSZ hsz hszm hs hk2 HE3 HE HX CF CT HTE HTO RB HM HC
        go_enter Tryd.func60, Tryd.ntmps60
        go_wp2_with fail
        refine (CO.out _).mono ?_
        rintro e w1 ⟨rfl, hb⟩
        obtain ⟨V1, hV1⟩ : ∃ V, V = w1.alloc (.cells #[.int .i64 (k : Int), .int .i64 (n : Int)] 95) := ⟨_, rfl⟩
        have hbv : Below W.heap.size W V1 := by rw [hV1]; exact hb.alloc hb.size _
        have hg := heap_alloc_new w1 (.cells #[.int .i64 (k : Int), .int .i64 (n : Int)] 95)
        rw [← hV1] at hg
        obtain ⟨g, hgg⟩ : ∃ g, g = w1.heap.size := ⟨_, rfl⟩
        rw [← hgg] at hg
        have HB := Lib.hid hbv
        have HV1 := Lib.hid hV1
        have HGG := Lib.hid hgg
        have HG := Lib.hid hg
        obtain ⟨x0, x1⟩ := cells2 hg
        rw [hV1] at x0 x1
        clear hb hbv hV1 hgg hg CO
        go_wp2_with fail
        (try rw [← HV1.out])
        (try rw [← HGG.out])
        clear x0 x1 HV1 HGG
        obtain ⟨x0, x1⟩ := cells2 HG.out
        refine (CC.out _).mono ?_
        rintro e w3 ⟨rfl, rfl⟩
        obtain ⟨WX, hWX⟩ : ∃ x, x = V1 := ⟨_, rfl⟩
        rw [← hWX] at HB HG x0 x1 ⊢
        clear hWX
        go_wp2
        go_ret3
        exact ⟨Ans3.none, HB.out⟩
    · by_cases hk2 : k ≤ 2
      · have i1 : (k : Int) ≤ 2 := by omega
        have i4 : ((n : Int) + 1) / 2 = (sz : Int) := by rw [hsz]; unfold sizeF; rw [if_pos hk2]; omega
        have i5 : ¬ (M : Int) - (p0 : Int) < (sz : Int) := by omega
        have i6 : ((p0 : Int) + (sz : Int)).toNat - p0 = sz := by omega
        have i7 : (p0 : Int) + (sz : Int) ≤ (c : Int) := by omega
        have i8 : (p0 : Int) ≤ (p0 : Int) + (sz : Int) := by omega
        have i9 : (0 : Int) ≤ (p0 : Int) := by omega
        have hsz1 : 1 ≤ sz := by rw [hsz]; unfold sizeF; split <;> omega
        have hcp : ¬ c = p0 := by omega
        have HCUT := Lib.hid (fun w (h : Below W.heap.size W w) => (show Rd w w.heap.size (A.map (fun x => x.add p0)) ((b.drop p0).take sz) from by
          have h9 := (RB.out w h).cut p0 sz c (by rw [← HM.out]; omega) HC.out
          rw [if_neg hcp, Nat.mul_one] at h9
          exact h9))
        have HCL := Lib.hid (show sz = ((b.drop p0).take sz).length by rw [List.length_take, List.length_drop, ← HM.out]; omega)
        have HT2 := Lib.hid (HTO.out p0 n)
        have CT2 := Lib.hid (CT.out p0 n)
        have HX0 := Lib.hid (show R = if (tbS b p0 n).2.2 = 0 then (if fitF k n (tbS b p0 n).1 = true then ((tbS b p0 n).1, ((p0 + sz : Nat) : Int), 0) else ([], 0, 2)) else ([], 0, 2) by
          rw [HE3.out]; unfold readB; rw [← HSZ.out, ← HM.out, if_neg hs, if_pos hk2])
        generalize tbS b p0 n = T2 at *
        by_cases hT2 : T2.2.2 = 0
        · cases hfit : fitF k n T2.1 with
          | false =>
            obtain ⟨u1, u2, u3, u4, u5⟩ := HT2.out hT2
            have HX := Lib.hid (show R = ([], 0, 2) by rw [HX0.out, if_pos hT2, hfit]; rfl)
            rw [HX.out]
            have i10 : (T2.2.2 != 0) = false := by rw [hT2]; rfl
            have HT0 := Lib.hid hT2
            have HLN := Lib.hid (show T2.1.length ≤ 400 by rw [u3]; omega)
            obtain ⟨cc, ww, hcw⟩ := conv5 T2.1 (by have := HLN.out; omega)
            have HCW := Lib.hid (fun W => (hcw W).2)
            have hcv := fun W => (hcw W).1
            clear hcw u1 u2 u3 u4 u5
            have CF2 := Lib.hid (fun A' c' w => CF.out A' T2.1 T2.1.length c' w rfl (by have := HLN.out; omega))
            rw [hfit] at CF2
            clear HX hfit hT2 CF HSZ hsz hszm hsz1 hs hk2 HE3 HE HX0 RB HM HC HTE HTO HT2 CT
            go_enter Tryd.func60, Tryd.ntmps60
            go_wp2_with fail
            refine (CO.out _).mono ?_
            rintro e w1 ⟨rfl, hb⟩
            obtain ⟨V1, hV1⟩ : ∃ V, V = w1.alloc (.cells #[.int .i64 (k : Int), .int .i64 (n : Int)] 95) := ⟨_, rfl⟩
            have hbv : Below W.heap.size W V1 := by rw [hV1]; exact hb.alloc hb.size _
            have hg := heap_alloc_new w1 (.cells #[.int .i64 (k : Int), .int .i64 (n : Int)] 95)
            rw [← hV1] at hg
            obtain ⟨g, hgg⟩ : ∃ g, g = w1.heap.size := ⟨_, rfl⟩
            rw [← hgg] at hg
            have HB := Lib.hid hbv
            have HV1 := Lib.hid hV1
            have HGG := Lib.hid hgg
            have HG := Lib.hid hg
            obtain ⟨x0, x1⟩ := cells2 hg
            rw [hV1] at x0 x1
            clear hb hbv hV1 hgg hg CO
            go_wp2_with fail
            (try rw [← HV1.out])
            (try rw [← HGG.out])
            clear x0 x1 HV1 HGG
            obtain ⟨x0, x1⟩ := cells2 HG.out
            refine (CC.out _).mono ?_
            rintro e w3 ⟨rfl, rfl⟩
            obtain ⟨WX, hWX⟩ : ∃ x, x = V1 := ⟨_, rfl⟩
            rw [← hWX] at HB HG x0 x1 ⊢
            clear hWX
            go_wp2_with (first
              | (at_builtin; refine wpList_appS _ rfl (.tmp 85) (.tmp 91) rfl WX.heap.size _ [] ((b.drop p0).take sz) rfl (by exact Ow.made0 WX (Nat.le_refl _)) _ _ _ _ rfl HCL.out (by exact (HCUT.out WX HB.out).below ((Below.refl WX.heap.size WX).alloc (Nat.le_refl _) _) (Nat.le_refl _)) (by have := HCL.out; show 0 + List.length ((b.drop p0).take sz) ≤ 100000000; omega) (by exact le_alloc (Nat.le_refl _) _) ?_; intro v5 w5 hown5 hgrow5; have hb5 := Ow.below (w0 := WX) (by exact Ow.made0 WX (Nat.le_refl _)) (by exact (Below.refl WX.heap.size WX).alloc (Nat.le_refl _) _) hgrow5 (by exact le_alloc (Nat.le_refl _) _); have HB5 := Lib.hid (bel5 HB.out hb5 HB.out.size); have hg5 := old5 HG.out hb5 (Nat.le_refl _); have HG5 := Lib.hid hg5; clear x0 x1; obtain ⟨x0, x1⟩ := cells2 hg5; rw [List.nil_append] at hown5; obtain ⟨A5, c5, e5, q1, q2, q3⟩ := hown5.form; subst e5; have Q1 := Lib.hid q1; have Q2 := Lib.hid q2; have Q3 := Lib.hid q3; clear hown5 hgrow5 hb5 hg5 q1 q2 q3))
            (refine (CT2.out _ HB5.out).mono ?_)
            rintro e w6 ⟨rfl, hb⟩
            have HB6 := Lib.hid (bel5 HB5.out hb HB5.out.size)
            have hg6 := old5 HG5.out hb (Nat.le_refl _)
            obtain ⟨r1, r2, r3, r4⟩ := HCW.out w6
            have hg7 := old5 hg6 r2 (Nat.le_refl _)
            obtain ⟨y0, y1⟩ := cells2 hg7
            have HB7 := Lib.hid (bel5 HB6.out r2 HB6.out.size)
            have RR := Lib.hid r1
            have R3 := Lib.hid r3
            have R4 := Lib.hid r4
            clear hb hg6 x0 x1 r1 r2 r3 r4 hg7
            go_wp2_with fail
            refine (CF2.out _ _ _ RR.out).mono ?_
            rintro e w8 ⟨rfl, hb⟩
            have HB8 := Lib.hid (bel5 HB7.out hb HB7.out.size)
            have RR8 := Lib.hid ((RR.out.below hb (Nat.le_refl _)).more hb.size)
            clear hb y0 y1
            go_wp2
            go_ret3
            exact ⟨Ans3.none, HB8.out⟩
          | true =>
            obtain ⟨u1, u2, u3, u4, u5⟩ := HT2.out hT2
            have HX := Lib.hid (show R = (T2.1, ((p0 + sz : Nat) : Int), 0) by rw [HX0.out, if_pos hT2, hfit]; rfl)
            rw [HX.out]
            have i10 : (T2.2.2 != 0) = false := by rw [hT2]; rfl
            have HT0 := Lib.hid hT2
            have HLN := Lib.hid (show T2.1.length ≤ 400 by rw [u3]; omega)
            obtain ⟨cc, ww, hcw⟩ := conv5 T2.1 (by have := HLN.out; omega)
            have HCW := Lib.hid (fun W => (hcw W).2)
            have hcv := fun W => (hcw W).1
            clear hcw u1 u2 u3 u4 u5
            have CF2 := Lib.hid (fun A' c' w => CF.out A' T2.1 T2.1.length c' w rfl (by have := HLN.out; omega))
            rw [hfit] at CF2
            clear HX hfit hT2 CF HSZ hsz hszm hsz1 hs hk2 HE3 HE HX0 RB HM HC HTE HTO HT2 CT
            go_enter Tryd.func60, Tryd.ntmps60
            go_wp2_with fail
            refine (CO.out _).mono ?_
            rintro e w1 ⟨rfl, hb⟩
            obtain ⟨V1, hV1⟩ : ∃ V, V = w1.alloc (.cells #[.int .i64 (k : Int), .int .i64 (n : Int)] 95) := ⟨_, rfl⟩
            have hbv : Below W.heap.size W V1 := by rw [hV1]; exact hb.alloc hb.size _
            have hg := heap_alloc_new w1 (.cells #[.int .i64 (k : Int), .int .i64 (n : Int)] 95)
            rw [← hV1] at hg
            obtain ⟨g, hgg⟩ : ∃ g, g = w1.heap.size := ⟨_, rfl⟩
            rw [← hgg] at hg
            have HB := Lib.hid hbv
            have HV1 := Lib.hid hV1
            have HGG := Lib.hid hgg
            have HG := Lib.hid hg
            obtain ⟨x0, x1⟩ := cells2 hg
            rw [hV1] at x0 x1
            clear hb hbv hV1 hgg hg CO
            go_wp2_with fail
            (try rw [← HV1.out])
            (try rw [← HGG.out])
            clear x0 x1 HV1 HGG
            obtain ⟨x0, x1⟩ := cells2 HG.out
            refine (CC.out _).mono ?_
            rintro e w3 ⟨rfl, rfl⟩
            obtain ⟨WX, hWX⟩ : ∃ x, x = V1 := ⟨_, rfl⟩
            rw [← hWX] at HB HG x0 x1 ⊢
            clear hWX
            go_wp2_with (first
              | (at_builtin; refine wpList_appS _ rfl (.tmp 85) (.tmp 91) rfl WX.heap.size _ [] ((b.drop p0).take sz) rfl (by exact Ow.made0 WX (Nat.le_refl _)) _ _ _ _ rfl HCL.out (by exact (HCUT.out WX HB.out).below ((Below.refl WX.heap.size WX).alloc (Nat.le_refl _) _) (Nat.le_refl _)) (by have := HCL.out; show 0 + List.length ((b.drop p0).take sz) ≤ 100000000; omega) (by exact le_alloc (Nat.le_refl _) _) ?_; intro v5 w5 hown5 hgrow5; have hb5 := Ow.below (w0 := WX) (by exact Ow.made0 WX (Nat.le_refl _)) (by exact (Below.refl WX.heap.size WX).alloc (Nat.le_refl _) _) hgrow5 (by exact le_alloc (Nat.le_refl _) _); have HB5 := Lib.hid (bel5 HB.out hb5 HB.out.size); have hg5 := old5 HG.out hb5 (Nat.le_refl _); have HG5 := Lib.hid hg5; clear x0 x1; obtain ⟨x0, x1⟩ := cells2 hg5; rw [List.nil_append] at hown5; obtain ⟨A5, c5, e5, q1, q2, q3⟩ := hown5.form; subst e5; have Q1 := Lib.hid q1; have Q2 := Lib.hid q2; have Q3 := Lib.hid q3; clear hown5 hgrow5 hb5 hg5 q1 q2 q3))
            (refine (CT2.out _ HB5.out).mono ?_)
            rintro e w6 ⟨rfl, hb⟩
            have HB6 := Lib.hid (bel5 HB5.out hb HB5.out.size)
            have hg6 := old5 HG5.out hb (Nat.le_refl _)
            obtain ⟨r1, r2, r3, r4⟩ := HCW.out w6
            have hg7 := old5 hg6 r2 (Nat.le_refl _)
            obtain ⟨y0, y1⟩ := cells2 hg7
            have HB7 := Lib.hid (bel5 HB6.out r2 HB6.out.size)
            have RR := Lib.hid r1
            have R3 := Lib.hid r3
            have R4 := Lib.hid r4
            clear hb hg6 x0 x1 r1 r2 r3 r4 hg7
            go_wp2_with fail
            refine (CF2.out _ _ _ RR.out).mono ?_
            rintro e w8 ⟨rfl, hb⟩
            have HB8 := Lib.hid (bel5 HB7.out hb HB7.out.size)
            have RR8 := Lib.hid ((RR.out.below hb (Nat.le_refl _)).more hb.size)
            clear hb y0 y1
            go_wp2
            go_ret3
            exact ⟨⟨_, _, by first | rfl | (push_cast; rfl), R3.out, R4.out, RR8.out⟩, HB8.out⟩
        · have HX := Lib.hid (show R = ([], 0, 2) by rw [HX0.out, if_neg hT2])
          rw [HX.out]
          have i10 : (T2.2.2 != 0) = true := by simpa using hT2
          clear HX hT2 CF HSZ hsz hszm hsz1 hs hk2 HE3 HE HX0 RB HM HC HTE HTO HT2 CT
          go_enter Tryd.func60, Tryd.ntmps60
          go_wp2_with fail
          refine (CO.out _).mono ?_
          rintro e w1 ⟨rfl, hb⟩
          obtain ⟨V1, hV1⟩ : ∃ V, V = w1.alloc (.cells #[.int .i64 (k : Int), .int .i64 (n : Int)] 95) := ⟨_, rfl⟩
          have hbv : Below W.heap.size W V1 := by rw [hV1]; exact hb.alloc hb.size _
          have hg := heap_alloc_new w1 (.cells #[.int .i64 (k : Int), .int .i64 (n : Int)] 95)
          rw [← hV1] at hg
          obtain ⟨g, hgg⟩ : ∃ g, g = w1.heap.size := ⟨_, rfl⟩
          rw [← hgg] at hg
          have HB := Lib.hid hbv
          have HV1 := Lib.hid hV1
          have HGG := Lib.hid hgg
          have HG := Lib.hid hg
          obtain ⟨x0, x1⟩ := cells2 hg
          rw [hV1] at x0 x1
          clear hb hbv hV1 hgg hg CO
          go_wp2_with fail
          (try rw [← HV1.out])
          (try rw [← HGG.out])
          clear x0 x1 HV1 HGG
          obtain ⟨x0, x1⟩ := cells2 HG.out
          refine (CC.out _).mono ?_
          rintro e w3 ⟨rfl, rfl⟩
          obtain ⟨WX, hWX⟩ : ∃ x, x = V1 := ⟨_, rfl⟩
          rw [← hWX] at HB HG x0 x1 ⊢
          clear hWX
          go_wp2_with (first
            | (at_builtin; refine wpList_appS _ rfl (.tmp 85) (.tmp 91) rfl WX.heap.size _ [] ((b.drop p0).take sz) rfl (by exact Ow.made0 WX (Nat.le_refl _)) _ _ _ _ rfl HCL.out (by exact (HCUT.out WX HB.out).below ((Below.refl WX.heap.size WX).alloc (Nat.le_refl _) _) (Nat.le_refl _)) (by have := HCL.out; show 0 + List.length ((b.drop p0).take sz) ≤ 100000000; omega) (by exact le_alloc (Nat.le_refl _) _) ?_; intro v5 w5 hown5 hgrow5; have hb5 := Ow.below (w0 := WX) (by exact Ow.made0 WX (Nat.le_refl _)) (by exact (Below.refl WX.heap.size WX).alloc (Nat.le_refl _) _) hgrow5 (by exact le_alloc (Nat.le_refl _) _); have HB5 := Lib.hid (bel5 HB.out hb5 HB.out.size); have hg5 := old5 HG.out hb5 (Nat.le_refl _); have HG5 := Lib.hid hg5; clear x0 x1; obtain ⟨x0, x1⟩ := cells2 hg5; rw [List.nil_append] at hown5; obtain ⟨A5, c5, e5, q1, q2, q3⟩ := hown5.form; subst e5; have Q1 := Lib.hid q1; have Q2 := Lib.hid q2; have Q3 := Lib.hid q3; clear hown5 hgrow5 hb5 hg5 q1 q2 q3))
          (refine (CT2.out _ HB5.out).mono ?_)
          rintro e w6 ⟨rfl, hb⟩
          have HB6 := Lib.hid (bel5 HB5.out hb HB5.out.size)
          clear hb
          go_wp2
          go_ret3
          exact ⟨Ans3.none, HB6.out⟩
      · have i1 : ¬ (k : Int) ≤ 2 := by omega
        have hsm : sz = n := by rw [hsz]; unfold sizeF; rw [if_neg hk2]
        have HX0 := Lib.hid (show R = if fitF k n ((b.drop p0).take n) = true then ((b.drop p0).take n, ((p0 + n : Nat) : Int), 0) else ([], 0, 2) by
          rw [HE3.out]; unfold readB; rw [← HSZ.out, ← HM.out, if_neg hs, if_neg hk2, hsm])
        rw [hsm] at hs
        clear hsm hszm hsz HSZ sz
        have i5 : ¬ (M : Int) - (p0 : Int) < (n : Int) := by omega
        have i6 : ((p0 : Int) + (n : Int)).toNat - p0 = n := by omega
        have i7 : (p0 : Int) + (n : Int) ≤ (c : Int) := by omega
        have i8 : (p0 : Int) ≤ (p0 : Int) + (n : Int) := by omega
        have i9 : (0 : Int) ≤ (p0 : Int) := by omega
        have hcp : ¬ c = p0 := by omega
        have HCUT := Lib.hid (fun w (h : Below W.heap.size W w) => (show Rd w w.heap.size (A.map (fun x => x.add p0)) ((b.drop p0).take n) from by
          have h9 := (RB.out w h).cut p0 n c (by rw [← HM.out]; omega) HC.out
          rw [if_neg hcp, Nat.mul_one] at h9
          exact h9))
        have HCL := Lib.hid (show n = ((b.drop p0).take n).length by rw [List.length_take, List.length_drop, ← HM.out]; omega)
        cases hfit : fitF k n ((b.drop p0).take n) with
        | false =>
          have HX := Lib.hid (show R = ([], 0, 2) by rw [HX0.out, hfit]; rfl)
          rw [HX.out]
          have CF2 := Lib.hid (fun A' c' w => CF.out A' ((b.drop p0).take n) _ c' w rfl (by have := HCL.out; omega))
          rw [hfit] at CF2
          generalize (b.drop p0).take n = D at *
          clear HX hfit CF hs hk2 HE3 HE HX0 RB HM HC HTE HTO CT
          go_enter Tryd.func60, Tryd.ntmps60
          go_wp2_with fail
          refine (CO.out _).mono ?_
          rintro e w1 ⟨rfl, hb⟩
          obtain ⟨V1, hV1⟩ : ∃ V, V = w1.alloc (.cells #[.int .i64 (k : Int), .int .i64 (n : Int)] 95) := ⟨_, rfl⟩
          have hbv : Below W.heap.size W V1 := by rw [hV1]; exact hb.alloc hb.size _
          have hg := heap_alloc_new w1 (.cells #[.int .i64 (k : Int), .int .i64 (n : Int)] 95)
          rw [← hV1] at hg
          obtain ⟨g, hgg⟩ : ∃ g, g = w1.heap.size := ⟨_, rfl⟩
          rw [← hgg] at hg
          have HB := Lib.hid hbv
          have HV1 := Lib.hid hV1
          have HGG := Lib.hid hgg
          have HG := Lib.hid hg
          obtain ⟨x0, x1⟩ := cells2 hg
          rw [hV1] at x0 x1
          clear hb hbv hV1 hgg hg CO
          go_wp2_with fail
          (try rw [← HV1.out])
          (try rw [← HGG.out])
          clear x0 x1 HV1 HGG
          obtain ⟨x0, x1⟩ := cells2 HG.out
          refine (CC.out _).mono ?_
          rintro e w3 ⟨rfl, rfl⟩
          obtain ⟨WX, hWX⟩ : ∃ x, x = V1 := ⟨_, rfl⟩
          rw [← hWX] at HB HG x0 x1 ⊢
          clear hWX
          go_wp2_with (first
            | (at_builtin; refine wpList_appS _ rfl (.tmp 85) (.tmp 91) rfl WX.heap.size _ [] D rfl (by exact Ow.made0 WX (Nat.le_refl _)) _ _ _ _ rfl HCL.out (by exact (HCUT.out WX HB.out).below ((Below.refl WX.heap.size WX).alloc (Nat.le_refl _) _) (Nat.le_refl _)) (by have := HCL.out; show 0 + List.length D ≤ 100000000; omega) (by exact le_alloc (Nat.le_refl _) _) ?_; intro v5 w5 hown5 hgrow5; have hb5 := Ow.below (w0 := WX) (by exact Ow.made0 WX (Nat.le_refl _)) (by exact (Below.refl WX.heap.size WX).alloc (Nat.le_refl _) _) hgrow5 (by exact le_alloc (Nat.le_refl _) _); have HB5 := Lib.hid (bel5 HB.out hb5 HB.out.size); have hg5 := old5 HG.out hb5 (Nat.le_refl _); have HG5 := Lib.hid hg5; clear x0 x1; obtain ⟨x0, x1⟩ := cells2 hg5; rw [List.nil_append] at hown5; obtain ⟨A5, c5, e5, q1, q2, q3⟩ := hown5.form; subst e5; have Q1 := Lib.hid q1; have Q2 := Lib.hid q2; have Q3 := Lib.hid q3; clear hown5 hgrow5 hb5 hg5 q1 q2 q3))
          refine (CF2.out _ _ _ Q3.out).mono ?_
          rintro e w8 ⟨rfl, hb⟩
          have HB8 := Lib.hid (bel5 HB5.out hb HB5.out.size)
          have RR8 := Lib.hid ((Q3.out.below hb (Nat.le_refl _)).more hb.size)
          clear hb x0 x1
          go_wp2
          go_ret3
          exact ⟨Ans3.none, HB8.out⟩
        | true =>
          have HX := Lib.hid (show R = ((b.drop p0).take n, ((p0 + n : Nat) : Int), 0) by rw [HX0.out, hfit]; rfl)
          rw [HX.out]
          have CF2 := Lib.hid (fun A' c' w => CF.out A' ((b.drop p0).take n) _ c' w rfl (by have := HCL.out; omega))
          rw [hfit] at CF2
          generalize (b.drop p0).take n = D at *
          clear HX hfit CF hs hk2 HE3 HE HX0 RB HM HC HTE HTO CT
          go_enter Tryd.func60, Tryd.ntmps60
          go_wp2_with fail
          refine (CO.out _).mono ?_
          rintro e w1 ⟨rfl, hb⟩
          obtain ⟨V1, hV1⟩ : ∃ V, V = w1.alloc (.cells #[.int .i64 (k : Int), .int .i64 (n : Int)] 95) := ⟨_, rfl⟩
          have hbv : Below W.heap.size W V1 := by rw [hV1]; exact hb.alloc hb.size _
          have hg := heap_alloc_new w1 (.cells #[.int .i64 (k : Int), .int .i64 (n : Int)] 95)
          rw [← hV1] at hg
          obtain ⟨g, hgg⟩ : ∃ g, g = w1.heap.size := ⟨_, rfl⟩
          rw [← hgg] at hg
          have HB := Lib.hid hbv
          have HV1 := Lib.hid hV1
          have HGG := Lib.hid hgg
          have HG := Lib.hid hg
          obtain ⟨x0, x1⟩ := cells2 hg
          rw [hV1] at x0 x1
          clear hb hbv hV1 hgg hg CO
          go_wp2_with fail
          (try rw [← HV1.out])
          (try rw [← HGG.out])
          clear x0 x1 HV1 HGG
          obtain ⟨x0, x1⟩ := cells2 HG.out
          refine (CC.out _).mono ?_
          rintro e w3 ⟨rfl, rfl⟩
          obtain ⟨WX, hWX⟩ : ∃ x, x = V1 := ⟨_, rfl⟩
          rw [← hWX] at HB HG x0 x1 ⊢
          clear hWX
          go_wp2_with (first
            | (at_builtin; refine wpList_appS _ rfl (.tmp 85) (.tmp 91) rfl WX.heap.size _ [] D rfl (by exact Ow.made0 WX (Nat.le_refl _)) _ _ _ _ rfl HCL.out (by exact (HCUT.out WX HB.out).below ((Below.refl WX.heap.size WX).alloc (Nat.le_refl _) _) (Nat.le_refl _)) (by have := HCL.out; show 0 + List.length D ≤ 100000000; omega) (by exact le_alloc (Nat.le_refl _) _) ?_; intro v5 w5 hown5 hgrow5; have hb5 := Ow.below (w0 := WX) (by exact Ow.made0 WX (Nat.le_refl _)) (by exact (Below.refl WX.heap.size WX).alloc (Nat.le_refl _) _) hgrow5 (by exact le_alloc (Nat.le_refl _) _); have HB5 := Lib.hid (bel5 HB.out hb5 HB.out.size); have hg5 := old5 HG.out hb5 (Nat.le_refl _); have HG5 := Lib.hid hg5; clear x0 x1; obtain ⟨x0, x1⟩ := cells2 hg5; rw [List.nil_append] at hown5; obtain ⟨A5, c5, e5, q1, q2, q3⟩ := hown5.form; subst e5; have Q1 := Lib.hid q1; have Q2 := Lib.hid q2; have Q3 := Lib.hid q3; clear hown5 hgrow5 hb5 hg5 q1 q2 q3))
          refine (CF2.out _ _ _ Q3.out).mono ?_
          rintro e w8 ⟨rfl, hb⟩
          have HB8 := Lib.hid (bel5 HB5.out hb HB5.out.size)
          have RR8 := Lib.hid ((Q3.out.below hb (Nat.le_refl _)).more hb.size)
          clear hb x0 x1
          go_wp2
          go_ret3
          exact ⟨⟨_, _, by first | rfl | (push_cast; rfl), Q1.out, Q2.out, RR8.out⟩, HB8.out⟩
end Go.Proofs.YtpfjecjfooefoaaDoor
