
/- IsoCuts' walk. -/
import Derived.Test.YtpfjecjfooefoaaDoorJ40
namespace Go.Proofs.YtpfjecjfooefoaaDoor
open Go.RowKit

set_option maxRecDepth 100000 in
set_option maxHeartbeats 4000000 in
theorem isoCuts_walk (t : Int) (A : Option Addr) (l : List Fl) (c : Nat) (cut : Int) (y : Int) (W : World) (ht : -9223372036854775808 ≤ t ∧ t ≤ 9223372036854775807) (hc : l.length ≤ c) (hcm : c ≤ 9223372036854775807) (hz : I64f l) (hr : RdF W W.heap.size A l) (hk : 0 ≤ cut ∧ cut ≤ 65535) (hy : 0 ≤ y ∧ y ≤ 255) (hT : Tb W) :
    Calls Tryd.prog 8 #[.agg #[.int .i64 t, .slice A l.length c], .int .u16 cut, .int .u8 y] W fun e W' => e = .returned (.bool true) ∧ Below W.heap.size W W' := by
  have HT := Lib.hid hT
  have R0 := Lib.hid hr
  have CF := Lib.hid (fun w (hB : Below W.heap.size W w) (h : RdF w w.heap.size A l) => refFew_any t A l c w hc hcm h)
  by_cases hF : fewF l = true
  case neg =>
    rw [Bool.not_eq_true] at hF
    rw [hF] at CF
    clear hr hc hz hcm
    obtain ⟨n, hn⟩ : ∃ n, n = l.length := ⟨_, rfl⟩
    rw [← hn] at CF
    rw [← hn]
    clear hn
    have hb := (Below.refl W.heap.size W).alloc (Nat.le_refl _) (.cells #[.int .i64 t, .slice A n c] 24)
    have hg := heap_alloc_new W (.cells #[.int .i64 t, .slice A n c] 24)
    obtain ⟨V0, hV⟩ : ∃ V, V = W.alloc (.cells #[.int .i64 t, .slice A n c] 24) := ⟨_, rfl⟩
    rw [← hV] at hb hg
    have HB := Lib.hid hb
    have G0 := Lib.hid hg
    have nR0 := Lib.hid ((R0.out.below hb (Nat.le_refl _)).more hb.size)
    have HV := Lib.hid hV
    clear hb hg hV
    clear R0
    have R0 := nR0
    clear nR0
    go_enter Tryd.func8, Tryd.ntmps8
    go_wp2_with fail
    rw [← HV.out]
    clear HV
    refine (shown7_any _ (HT.out.below HB.out)).mono ?_
    rintro e w1 ⟨rfl, hb⟩
    have nHB := Lib.hid (belG HB.out hb HB.out.size)
    have nR0 := Lib.hid ((R0.out.below hb (Nat.le_refl _)).more hb.size)
    have nG0 := Lib.hid (oldG G0.out hb (Nat.le_refl _))
    clear hb
    clear HB R0 G0
    have HB := nHB
    have R0 := nR0
    have G0 := nG0
    clear nHB nR0 nG0
    obtain ⟨g0x, g0y⟩ := cG2 G0.out
    go_wp2_with fail
    clear g0x g0y
    refine (CF.out _ HB.out R0.out).mono ?_
    rintro e w2 ⟨rfl, hb⟩
    have nHB := Lib.hid (belG HB.out hb HB.out.size)
    have nR0 := Lib.hid ((R0.out.below hb (Nat.le_refl _)).more hb.size)
    have nG0 := Lib.hid (oldG G0.out hb (Nat.le_refl _))
    clear hb
    clear HB R0 G0
    have HB := nHB
    have R0 := nR0
    have G0 := nG0
    clear nHB nR0 nG0
    go_wp2_with fail
    go_ret
    exact ⟨rfl, HB.out⟩
  have hok := few_ok hF hz
  obtain ⟨hl40, hl450⟩ := few_parts hF
  rw [hF] at CF
  have CR := Lib.hid (fun w (hB : Below W.heap.size W w) (h : RdF w w.heap.size A l) => refRightM_any t A l c w ht (by omega) (fun x hx => by have := hl450 x hx; omega) hc hcm h)
  by_cases hR : RightM t l
  case neg =>
    rw [decide_eq_false hR] at CR
    clear hr hc hz hcm hF hok hl40 hl450 hR
    obtain ⟨n, hn⟩ : ∃ n, n = l.length := ⟨_, rfl⟩
    rw [← hn] at CF CR
    rw [← hn]
    clear hn
    have hb := (Below.refl W.heap.size W).alloc (Nat.le_refl _) (.cells #[.int .i64 t, .slice A n c] 24)
    have hg := heap_alloc_new W (.cells #[.int .i64 t, .slice A n c] 24)
    obtain ⟨V0, hV⟩ : ∃ V, V = W.alloc (.cells #[.int .i64 t, .slice A n c] 24) := ⟨_, rfl⟩
    rw [← hV] at hb hg
    have HB := Lib.hid hb
    have G0 := Lib.hid hg
    have nR0 := Lib.hid ((R0.out.below hb (Nat.le_refl _)).more hb.size)
    have HV := Lib.hid hV
    clear hb hg hV
    clear R0
    have R0 := nR0
    clear nR0
    go_enter Tryd.func8, Tryd.ntmps8
    go_wp2_with fail
    rw [← HV.out]
    clear HV
    refine (shown7_any _ (HT.out.below HB.out)).mono ?_
    rintro e w1 ⟨rfl, hb⟩
    have nHB := Lib.hid (belG HB.out hb HB.out.size)
    have nR0 := Lib.hid ((R0.out.below hb (Nat.le_refl _)).more hb.size)
    have nG0 := Lib.hid (oldG G0.out hb (Nat.le_refl _))
    clear hb
    clear HB R0 G0
    have HB := nHB
    have R0 := nR0
    have G0 := nG0
    clear nHB nR0 nG0
    obtain ⟨g0x, g0y⟩ := cG2 G0.out
    go_wp2_with fail
    clear g0x g0y
    refine (CF.out _ HB.out R0.out).mono ?_
    rintro e w2 ⟨rfl, hb⟩
    have nHB := Lib.hid (belG HB.out hb HB.out.size)
    have nR0 := Lib.hid ((R0.out.below hb (Nat.le_refl _)).more hb.size)
    have nG0 := Lib.hid (oldG G0.out hb (Nat.le_refl _))
    clear hb
    clear HB R0 G0
    have HB := nHB
    have R0 := nR0
    have G0 := nG0
    clear nHB nR0 nG0
    obtain ⟨g0x, g0y⟩ := cG2 G0.out
    go_wp2_with fail
    clear g0x g0y
    refine (CR.out _ HB.out R0.out).mono ?_
    rintro e w3 ⟨rfl, hb⟩
    have nHB := Lib.hid (belG HB.out hb HB.out.size)
    have nR0 := Lib.hid ((R0.out.below hb (Nat.le_refl _)).more hb.size)
    have nG0 := Lib.hid (oldG G0.out hb (Nat.le_refl _))
    clear hb
    clear HB R0 G0
    have HB := nHB
    have R0 := nR0
    have G0 := nG0
    clear nHB nR0 nG0
    go_wp2_with fail
    go_ret
    exact ⟨rfl, HB.out⟩
  rw [decide_eq_true hR] at CR
  have C1 := Lib.hid (fun w (hB : Below W.heap.size W w) (h : RdF w w.heap.size A l) => iWrite_any t A l c w ht hok hc hcm h (hT.below hB))
  rw [(isoW_right hR).1, (isoW_right hR).2] at C1
  obtain ⟨tn, rfl⟩ := Int.eq_ofNat_of_zero_le hk.1
  obtain ⟨x, rfl⟩ : ∃ x : UInt8, y = (x.toNat : Int) := ⟨UInt8.ofNat y.toNat, by rw [UInt8.toNat_ofNat']; omega⟩
  obtain ⟨h10, hbig⟩ := isoM_len hR
  obtain ⟨q, hq⟩ : ∃ q, q = tn % (isoM t l).length := ⟨_, rfl⟩
  have hqN : q < (isoM t l).length := by rw [hq]; exact Nat.mod_lt _ (by omega)
  have i4 : (tn : Int).tmod ((isoM t l).length : Int) = (q : Int) := by rw [Int.tmod_eq_emod_of_nonneg (by omega), hq]; push_cast; rfl
  have i5 : (tn : Int) % ((isoM t l).length : Int) = (q : Int) := by rw [hq]; push_cast; rfl
  have hb1 := iso_cut hR q hqN
  have hb2 := iso_bad ((isoM t l).take q) (by rw [hb1]; decide)
  have hb3 := iso_long hR [x] (by simp)
  have hb4 := iso_bad (isoM t l ++ [x]) (by rw [hb3]; decide)
  have hk2 := hk.2
  obtain ⟨L, hL⟩ : ∃ L, L = isoM t l := ⟨_, rfl⟩
  have hbig : (isoM t l).length ≤ 49999 := by omega
  rw [← hL] at C1 h10 hbig hqN i4 i5 hb1 hb2 hb3 hb4
  have CC := Lib.hid (fun (A1 : Option Addr) (c1 : Nat) w (hB : Below W.heap.size W w) (h1 : L.length ≤ c1) (h2 : c1 ≤ 9223372036854775807) (h : Rd w w.heap.size A1 L) => (show Calls Tryd.prog 26 #[.slice A1 q c1] w fun e W' => AnsMx W' e 0 [] 3 ∧ Below w.heap.size w W' from by
    have h9 := iRead_any A1 (L.take q) c1 w (by rw [List.length_take]; omega) (by rw [List.length_take]; omega) h2 (rd_takeG h q) (hT.below hB)
    rw [show (L.take q).length = q by rw [List.length_take]; omega, hb1, hb2.1, hb2.2] at h9
    exact h9))
  have CX := Lib.hid (fun (A1 : Option Addr) (c1 : Nat) w (hB : Below W.heap.size W w) (h1 : L.length + 1 ≤ c1) (h2 : c1 ≤ 9223372036854775807) (h : Rd w w.heap.size A1 (L ++ [x])) => (show Calls Tryd.prog 26 #[.slice A1 (L.length + 1) c1] w fun e W' => AnsMx W' e 0 [] 4 ∧ Below w.heap.size w W' from by
    have h9 := iRead_any A1 (L ++ [x]) c1 w (by rw [List.length_append]; show L.length + 1 ≤ _; omega) (by rw [List.length_append]; exact h1) h2 h (hT.below hB)
    rw [List.length_append, hb3, hb4.1, hb4.2] at h9
    exact h9))
  unfold AnsMx at CC CX
  simp only [List.length_nil] at CC CX
  clear hr hc hz hcm hF hok hl40 hl450 hR hL hb1 hb2 hb3 hb4 hq hk hy ht
  obtain ⟨n, hn⟩ : ∃ n, n = l.length := ⟨_, rfl⟩
  rw [← hn] at CF CR C1
  rw [← hn]
  clear hn
  obtain ⟨N, hN⟩ : ∃ N, N = L.length := ⟨_, rfl⟩
  have HN := Lib.hid hN
  rw [← hN] at C1 CC CX hqN i4 i5 h10 hbig
  clear hN
  have hN8 : ¬ (N : Int) < 10 := by omega
  have j2 : (q : Int) < (N : Int) := by omega
  have j3 : (0 : Int) ≤ (q : Int) := by omega
  have j4 : ((N : Int) == 0) = false := beq_eq_false_iff_ne.2 (by omega)
  have j1 : ¬ (N : Int) = 0 := by omega
  have hb := (Below.refl W.heap.size W).alloc (Nat.le_refl _) (.cells #[.int .i64 t, .slice A n c] 24)
  have hg := heap_alloc_new W (.cells #[.int .i64 t, .slice A n c] 24)
  obtain ⟨V0, hV⟩ : ∃ V, V = W.alloc (.cells #[.int .i64 t, .slice A n c] 24) := ⟨_, rfl⟩
  rw [← hV] at hb hg
  have HB := Lib.hid hb
  have G0 := Lib.hid hg
  have nR0 := Lib.hid ((R0.out.below hb (Nat.le_refl _)).more hb.size)
  have HV := Lib.hid hV
  clear hb hg hV
  clear R0
  have R0 := nR0
  clear nR0
  go_enter Tryd.func8, Tryd.ntmps8
  go_wp2_with fail
  rw [← HV.out]
  clear HV
  refine (shown7_any _ (HT.out.below HB.out)).mono ?_
  rintro e w1 ⟨rfl, hb⟩
  have nHB := Lib.hid (belG HB.out hb HB.out.size)
  have nR0 := Lib.hid ((R0.out.below hb (Nat.le_refl _)).more hb.size)
  have nG0 := Lib.hid (oldG G0.out hb (Nat.le_refl _))
  clear hb
  clear HB R0 G0
  have HB := nHB
  have R0 := nR0
  have G0 := nG0
  clear nHB nR0 nG0
  obtain ⟨g0x, g0y⟩ := cG2 G0.out
  go_wp2_with fail
  clear g0x g0y
  refine (CF.out _ HB.out R0.out).mono ?_
  rintro e w2 ⟨rfl, hb⟩
  have nHB := Lib.hid (belG HB.out hb HB.out.size)
  have nR0 := Lib.hid ((R0.out.below hb (Nat.le_refl _)).more hb.size)
  have nG0 := Lib.hid (oldG G0.out hb (Nat.le_refl _))
  clear hb
  clear HB R0 G0
  have HB := nHB
  have R0 := nR0
  have G0 := nG0
  clear nHB nR0 nG0
  obtain ⟨g0x, g0y⟩ := cG2 G0.out
  go_wp2_with fail
  clear g0x g0y
  refine (CR.out _ HB.out R0.out).mono ?_
  rintro e w3 ⟨rfl, hb⟩
  have nHB := Lib.hid (belG HB.out hb HB.out.size)
  have nR0 := Lib.hid ((R0.out.below hb (Nat.le_refl _)).more hb.size)
  have nG0 := Lib.hid (oldG G0.out hb (Nat.le_refl _))
  clear hb
  clear HB R0 G0
  have HB := nHB
  have R0 := nR0
  have G0 := nG0
  clear nHB nR0 nG0
  obtain ⟨g0x, g0y⟩ := cG2 G0.out
  go_wp2_with fail
  clear g0x g0y
  refine (C1.out _ HB.out R0.out).mono ?_
  rintro e w4 ⟨⟨A1, c1, rfl, h1a, h1b, h1⟩, hb⟩
  have nHB := Lib.hid (belG HB.out hb HB.out.size)
  have nR0 := Lib.hid ((R0.out.below hb (Nat.le_refl _)).more hb.size)
  have nG0 := Lib.hid (oldG G0.out hb (Nat.le_refl _))
  clear hb
  clear HB R0 G0
  have HB := nHB
  have R0 := nR0
  have G0 := nG0
  clear nHB nR0 nG0
  have R1 := Lib.hid h1
  clear h1
  have j5 : (q : Int) ≤ (c1 : Int) := by omega
  go_wp2_with fail
  refine (CC.out A1 c1 _ HB.out h1a h1b R1.out).mono ?_
  rintro e w5 ⟨⟨A2, c2, rfl, -, -, -⟩, hb⟩
  have nHB := Lib.hid (belG HB.out hb HB.out.size)
  have nR0 := Lib.hid ((R0.out.below hb (Nat.le_refl _)).more hb.size)
  have nR1 := Lib.hid ((R1.out.below hb (Nat.le_refl _)).more hb.size)
  have nG0 := Lib.hid (oldG G0.out hb (Nat.le_refl _))
  clear hb
  clear HB R0 R1 G0
  have HB := nHB
  have R0 := nR0
  have R1 := nR1
  have G0 := nG0
  clear nHB nR0 nR1 nG0
  have hZ := (Below.refl w5.heap.size w5).alloc (Nat.le_refl _) (.cells #[.int .i64 0, .slice A2 0 c2] 24)
  have HZ := Lib.hid hZ
  clear hZ
  have hbs : (w5.alloc (.cells #[.int .i64 0, .slice A2 0 c2] 24)).heap.size = w5.heap.size + 1 := by rw [World.size_alloc]
  have HBS := Lib.hid hbs
  have hm0 := Ow.made0 (w5.alloc (.cells #[.int .i64 0, .slice A2 0 c2] 24)) (base := w5.heap.size + 1) (by rw [hbs]; exact Nat.le_refl _)
  rw [hbs] at hm0
  have HM0 := Lib.hid hm0
  have HLE := Lib.hid (show w5.heap.size + 1 ≤ (w5.alloc (.cells #[.int .i64 0, .slice A2 0 c2] 24)).heap.size by rw [hbs]; exact Nat.le_refl _)
  clear hbs hm0
  go_wp2_with (first
    | (at_builtin; refine wpList_appS _ rfl (.tmp 48) (.tmp 49) rfl (w5.heap.size + 1) _ [] L rfl (by exact HM0.out) A1 N c1 ((w5.alloc (.cells #[.int .i64 0, .slice A2 0 c2] 24)).alloc (.cells #[] 5)).heap.size rfl HN.out (by exact R1.out.go (HZ.out.alloc HZ.out.size _)) (by rw [← HN.out]; show 0 + N ≤ _; omega) (by exact le_alloc HLE.out _) ?_; intro v5 wa hown5 hgrow5; have hb5 := Ow.below (w0 := (w5.alloc (.cells #[.int .i64 0, .slice A2 0 c2] 24))) (by exact HM0.out) (by exact (Below.refl (w5.heap.size + 1) (w5.alloc (.cells #[.int .i64 0, .slice A2 0 c2] 24))).alloc HLE.out _) hgrow5 (by exact le_alloc HLE.out _); have HB5 := Lib.hid hb5; have HS5 := Lib.hid (Nat.le_trans HLE.out hb5.size); rw [List.nil_append] at hown5; have HO5 := Lib.hid hown5; clear hown5 hgrow5 hb5)
    | (at_builtin; refine wpList_appS _ rfl (.tmp 50) (.tmp 52) rfl (w5.heap.size + 1) _ L [x] rfl (by exact HO5.out.alloc _) (some ⟨wa.heap.size, 0, none⟩) 1 1 (wa.alloc (.cells #[.int .u8 (x.toNat : Int)] 5)).heap.size rfl rfl (by exact (Ow.made1 wa (Nat.le_refl _) x).rdG) (by rw [← HN.out]; show N + 1 ≤ _; omega) (by exact le_alloc HS5.out _) ?_; intro v6 wb hown6 hgrow6; have hb6 := Ow.below (w0 := (w5.alloc (.cells #[.int .i64 0, .slice A2 0 c2] 24))) (by exact HO5.out.alloc _) (by exact HB5.out.alloc HS5.out _) hgrow6 (by exact le_alloc HS5.out _); have HB6 := Lib.hid hb6; obtain ⟨A6, c6, e6, q1, q2, q3⟩ := hown6.form; rw [List.length_append, ← HN.out] at e6 q1; subst e6; have Q1 := Lib.hid (show N + 1 ≤ c6 from q1); have Q2 := Lib.hid q2; have Q3 := Lib.hid q3; clear hown6 hgrow6 hb6 q1 q2 q3 HO5 HB5 HS5))
  have hg := heap_alloc_new w5 (.cells #[.int .i64 0, .slice A2 0 c2] 24)
  have hb6 := HB6.out
  rw [← HBS.out] at hb6
  have G2 := Lib.hid (oldG hg hb6 (Nat.le_refl _))
  have hc6 := belG HZ.out hb6 HZ.out.size
  have nHB := Lib.hid (belG HB.out hc6 HB.out.size)
  have nR0 := Lib.hid ((R0.out.below hc6 (Nat.le_refl _)).more hc6.size)
  have nR1 := Lib.hid ((R1.out.below hc6 (Nat.le_refl _)).more hc6.size)
  have nG0 := Lib.hid (oldG G0.out hc6 (Nat.le_refl _))
  clear hc6 hb6 hg HB6 HZ HBS HM0 HLE
  clear HB R0 R1 G0
  have HB := nHB
  have R0 := nR0
  have R1 := nR1
  have G0 := nG0
  clear nHB nR0 nR1 nG0
  refine (CX.out A6 c6 _ HB.out Q1.out Q2.out Q3.out).mono ?_
  rintro e w6 ⟨⟨A7, c7, rfl, -, -, -⟩, hb⟩
  have nHB := Lib.hid (belG HB.out hb HB.out.size)
  have nR0 := Lib.hid ((R0.out.below hb (Nat.le_refl _)).more hb.size)
  have nR1 := Lib.hid ((R1.out.below hb (Nat.le_refl _)).more hb.size)
  have nG0 := Lib.hid (oldG G0.out hb (Nat.le_refl _))
  have nG2 := Lib.hid (oldG G2.out hb (Nat.le_refl _))
  clear hb
  clear HB R0 R1 G0 G2
  have HB := nHB
  have R0 := nR0
  have R1 := nR1
  have G0 := nG0
  have G2 := nG2
  clear nHB nR0 nR1 nG0 nG2
  obtain ⟨V6, hV6⟩ : ∃ V, V = w6.alloc (.cells #[.int .i64 0, .slice A7 0 c7] 24) := ⟨_, rfl⟩
  have ha := (Below.refl w6.heap.size w6).alloc (Nat.le_refl _) (.cells #[.int .i64 0, .slice A7 0 c7] 24)
  have hg := heap_alloc_new w6 (.cells #[.int .i64 0, .slice A7 0 c7] 24)
  have nHB := Lib.hid (HB.out.alloc HB.out.size (.cells #[.int .i64 0, .slice A7 0 c7] 24))
  rw [← hV6] at ha hg nHB
  have nR0 := Lib.hid ((R0.out.below ha (Nat.le_refl _)).more ha.size)
  have nR1 := Lib.hid ((R1.out.below ha (Nat.le_refl _)).more ha.size)
  have nG0 := Lib.hid (oldG G0.out ha (Nat.le_refl _))
  have nG2 := Lib.hid (oldG G2.out ha (Nat.le_refl _))
  obtain ⟨g3, hg3⟩ : ∃ g, g = w6.heap.size := ⟨_, rfl⟩
  rw [← hg3] at hg
  have HXG3 := Lib.hid hg3
  have G3 := Lib.hid hg
  have HV := Lib.hid hV6
  clear ha hg hV6 hg3
  clear HB R0 R1 G0 G2
  have HB := nHB
  have R0 := nR0
  have R1 := nR1
  have G0 := nG0
  have G2 := nG2
  clear nHB nR0 nR1 nG0 nG2
  obtain ⟨g2x, g2y⟩ := cG2 G2.out
  rw [HV.out] at g2x g2y
  obtain ⟨g3x, g3y⟩ := cG2 G3.out
  rw [HV.out] at g3x g3y
  rw [HXG3.out] at g3x g3y
  go_wp2_with fail
  clear g2x g2y g3x g3y
  have HBf := Lib.hid (show Below W.heap.size W V6 from HB.out)
  go_ret
  exact ⟨by first | rfl | simp, by rw [← HV.out]; exact HBf.out⟩
end Go.Proofs.YtpfjecjfooefoaaDoor
