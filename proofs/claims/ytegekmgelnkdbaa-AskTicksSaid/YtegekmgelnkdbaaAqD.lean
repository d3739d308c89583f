
/- Package ask: a question at work (a pointer to a copy), what method values do with it, what a closure chooses; Begin, Tick. -/
import Derived.Test.YtegekmgelnkdbaaAqC
namespace Go.Proofs.Ytegekmgelnkdbaa
open Go.RowKit

set_option maxRecDepth 100000 in
theorem tyWork : Ty 47 5 := ⟨⟨_, Try.underlying47, rfl⟩, by kernel_rfl⟩
set_option maxRecDepth 100000 in
theorem part_self (C : Array Value) : Part C 0 C := fun j v h => by rw [Nat.zero_add]; exact h
/-- a call's answer: a question at work, in a block of its own -/
def AnsWk (B : Nat) (W' : World) (e : Ending) (a : Aq) : Prop := ∃ (g : Nat) (y : Wkb), e = .returned (.pointer (some ⟨g, 0, none⟩)) ∧ B ≤ g ∧ Bx W' g 47 (askC y a) ∧ AqR W' y a
set_option maxRecDepth 100000 in
set_option maxHeartbeats 2000000 in
theorem begun_anyQ (x : Wkb) (a : Aq) (W : World) (hl : a.body.length ≤ 50000) (hk : AqR W x a) : Calls Try.prog 26 #[.agg (askC x a)] W fun e W' => AnsWk W.heap.size W' e a ∧ Below W.heap.size W W' := by
  obtain ⟨V, C, hC, hV, hb, hg⟩ := bxQ1 W x a
  have HB := Lib.hid hb
  have HV := Lib.hid hV
  have HG := Lib.hid hg
  have CL := Lib.hid (cloneQ_any x a.body V hl (hk.go hb))
  have x4 : V.cell? ⟨W.heap.size, 4, none⟩ = some (.slice x.1 a.body.length x.2) := hg.cell rfl
  have f4 := hg.thaw 4
  have HCO := Lib.hid (fun y : Wkb => show (askC x a).setIfInBounds 4 (.slice y.1 a.body.length y.2) = askC y a from rfl)
  have HN8 := Lib.hid (fun y : Wkb => no8_ask y a)
  obtain ⟨c0, h0⟩ : ∃ c, c = a.code := ⟨_, rfl⟩
  obtain ⟨c1, h1⟩ : ∃ c, c = a.stan := ⟨_, rfl⟩
  obtain ⟨c2, h2⟩ : ∃ c, c = a.due := ⟨_, rfl⟩
  obtain ⟨c3, h3⟩ : ∃ c, c = a.left := ⟨_, rfl⟩
  obtain ⟨n, hn⟩ : ∃ c, c = a.body.length := ⟨_, rfl⟩
  have HLI := Lib.hid (fun y : Wkb => show askC y a = #[.int .i64 c0, .int .i64 c1, .int .i64 c2, .int .i64 c3, .slice y.1 n y.2] from by rw [h0, h1, h2, h3, hn]; rfl)
  have HNN := Lib.hid hn
  rw [← hC]
  rw [← hn] at x4 CL
  clear hC hV hb hg hk hl h0 h1 h2 h3 hn
  go_enter Try.func26, Try.ntmps26
  go_upto_region 1 with (fail)
  rw [← HV.out]
  clear HV
  go_wp2_with fail
  refine CL.out.mono ?_
  rintro e w1 ⟨⟨y, rfl, hy⟩, hb⟩
  have hB1 := belG HB.out hb HB.out.size
  have hG1 := HG.out.go hb
  have f4' := hG1.thaw 4
  have x4' : w1.cell? ⟨W.heap.size, 4, none⟩ = some (.slice x.1 n x.2) := by
    have h := hG1.cell (j := 4) (v := .slice x.1 a.body.length x.2) rfl
    rw [← HNN.out] at h
    exact h
  have HB1 := Lib.hid hB1
  have HG1 := Lib.hid hG1
  have HY := Lib.hid hy
  rw [← HNN.out]
  clear hb hB1 hG1 hy HB HG CL x4 f4
  go_upto_region 2 with (fail)
  obtain ⟨V2, hV2⟩ : ∃ v, v = w1.setCell ⟨W.heap.size, 4, none⟩ (.slice y.1 n y.2) := ⟨_, rfl⟩
  rw [← hV2]
  have hG2 := HG1.out.set (j := 4) (v := .slice y.1 n y.2) (C' := askC y a) (by rw [HNN.out]; exact HCO.out y)
  have hK2 : KeyB (w1.setCell ⟨W.heap.size, 4, none⟩ (.slice y.1 n y.2)) y a.body := KeyB.put1 HY.out HG1.out (HN8.out x) 4 _
  have hB2 := HB1.out.setCell (p := ⟨W.heap.size, 4, none⟩) (Nat.le_refl _) (.slice y.1 n y.2)
  rw [← hV2] at hG2 hK2 hB2
  rw [HLI.out y] at hG2
  have HG2 := Lib.hid hG2
  have HK2 := Lib.hid hK2
  have HB2 := Lib.hid hB2
  clear hV2 hG2 hK2 hB2 HG1 HY HB1 x4' f4'
  go_wp2_with (refine loadX (.tmp 1) W.heap.size _ tyAsk rfl HG2.out rfl rfl rfl ?_)
  go_ret
  refine ⟨⟨V2.heap.size, y, by first | rfl | (simp; done), HB2.out.size, ?_, ?_⟩, ?_⟩
  · rw [HLI.out y]; exact Bx.new V2 _ _
  · exact HK2.out.go ((Below.refl _ _).alloc (Nat.le_refl _) _)
  · exact HB2.out.alloc HB2.out.size _
set_option maxRecDepth 100000 in
theorem rest_anyQ (g : Nat) (W : World) : Calls Try.prog 31 #[.pointer (some ⟨g, 0, none⟩)] W fun e W' => e = .returned (.tuple #[.bool false, .bool false]) ∧ W = W' := by
  go_enter Try.func31, Try.ntmps31
  go_wp2
  go_ret2
  exact ⟨by first | rfl | (simp; done), by first | rfl | trivial⟩
set_option maxRecDepth 100000 in
theorem wait_anyQ (g : Nat) (y : Wkb) (a : Aq) (W : World) (hd : 1 ≤ a.due) (hd8 : a.due ≤ 8) (hg : Bx W g 47 (askC y a)) : Calls Try.prog 32 #[.pointer (some ⟨g, 0, none⟩)] W fun e W' => e = .returned (.tuple #[.bool false, .bool false]) ∧ W' = W.setCell ⟨g, 2, none⟩ (.int .i64 (a.due - 1)) := by
  have x2 : W.cell? ⟨g, 2, none⟩ = some (.int .i64 a.due) := hg.cell rfl
  have f2 := hg.thaw 2
  generalize a.due = d at *
  clear hg
  go_enter Try.func32, Try.ntmps32
  go_wp2
  go_ret2
  exact ⟨by first | rfl | (simp; done), by first | rfl | trivial⟩
set_option maxRecDepth 100000 in
theorem repeat_anyQ (g : Nat) (y : Wkb) (a : Aq) (W : World) (hd : 1 ≤ a.left) (hd8 : a.left ≤ 3) (hg : Bx W g 47 (askC y a)) : Calls Try.prog 33 #[.pointer (some ⟨g, 0, none⟩)] W fun e W' => e = .returned (.tuple #[.bool true, .bool false]) ∧ W' = (W.setCell ⟨g, 3, none⟩ (.int .i64 (a.left - 1))).setCell ⟨g, 2, none⟩ (.int .i64 8) := by
  have x3 : W.cell? ⟨g, 3, none⟩ = some (.int .i64 a.left) := hg.cell rfl
  have x2 : W.cell? ⟨g, 2, none⟩ = some (.int .i64 a.due) := hg.cell rfl
  have f3 := hg.thaw 3
  have f2 := hg.thaw 2
  generalize a.left = d at *
  generalize a.due = d2 at *
  clear hg
  go_enter Try.func33, Try.ntmps33
  go_wp2
  go_ret2
  exact ⟨by first | rfl | (simp; done), by first | rfl | trivial⟩
set_option maxRecDepth 100000 in
theorem end_anyQ (g : Nat) (y : Wkb) (a : Aq) (W : World) (hg : Bx W g 47 (askC y a)) : Calls Try.prog 34 #[.pointer (some ⟨g, 0, none⟩)] W fun e W' => e = .returned (.tuple #[.bool false, .bool true]) ∧ W' = W.setRow g (askC wq0 aq0) := by
  have HG := Lib.hid hg
  have HI := Lib.hid (show Array.size (askC y a) = 5 from rfl)
  generalize askC y a = C at *
  clear hg
  go_enter Try.func34, Try.ntmps34
  go_wp2_with (refine storeX (.tmp 6) (.tmp 5) g (askC wq0 aq0) _ tyWork rfl (askC_one _ _) HG.out HI.out rfl rfl rfl rfl ?_)
  go_ret2
  exact ⟨by first | rfl | (simp; done), by first | rfl | trivial⟩
/-- what the closure chooses -/
def stepQ (a : Aq) : FuncId := if NoneA a then 31 else if a.due ≠ 1 then 32 else if 0 < a.left then 33 else 34
set_option maxRecDepth 100000 in
set_option maxHeartbeats 2000000 in
theorem choose_anyQ (k g : Nat) (y : Wkb) (a : Aq) (W : World) (hk : Bx W k 48 #[.pointer (some ⟨g, 0, none⟩)]) (hg : Bx W g 47 (askC y a)) (hr : AqR W y a) : Calls Try.prog 30 #[.pointer (some ⟨k, 0, none⟩)] W fun e W' => e = .returned (.func (.func (stepQ a)) #[.pointer (some ⟨g, 0, none⟩)] #[]) ∧ Below W.heap.size W W' := by
  have hmf : ∀ (fn : Fn) (first cap : Array Value) (w : World), (Instr.makeFunc fn first cap).run Try.prog w = .ok (.func fn first cap) w := fun _ _ _ _ => rfl
  have xk : W.cell? ⟨k, 0, none⟩ = some (.pointer (some ⟨g, 0, none⟩)) := hk.cell rfl
  have HG := Lib.hid hg
  have CN := Lib.hid (noneQ_any y a W hr)
  have HX := Lib.hid (fun w (hb : Below W.heap.size W w) => show w.cell? ⟨k, 0, none⟩ = some (.pointer (some ⟨g, 0, none⟩)) ∧ w.cell? ⟨g, 2, none⟩ = some (.int .i64 a.due) ∧ w.cell? ⟨g, 3, none⟩ = some (.int .i64 a.left) from ⟨(hk.go hb).cell rfl, (hg.go hb).cell rfl, (hg.go hb).cell rfl⟩)
  obtain ⟨f, hf⟩ : ∃ f, f = stepQ a := ⟨_, rfl⟩
  have HF := Lib.hid (show f = if NoneA a then 31 else if a.due ≠ 1 then 32 else if 0 < a.left then 33 else 34 from hf)
  rw [← hf]
  generalize a.due = d at *
  generalize a.left = l at *
  generalize hC : askC y a = C at *
  have hs : C.size = 5 := by rw [← hC]; rfl
  have HS := Lib.hid hs
  have HPA := Lib.hid (part_self C)
  clear hk hg hr hf hC hs
  by_cases hn : NoneA a
  · rw [decide_eq_true hn] at CN
    obtain rfl := HF.out.trans (if_pos hn)
    clear HF hn
    go_enter Try.func30, Try.ntmps30
    go_wp2_with (refine loadPx (.tmp 5) g 0 C C tyAsk HS.out HPA.out HG.out rfl rfl rfl ?_)
    refine CN.out.mono ?_
    rintro e w1 ⟨rfl, hb⟩
    obtain ⟨y0, y2, y3⟩ := HX.out _ hb
    have HB1 := Lib.hid hb
    clear hb xk HX HG CN
    go_wp2_with fail
    go_ret
    exact ⟨by first | rfl | (simp; done), HB1.out⟩
  · rw [decide_eq_false hn] at CN
    by_cases h1 : d = 1
    · subst h1
      by_cases h2 : 0 < l
      · obtain rfl := HF.out.trans ((if_neg hn).trans ((if_neg (by simp)).trans (if_pos h2)))
        clear HF hn
        go_enter Try.func30, Try.ntmps30
        go_wp2_with (refine loadPx (.tmp 5) g 0 C C tyAsk HS.out HPA.out HG.out rfl rfl rfl ?_)
        refine CN.out.mono ?_
        rintro e w1 ⟨rfl, hb⟩
        obtain ⟨y0, y2, y3⟩ := HX.out _ hb
        have HB1 := Lib.hid hb
        clear hb xk HX HG CN
        go_wp2_with fail
        go_ret
        exact ⟨by first | rfl | (simp; done), HB1.out⟩
      · obtain rfl := HF.out.trans ((if_neg hn).trans ((if_neg (by simp)).trans (if_neg h2)))
        clear HF hn
        go_enter Try.func30, Try.ntmps30
        go_wp2_with (refine loadPx (.tmp 5) g 0 C C tyAsk HS.out HPA.out HG.out rfl rfl rfl ?_)
        refine CN.out.mono ?_
        rintro e w1 ⟨rfl, hb⟩
        obtain ⟨y0, y2, y3⟩ := HX.out _ hb
        have HB1 := Lib.hid hb
        clear hb xk HX HG CN
        go_wp2_with fail
        go_ret
        exact ⟨by first | rfl | (simp; done), HB1.out⟩
    · obtain rfl := HF.out.trans ((if_neg hn).trans (if_pos h1))
      have e1 : (d == 1) = false := beq_eq_false_iff_ne.2 h1
      clear HF hn
      go_enter Try.func30, Try.ntmps30
      go_wp2_with (refine loadPx (.tmp 5) g 0 C C tyAsk HS.out HPA.out HG.out rfl rfl rfl ?_)
      refine CN.out.mono ?_
      rintro e w1 ⟨rfl, hb⟩
      obtain ⟨y0, y2, y3⟩ := HX.out _ hb
      have HB1 := Lib.hid hb
      clear hb xk HX HG CN
      go_wp2_with fail
      go_ret
      exact ⟨by first | rfl | (simp; done), HB1.out⟩
set_option maxRecDepth 100000 in
set_option maxHeartbeats 4000000 in
theorem begin_anyQ (c s : Int) (x : Wkb) (b : List UInt8) (W : World) (hl : b.length ≤ 50000) (hk : KeyB W x b) : Calls Try.prog 9 #[.int .i64 c, .int .i64 s, .slice x.1 b.length x.2] W fun e W' => AnsAq W' e (beginA c s b).1 [.int .i64 (beginA c s b).2] ∧ Below W.heap.size W W' := by
  obtain ⟨V0, hV0, hb0, hj0, hg0, hsz⟩ := bx2 W 24 24 (askC wq0 aq0) (askC wq0 aq0)
  obtain ⟨V, hV⟩ : ∃ V, V = V0.setRow (W.heap.size + 1) (askC x ⟨c, s, 8, 3, b⟩) := ⟨_, rfl⟩
  have J0 := Lib.hid (show Bx ((W.alloc (.cells #[.int .i64 0, .int .i64 0, .int .i64 0, .int .i64 0, .slice none 0 0] 24)).alloc (.cells #[.int .i64 0, .int .i64 0, .int .i64 0, .int .i64 0, .slice none 0 0] 24)) (W.heap.size + 1) 24 #[.int .i64 0, .int .i64 0, .int .i64 0, .int .i64 0, .slice none 0 0] from by rw [hV0] at hg0; exact hg0)
  have HV := Lib.hid (show V = ((W.alloc (.cells #[.int .i64 0, .int .i64 0, .int .i64 0, .int .i64 0, .slice none 0 0] 24)).alloc (.cells #[.int .i64 0, .int .i64 0, .int .i64 0, .int .i64 0, .slice none 0 0] 24)).setRow (W.heap.size + 1) (askC x ⟨c, s, 8, 3, b⟩) from by rw [hV, hV0]; rfl)
  have HG := Lib.hid (show Bx V (W.heap.size + 1) 24 (askC x ⟨c, s, 8, 3, b⟩) from by rw [hV]; exact hg0.setRow _)
  have J := Lib.hid (show Bx V W.heap.size 24 (askC wq0 aq0) from by rw [hV]; exact hj0.setRowOther (by omega) _)
  have hb : Below W.heap.size W V := by rw [hV]; exact Below.setRowG hb0 (Nat.le_succ _) _
  have HB := Lib.hid hb
  have CM := Lib.hid (fun w => mayQ_any x ⟨c, s, 8, 3, b⟩ w)
  have KB := Lib.hid (hk.go hb)
  have HL := Lib.hid hl
  have HE := Lib.hid (show askC x ⟨c, s, 8, 3, b⟩ = #[.int .i64 c, .int .i64 s, .int .i64 8, .int .i64 3, .slice x.1 b.length x.2] from rfl)
  have HPA := Lib.hid (fun C => part_self C)
  by_cases hf : FitsA c s b.length
  · rw [decide_eq_true (show MayA ⟨c, s, 8, 3, b⟩ from ⟨hf, (by decide : (1 : Int) ≤ 8), (by decide : (8 : Int) ≤ 8), (by decide : (0 : Int) ≤ 3), (by decide : (3 : Int) ≤ 3)⟩)] at CM
    have HI := Lib.hid (show beginA c s b = (⟨c, s, 8, 3, b⟩, 0) from by unfold beginA; rw [if_pos hf])
    clear hV0 hb0 hj0 hg0 hsz hV hb hk hf hl
    go_enter Try.func9, Try.ntmps9
    go_upto_region 2 with (refine storeX (.tmp 8) (.tmp 12) (W.heap.size + 1) (askC x ⟨c, s, 8, 3, b⟩) _ tyAsk rfl (askC_one _ _) J0.out rfl rfl rfl rfl (by rw [HE.out]; rfl) ?_)
    rw [← HV.out]
    clear HV J0
    go_wp2_with (refine loadX (.tmp 8) (W.heap.size + 1) _ tyAsk rfl HG.out rfl rfl rfl ?_)
    refine (CM.out _).mono ?_
    rintro e w1 ⟨rfl, hb⟩
    have HB1 := Lib.hid (belG HB.out hb HB.out.size)
    have G1 := Lib.hid (HG.out.go hb)
    have J1 := Lib.hid (J.out.go hb)
    have K1 := Lib.hid (KB.out.go hb)
    clear hb HB HG J KB CM
    go_wp2_with (refine loadX (.tmp 8) (W.heap.size + 1) _ tyAsk rfl G1.out rfl rfl rfl ?_)
    refine (begun_anyQ x ⟨c, s, 8, 3, b⟩ w1 HL.out K1.out).mono ?_
    rintro e w2 ⟨⟨g, y, rfl, hgB, hG2, hK2⟩, hb⟩
    have HB2 := Lib.hid (belG HB1.out hb HB1.out.size)
    have J2 := Lib.hid (J1.out.go hb)
    have G2 := Lib.hid hG2
    have K2 := Lib.hid hK2
    clear hb hG2 hK2 hgB HB1 G1 J1 K1
    go_wp2_with (first | (refine loadPx (.tmp 20) g 0 (askC y ⟨c, s, 8, 3, b⟩) (askC y ⟨c, s, 8, 3, b⟩) tyAsk rfl (HPA.out _) G2.out rfl rfl rfl ?_) | (refine storeX (.tmp 6) (.tmp 21) W.heap.size (askC y ⟨c, s, 8, 3, b⟩) _ tyAsk rfl (askC_one _ _) J2.out rfl rfl rfl rfl rfl ?_))
    (try dsimp only)
    refine bodyPost_ret (retX2 rfl _ _ W.heap.size (askC y ⟨c, s, 8, 3, b⟩) _ tyAsk rfl rfl rfl (Bx.setRow J2.out _)) rfl ?_
    exact ⟨by rw [HI.out]; exact ⟨y, rfl, K2.out.setRow J2.out (no8_ask _ _)⟩, Below.setRowG HB2.out (Nat.le_refl _) _⟩
  · rw [decide_eq_false (show ¬ MayA ⟨c, s, 8, 3, b⟩ from fun h => hf h.1)] at CM
    have HI := Lib.hid (show beginA c s b = (aq0, 1) from by unfold beginA; rw [if_neg hf])
    clear hV0 hb0 hj0 hg0 hsz hV hb hk hf hl
    go_enter Try.func9, Try.ntmps9
    go_upto_region 2 with (refine storeX (.tmp 8) (.tmp 12) (W.heap.size + 1) (askC x ⟨c, s, 8, 3, b⟩) _ tyAsk rfl (askC_one _ _) J0.out rfl rfl rfl rfl (by rw [HE.out]; rfl) ?_)
    rw [← HV.out]
    clear HV J0
    go_wp2_with (refine loadX (.tmp 8) (W.heap.size + 1) _ tyAsk rfl HG.out rfl rfl rfl ?_)
    refine (CM.out _).mono ?_
    rintro e w1 ⟨rfl, hb⟩
    have HB1 := Lib.hid (belG HB.out hb HB.out.size)
    have G1 := Lib.hid (HG.out.go hb)
    have J1 := Lib.hid (J.out.go hb)
    have K1 := Lib.hid (KB.out.go hb)
    clear hb HB HG J KB CM
    go_wp2_with (refine storeX (.tmp 6) (.tmp 16) W.heap.size (askC wq0 aq0) _ tyAsk rfl (askC_one _ _) J1.out rfl rfl rfl rfl rfl ?_)
    (try dsimp only)
    refine bodyPost_ret (retX2 rfl _ _ W.heap.size (askC wq0 aq0) _ tyAsk rfl rfl rfl (Bx.setRow J1.out _)) rfl ?_
    exact ⟨by rw [HI.out]; exact ⟨wq0, rfl, keyB0 _⟩, Below.setRowG HB1.out (Nat.le_refl _) _⟩
set_option maxRecDepth 100000 in
set_option maxHeartbeats 4000000 in
theorem tick_anyQ (x : Wkb) (a : Aq) (W : World) (hR : RightA a) (hk : AqR W x a) : Calls Try.prog 21 #[.agg (askC x a)] W fun e W' => AnsAq W' e (tickA a).1 [.bool (tickA a).2.1, .bool (tickA a).2.2] ∧ Below W.heap.size W W' := by
  obtain ⟨V, hV, hb, hg, hj, hsz⟩ := bx2 W 24 24 (askC x a) (askC wq0 aq0)
  have HB := Lib.hid hb
  obtain ⟨C, hC⟩ : ∃ C, C = askC x a := ⟨_, rfl⟩
  have HV := Lib.hid (show V = (W.alloc (.cells C 24)).alloc (.cells #[.int .i64 0, .int .i64 0, .int .i64 0, .int .i64 0, .slice none 0 0] 24) from by rw [hC]; exact hV)
  have HG := Lib.hid hg
  have J := Lib.hid hj
  have KB := Lib.hid (hk.go hb)
  have HL := Lib.hid (Nat.le_trans hR.few (by decide : 900 ≤ 50000))
  have HPA := Lib.hid (fun C => part_self C)
  have HSZ := Lib.hid hsz
  have hmf : ∀ (fn : Fn) (first cap : Array Value) (w : World), (Instr.makeFunc fn first cap).run Try.prog w = .ok (.func fn first cap) w := fun _ _ _ _ => rfl
  have CC := Lib.hid (fun k g y w h1 h2 h3 => choose_anyQ k g y a w h1 h2 h3)
  rw [← hC]
  clear hV hb hg hj hk hC hsz
  by_cases hn : NoneA a
  · have HI := Lib.hid (show tickA a = (a, false, false) from by unfold tickA; rw [if_pos hn])
    have HF := Lib.hid (show stepQ a = 31 from if_pos hn)
    clear hn hR
    go_enter Try.func21, Try.ntmps21
    go_upto_region 1 with (fail)
    rw [← HV.out]
    clear HV
    go_wp2_with (refine loadX (.tmp 1) W.heap.size _ tyAsk rfl HG.out rfl rfl rfl ?_)
    refine (begun_anyQ x a V HL.out KB.out).mono ?_
    rintro e w1 ⟨⟨g, y, rfl, hgB, hG1, hK1⟩, hb⟩
    have hB1 := belG HB.out hb HB.out.size
    have hJ1 := J.out.go hb
    have hgl := hG1.lt
    obtain ⟨k, hkk⟩ : ∃ k, k = w1.heap.size := ⟨_, rfl⟩
    have hz : W.heap.size ≤ w1.heap.size := hB1.size
    have hgW : W.heap.size + 2 ≤ g := by rw [← HSZ.out]; exact hgB
    clear hb HB HG J KB
    go_upto_region 2 with (fail)
    obtain ⟨V3, hV3⟩ : ∃ v, v = w1.alloc (.cells #[.pointer (some ⟨g, 0, none⟩)] 48) := ⟨_, rfl⟩
    rw [← hV3, ← hkk]
    have kk : Bx V3 k 48 #[.pointer (some ⟨g, 0, none⟩)] := by rw [hV3, hkk]; exact Bx.new w1 _ _
    have kg : Bx V3 g 47 (askC y a) := by rw [hV3]; exact hG1.alloc _
    have kj : Bx V3 (W.heap.size + 1) 24 (askC wq0 aq0) := by rw [hV3]; exact hJ1.alloc _
    have kr : AqR V3 y a := by rw [hV3]; exact hK1.go ((Below.refl _ _).alloc (Nat.le_refl _) _)
    have kb : Below W.heap.size W V3 := by rw [hV3]; exact hB1.alloc hz _
    have hkg : k ≠ g := by omega
    have KK := Lib.hid kk
    have KG := Lib.hid kg
    have KJ := Lib.hid kj
    have KR := Lib.hid kr
    have B3 := Lib.hid kb
    have HKG := Lib.hid hkg
    have HGW := Lib.hid hgW
    clear hV3 kk kg kj kr kb hkg hG1 hK1 hB1 hJ1 hgl hkk hz hgW hgB
    go_wp2_with fail
    refine (CC.out k g y V3 KK.out KG.out KR.out).mono ?_
    rintro e w4 ⟨rfl, hb⟩
    rw [HF.out]
    have KK4 := Lib.hid (KK.out.go hb)
    have KG4 := Lib.hid (KG.out.go hb)
    have KJ4 := Lib.hid (KJ.out.go hb)
    have KR4 := Lib.hid (KR.out.go hb)
    have B4 := Lib.hid (belG B3.out hb B3.out.size)
    clear hb KK KG KJ KR B3 CC HF
    go_wp2_with fail
    refine (rest_anyQ g w4).mono ?_
    rintro e w5 ⟨rfl, hw⟩
    obtain rfl := hw
    have KK5 := Lib.hid KK4.out
    have KG5 := Lib.hid KG4.out
    have KJ5 := Lib.hid KJ4.out
    have KR5 := Lib.hid KR4.out
    have B5 := Lib.hid B4.out
    clear KK4 KG4 KJ4 KR4 B4
    have xk := Bx.cell KK5.out (j := 0) rfl
    clear KK5
    go_wp2_with (first | (refine loadPx (.tmp 20) g 0 (askC y a) (askC y a) tyAsk rfl (HPA.out _) KG5.out rfl rfl rfl ?_) | (refine storeX (.tmp 2) (.tmp 21) (W.heap.size + 1) (askC y a) _ tyAsk rfl (askC_one _ _) KJ5.out rfl rfl rfl rfl rfl ?_))
    (try dsimp only)
    refine bodyPost_ret (retX3 rfl _ _ (W.heap.size + 1) (askC y a) _ _ tyAsk rfl rfl rfl rfl (Bx.setRow KJ5.out _)) rfl ?_
    exact ⟨by rw [HI.out]; exact ⟨y, rfl, KR5.out.setRow KJ5.out (no8_ask _ _)⟩, Below.setRowG B5.out (Nat.le_succ _) _⟩
  have hr : FitsA a.code a.stan a.body.length ∧ 1 ≤ a.due ∧ a.due ≤ 8 ∧ 0 ≤ a.left ∧ a.left ≤ 3 := by
    rcases hR with h | h
    · exact absurd h hn
    · exact h
  have HD1 := Lib.hid hr.2.1
  have HD8 := Lib.hid hr.2.2.1
  by_cases h1 : a.due = 1
  · by_cases h2 : 0 < a.left
    · have HI := Lib.hid (show tickA a = ({ a with left := a.left - 1, due := 8 }, true, false) from by unfold tickA; rw [if_neg hn, if_neg (by omega), if_pos h2])
      have HF := Lib.hid (show stepQ a = 33 from (if_neg hn).trans ((if_neg (fun h => h h1)).trans (if_pos h2)))
      have HL1 := Lib.hid (show 1 ≤ a.left from by omega)
      have HL3 := Lib.hid hr.2.2.2.2
      clear hn hR hr h1 h2
      go_enter Try.func21, Try.ntmps21
      go_upto_region 1 with (fail)
      rw [← HV.out]
      clear HV
      go_wp2_with (refine loadX (.tmp 1) W.heap.size _ tyAsk rfl HG.out rfl rfl rfl ?_)
      refine (begun_anyQ x a V HL.out KB.out).mono ?_
      rintro e w1 ⟨⟨g, y, rfl, hgB, hG1, hK1⟩, hb⟩
      have hB1 := belG HB.out hb HB.out.size
      have hJ1 := J.out.go hb
      have hgl := hG1.lt
      obtain ⟨k, hkk⟩ : ∃ k, k = w1.heap.size := ⟨_, rfl⟩
      have hz : W.heap.size ≤ w1.heap.size := hB1.size
      have hgW : W.heap.size + 2 ≤ g := by rw [← HSZ.out]; exact hgB
      clear hb HB HG J KB
      go_upto_region 2 with (fail)
      obtain ⟨V3, hV3⟩ : ∃ v, v = w1.alloc (.cells #[.pointer (some ⟨g, 0, none⟩)] 48) := ⟨_, rfl⟩
      rw [← hV3, ← hkk]
      have kk : Bx V3 k 48 #[.pointer (some ⟨g, 0, none⟩)] := by rw [hV3, hkk]; exact Bx.new w1 _ _
      have kg : Bx V3 g 47 (askC y a) := by rw [hV3]; exact hG1.alloc _
      have kj : Bx V3 (W.heap.size + 1) 24 (askC wq0 aq0) := by rw [hV3]; exact hJ1.alloc _
      have kr : AqR V3 y a := by rw [hV3]; exact hK1.go ((Below.refl _ _).alloc (Nat.le_refl _) _)
      have kb : Below W.heap.size W V3 := by rw [hV3]; exact hB1.alloc hz _
      have hkg : k ≠ g := by omega
      have KK := Lib.hid kk
      have KG := Lib.hid kg
      have KJ := Lib.hid kj
      have KR := Lib.hid kr
      have B3 := Lib.hid kb
      have HKG := Lib.hid hkg
      have HGW := Lib.hid hgW
      clear hV3 kk kg kj kr kb hkg hG1 hK1 hB1 hJ1 hgl hkk hz hgW hgB
      go_wp2_with fail
      refine (CC.out k g y V3 KK.out KG.out KR.out).mono ?_
      rintro e w4 ⟨rfl, hb⟩
      rw [HF.out]
      have KK4 := Lib.hid (KK.out.go hb)
      have KG4 := Lib.hid (KG.out.go hb)
      have KJ4 := Lib.hid (KJ.out.go hb)
      have KR4 := Lib.hid (KR.out.go hb)
      have B4 := Lib.hid (belG B3.out hb B3.out.size)
      clear hb KK KG KJ KR B3 CC HF
      go_wp2_with fail
      refine (repeat_anyQ g y a w4 HL1.out HL3.out KG4.out).mono ?_
      rintro e w5 ⟨rfl, hw⟩
      have KK5 := Lib.hid (show Bx w5 k 48 #[.pointer (some ⟨g, 0, none⟩)] from by rw [hw]; exact (KK4.out.setOther HKG.out _ _).setOther HKG.out _ _)
      have KJ5 := Lib.hid (show Bx w5 (W.heap.size + 1) 24 (askC wq0 aq0) from by rw [hw]; exact (KJ4.out.setOther (by have := HGW.out; omega) _ _).setOther (by have := HGW.out; omega) _ _)
      have KG5 := Lib.hid (show Bx w5 g 47 (askC y { a with left := a.left - 1, due := 8 }) from by rw [hw]; exact (Bx.set (C' := askC y { a with left := a.left - 1 }) KG4.out rfl).set rfl)
      have KR5 := Lib.hid (show AqR w5 y { a with left := a.left - 1, due := 8 } from by rw [hw]; exact KeyB.put1 (KeyB.put1 KR4.out KG4.out (no8_ask _ _) 3 _) (Bx.set (C' := askC y { a with left := a.left - 1 }) KG4.out rfl) (no8_ask _ _) 2 _)
      have B5 := Lib.hid (show Below W.heap.size W w5 from by rw [hw]; exact (B4.out.setCell (p := ⟨g, 3, none⟩) (by have := HGW.out; show W.heap.size ≤ g; omega) _).setCell (p := ⟨g, 2, none⟩) (by have := HGW.out; show W.heap.size ≤ g; omega) _)
      clear hw KK4 KG4 KJ4 KR4 B4
      have xk := Bx.cell KK5.out (j := 0) rfl
      clear KK5
      go_wp2_with (first | (refine loadPx (.tmp 20) g 0 (askC y { a with left := a.left - 1, due := 8 }) (askC y { a with left := a.left - 1, due := 8 }) tyAsk rfl (HPA.out _) KG5.out rfl rfl rfl ?_) | (refine storeX (.tmp 2) (.tmp 21) (W.heap.size + 1) (askC y { a with left := a.left - 1, due := 8 }) _ tyAsk rfl (askC_one _ _) KJ5.out rfl rfl rfl rfl rfl ?_))
      (try dsimp only)
      refine bodyPost_ret (retX3 rfl _ _ (W.heap.size + 1) (askC y { a with left := a.left - 1, due := 8 }) _ _ tyAsk rfl rfl rfl rfl (Bx.setRow KJ5.out _)) rfl ?_
      exact ⟨by rw [HI.out]; exact ⟨y, rfl, KR5.out.setRow KJ5.out (no8_ask _ _)⟩, Below.setRowG B5.out (Nat.le_succ _) _⟩
    · have HI := Lib.hid (show tickA a = (aq0, false, true) from by unfold tickA; rw [if_neg hn, if_neg (by omega), if_neg h2])
      have HF := Lib.hid (show stepQ a = 34 from (if_neg hn).trans ((if_neg (fun h => h h1)).trans (if_neg h2)))
      clear hn hR hr h1 h2
      go_enter Try.func21, Try.ntmps21
      go_upto_region 1 with (fail)
      rw [← HV.out]
      clear HV
      go_wp2_with (refine loadX (.tmp 1) W.heap.size _ tyAsk rfl HG.out rfl rfl rfl ?_)
      refine (begun_anyQ x a V HL.out KB.out).mono ?_
      rintro e w1 ⟨⟨g, y, rfl, hgB, hG1, hK1⟩, hb⟩
      have hB1 := belG HB.out hb HB.out.size
      have hJ1 := J.out.go hb
      have hgl := hG1.lt
      obtain ⟨k, hkk⟩ : ∃ k, k = w1.heap.size := ⟨_, rfl⟩
      have hz : W.heap.size ≤ w1.heap.size := hB1.size
      have hgW : W.heap.size + 2 ≤ g := by rw [← HSZ.out]; exact hgB
      clear hb HB HG J KB
      go_upto_region 2 with (fail)
      obtain ⟨V3, hV3⟩ : ∃ v, v = w1.alloc (.cells #[.pointer (some ⟨g, 0, none⟩)] 48) := ⟨_, rfl⟩
      rw [← hV3, ← hkk]
      have kk : Bx V3 k 48 #[.pointer (some ⟨g, 0, none⟩)] := by rw [hV3, hkk]; exact Bx.new w1 _ _
      have kg : Bx V3 g 47 (askC y a) := by rw [hV3]; exact hG1.alloc _
      have kj : Bx V3 (W.heap.size + 1) 24 (askC wq0 aq0) := by rw [hV3]; exact hJ1.alloc _
      have kr : AqR V3 y a := by rw [hV3]; exact hK1.go ((Below.refl _ _).alloc (Nat.le_refl _) _)
      have kb : Below W.heap.size W V3 := by rw [hV3]; exact hB1.alloc hz _
      have hkg : k ≠ g := by omega
      have KK := Lib.hid kk
      have KG := Lib.hid kg
      have KJ := Lib.hid kj
      have KR := Lib.hid kr
      have B3 := Lib.hid kb
      have HKG := Lib.hid hkg
      have HGW := Lib.hid hgW
      clear hV3 kk kg kj kr kb hkg hG1 hK1 hB1 hJ1 hgl hkk hz hgW hgB
      go_wp2_with fail
      refine (CC.out k g y V3 KK.out KG.out KR.out).mono ?_
      rintro e w4 ⟨rfl, hb⟩
      rw [HF.out]
      have KK4 := Lib.hid (KK.out.go hb)
      have KG4 := Lib.hid (KG.out.go hb)
      have KJ4 := Lib.hid (KJ.out.go hb)
      have KR4 := Lib.hid (KR.out.go hb)
      have B4 := Lib.hid (belG B3.out hb B3.out.size)
      clear hb KK KG KJ KR B3 CC HF
      go_wp2_with fail
      refine (end_anyQ g y a w4 KG4.out).mono ?_
      rintro e w5 ⟨rfl, hw⟩
      have KK5 := Lib.hid (show Bx w5 k 48 #[.pointer (some ⟨g, 0, none⟩)] from by rw [hw]; exact KK4.out.setRowOther HKG.out _)
      have KJ5 := Lib.hid (show Bx w5 (W.heap.size + 1) 24 (askC wq0 aq0) from by rw [hw]; exact KJ4.out.setRowOther (by have := HGW.out; omega) _)
      have KG5 := Lib.hid (show Bx w5 g 47 (askC wq0 aq0) from by rw [hw]; exact KG4.out.setRow _)
      have KR5 := Lib.hid (show AqR w5 wq0 aq0 from by rw [hw]; exact keyB0 _)
      have B5 := Lib.hid (show Below W.heap.size W w5 from by rw [hw]; exact Below.setRowG B4.out (by have := HGW.out; show W.heap.size ≤ g; omega) _)
      clear hw KK4 KG4 KJ4 KR4 B4
      have xk := Bx.cell KK5.out (j := 0) rfl
      clear KK5
      go_wp2_with (first | (refine loadPx (.tmp 20) g 0 (askC wq0 aq0) (askC wq0 aq0) tyAsk rfl (HPA.out _) KG5.out rfl rfl rfl ?_) | (refine storeX (.tmp 2) (.tmp 21) (W.heap.size + 1) (askC wq0 aq0) _ tyAsk rfl (askC_one _ _) KJ5.out rfl rfl rfl rfl rfl ?_))
      (try dsimp only)
      refine bodyPost_ret (retX3 rfl _ _ (W.heap.size + 1) (askC wq0 aq0) _ _ tyAsk rfl rfl rfl rfl (Bx.setRow KJ5.out _)) rfl ?_
      exact ⟨by rw [HI.out]; exact ⟨wq0, rfl, KR5.out.setRow KJ5.out (no8_ask _ _)⟩, Below.setRowG B5.out (Nat.le_succ _) _⟩
  · have HI := Lib.hid (show tickA a = ({ a with due := a.due - 1 }, false, false) from by unfold tickA; rw [if_neg hn, if_pos (by have := hr.2.1; omega)])
    have HF := Lib.hid (show stepQ a = 32 from (if_neg hn).trans (if_pos h1))
    clear hn hR hr h1
    go_enter Try.func21, Try.ntmps21
    go_upto_region 1 with (fail)
    rw [← HV.out]
    clear HV
    go_wp2_with (refine loadX (.tmp 1) W.heap.size _ tyAsk rfl HG.out rfl rfl rfl ?_)
    refine (begun_anyQ x a V HL.out KB.out).mono ?_
    rintro e w1 ⟨⟨g, y, rfl, hgB, hG1, hK1⟩, hb⟩
    have hB1 := belG HB.out hb HB.out.size
    have hJ1 := J.out.go hb
    have hgl := hG1.lt
    obtain ⟨k, hkk⟩ : ∃ k, k = w1.heap.size := ⟨_, rfl⟩
    have hz : W.heap.size ≤ w1.heap.size := hB1.size
    have hgW : W.heap.size + 2 ≤ g := by rw [← HSZ.out]; exact hgB
    clear hb HB HG J KB
    go_upto_region 2 with (fail)
    obtain ⟨V3, hV3⟩ : ∃ v, v = w1.alloc (.cells #[.pointer (some ⟨g, 0, none⟩)] 48) := ⟨_, rfl⟩
    rw [← hV3, ← hkk]
    have kk : Bx V3 k 48 #[.pointer (some ⟨g, 0, none⟩)] := by rw [hV3, hkk]; exact Bx.new w1 _ _
    have kg : Bx V3 g 47 (askC y a) := by rw [hV3]; exact hG1.alloc _
    have kj : Bx V3 (W.heap.size + 1) 24 (askC wq0 aq0) := by rw [hV3]; exact hJ1.alloc _
    have kr : AqR V3 y a := by rw [hV3]; exact hK1.go ((Below.refl _ _).alloc (Nat.le_refl _) _)
    have kb : Below W.heap.size W V3 := by rw [hV3]; exact hB1.alloc hz _
    have hkg : k ≠ g := by omega
    have KK := Lib.hid kk
    have KG := Lib.hid kg
    have KJ := Lib.hid kj
    have KR := Lib.hid kr
    have B3 := Lib.hid kb
    have HKG := Lib.hid hkg
    have HGW := Lib.hid hgW
    clear hV3 kk kg kj kr kb hkg hG1 hK1 hB1 hJ1 hgl hkk hz hgW hgB
    go_wp2_with fail
    refine (CC.out k g y V3 KK.out KG.out KR.out).mono ?_
    rintro e w4 ⟨rfl, hb⟩
    rw [HF.out]
    have KK4 := Lib.hid (KK.out.go hb)
    have KG4 := Lib.hid (KG.out.go hb)
    have KJ4 := Lib.hid (KJ.out.go hb)
    have KR4 := Lib.hid (KR.out.go hb)
    have B4 := Lib.hid (belG B3.out hb B3.out.size)
    clear hb KK KG KJ KR B3 CC HF
    go_wp2_with fail
    refine (wait_anyQ g y a w4 HD1.out HD8.out KG4.out).mono ?_
    rintro e w5 ⟨rfl, hw⟩
    have KK5 := Lib.hid (show Bx w5 k 48 #[.pointer (some ⟨g, 0, none⟩)] from by rw [hw]; exact KK4.out.setOther HKG.out _ _)
    have KJ5 := Lib.hid (show Bx w5 (W.heap.size + 1) 24 (askC wq0 aq0) from by rw [hw]; exact KJ4.out.setOther (by have := HGW.out; omega) _ _)
    have KG5 := Lib.hid (show Bx w5 g 47 (askC y { a with due := a.due - 1 }) from by rw [hw]; exact KG4.out.set rfl)
    have KR5 := Lib.hid (show AqR w5 y { a with due := a.due - 1 } from by rw [hw]; exact KeyB.put1 KR4.out KG4.out (no8_ask _ _) 2 _)
    have B5 := Lib.hid (show Below W.heap.size W w5 from by rw [hw]; exact B4.out.setCell (p := ⟨g, 2, none⟩) (by have := HGW.out; show W.heap.size ≤ g; omega) _)
    clear hw KK4 KG4 KJ4 KR4 B4
    have xk := Bx.cell KK5.out (j := 0) rfl
    clear KK5
    go_wp2_with (first | (refine loadPx (.tmp 20) g 0 (askC y { a with due := a.due - 1 }) (askC y { a with due := a.due - 1 }) tyAsk rfl (HPA.out _) KG5.out rfl rfl rfl ?_) | (refine storeX (.tmp 2) (.tmp 21) (W.heap.size + 1) (askC y { a with due := a.due - 1 }) _ tyAsk rfl (askC_one _ _) KJ5.out rfl rfl rfl rfl rfl ?_))
    (try dsimp only)
    refine bodyPost_ret (retX3 rfl _ _ (W.heap.size + 1) (askC y { a with due := a.due - 1 }) _ _ tyAsk rfl rfl rfl rfl (Bx.setRow KJ5.out _)) rfl ?_
    exact ⟨by rw [HI.out]; exact ⟨y, rfl, KR5.out.setRow KJ5.out (no8_ask _ _)⟩, Below.setRowG B5.out (Nat.le_succ _) _⟩
end Go.Proofs.Ytegekmgelnkdbaa
