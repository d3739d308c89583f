
/- Package iso: parts, Type, Class, Reply; cmp.Compare; fields and its closure; find's closure. -/
import Derived.Test.YtpfjecjfooefoaaDoorJ16
namespace Go.Proofs.YtpfjecjfooefoaaDoor
open Go.RowKit

set_option maxRecDepth 100000 in
theorem parts_any (n : Int) (hn : I64b n) (W : World) :
    Calls Tryd.prog 46 #[.int .i64 n] W fun e W' => e = .returned (.tuple #[.int .i64 (n.tdiv 100), .int .i64 ((n.tdiv 10).tmod 10), .int .i64 (n.tmod 10)]) ∧ W = W' := by
  unfold I64b at hn
  go_enter Tryd.func46, Tryd.ntmps46
  go_wp2
  go_ret3
  exact ⟨rfl, rfl⟩
set_option maxRecDepth 100000 in
theorem partsN_any (n : Int) (h0 : 0 ≤ n) (hn : I64b n) (W : World) :
    Calls Tryd.prog 46 #[.int .i64 n] W fun e W' => e = .returned (.tuple #[.int .i64 (n / 100), .int .i64 (n / 10 % 10), .int .i64 (n % 10)]) ∧ W = W' := by
  have h := parts_any n hn W
  rw [Int.tdiv_eq_ediv_of_nonneg h0, Int.tdiv_eq_ediv_of_nonneg h0, Int.tmod_eq_emod_of_nonneg h0, Int.tmod_eq_emod_of_nonneg (by omega)] at h
  exact h

def typeQ (a b c : Int) : Bool := decide (1 ≤ a) && decide (a ≤ 8) && decide (b ≤ 4) && decide (c ≤ 5)
set_option maxRecDepth 100000 in
theorem typeQ_any (n a b c : Int) (W : World) (CP : ∀ w, Calls Tryd.prog 46 #[.int .i64 n] w fun e W' => e = .returned (.tuple #[.int .i64 a, .int .i64 b, .int .i64 c]) ∧ w = W') :
    Calls Tryd.prog 22 #[.int .i64 n] W fun e W' => e = .returned (.bool (typeQ a b c)) ∧ W = W' := by
  have C := Lib.hid CP
  clear CP
  unfold typeQ
  by_cases h1 : 1 ≤ a
  · have d1 : decide (1 ≤ a) = true := decide_eq_true h1
    by_cases h2 : a ≤ 8
    · have d2 : decide (a ≤ 8) = true := decide_eq_true h2
      by_cases h3 : b ≤ 4
      · have d3 : decide (b ≤ 4) = true := decide_eq_true h3
        by_cases h4 : c ≤ 5
        · have d4 : decide (c ≤ 5) = true := decide_eq_true h4
          rw [d1, d2, d3, d4]
          go_enter Tryd.func22, Tryd.ntmps22
          go_wp2_with fail
          refine (C.out _).mono ?_
          rintro e w ⟨rfl, rfl⟩
          go_wp2
          go_ret
          exact ⟨rfl, rfl⟩
        · have d4 : decide (c ≤ 5) = false := decide_eq_false h4
          rw [d1, d2, d3, d4]
          go_enter Tryd.func22, Tryd.ntmps22
          go_wp2_with fail
          refine (C.out _).mono ?_
          rintro e w ⟨rfl, rfl⟩
          go_wp2
          go_ret
          exact ⟨rfl, rfl⟩
      · have d3 : decide (b ≤ 4) = false := decide_eq_false h3
        rw [d1, d2, d3]
        go_enter Tryd.func22, Tryd.ntmps22
        go_wp2_with fail
        refine (C.out _).mono ?_
        rintro e w ⟨rfl, rfl⟩
        go_wp2
        go_ret
        exact ⟨rfl, rfl⟩
    · have d2 : decide (a ≤ 8) = false := decide_eq_false h2
      rw [d1, d2]
      go_enter Tryd.func22, Tryd.ntmps22
      go_wp2_with fail
      refine (C.out _).mono ?_
      rintro e w ⟨rfl, rfl⟩
      go_wp2
      go_ret
      exact ⟨rfl, rfl⟩
  · have d1 : decide (1 ≤ a) = false := decide_eq_false h1
    rw [d1]
    go_enter Tryd.func22, Tryd.ntmps22
    go_wp2_with fail
    refine (C.out _).mono ?_
    rintro e w ⟨rfl, rfl⟩
    go_wp2
    go_ret
    exact ⟨rfl, rfl⟩
set_option maxRecDepth 100000 in
theorem iType_is (n : Int) (hn : I64b n) (W : World) :
    Calls Tryd.prog 22 #[.int .i64 n] W fun e W' => e = .returned (.bool (typeF n)) ∧ W = W' := by
  by_cases h0 : 0 ≤ n
  · have h := typeQ_any n _ _ _ W (fun w => partsN_any n h0 hn w)
    have e : typeQ (n / 100) (n / 10 % 10) (n % 10) = typeF n := by
      unfold typeQ typeF
      have e1 : decide (1 ≤ n / 100) = decide (100 ≤ n) := decide_eq_decide.2 (by omega)
      have e2 : decide (n / 100 ≤ 8) = decide (n ≤ 899) := decide_eq_decide.2 (by omega)
      rw [e1, e2]
    rw [e] at h
    exact h
  · have h := typeQ_any n _ _ _ W (fun w => parts_any n hn w)
    have e : typeQ (n.tdiv 100) ((n.tdiv 10).tmod 10) (n.tmod 10) = typeF n := by
      have h1 : n.tdiv 100 ≤ 0 := by
        have h2 := Int.neg_tdiv (a := -n) (b := 100)
        rw [Int.neg_neg] at h2
        rw [h2]
        have h3 := Int.tdiv_nonneg (a := -n) (b := 100) (by omega) (by omega)
        omega
      unfold typeQ typeF
      rw [decide_eq_false (show ¬ 1 ≤ n.tdiv 100 by omega), decide_eq_false (show ¬ 100 ≤ n by omega)]
      rfl
    rw [e] at h
    exact h
set_option maxRecDepth 100000 in
theorem iTypeB_any (n : Int) (hn : I64b n) (W : World) :
    Calls Tryd.prog 22 #[.int .i64 n] W fun e W' => e = .returned (.bool (typeF n)) ∧ Below W.heap.size W W' :=
  (iType_is n hn W).mono fun e W' h => ⟨h.1, by rw [← h.2]; exact Below.refl _ _⟩
set_option maxRecDepth 100000 in
theorem iClassB_any (n : Int) (hn : I64b n) (W : World) :
    Calls Tryd.prog 24 #[.int .i64 n] W fun e W' => e = .returned (.int .i64 (classF n)) ∧ Below W.heap.size W W' := by
  have C := Lib.hid (fun w => iType_is n hn w)
  unfold classF
  cases h : typeF n with
  | false =>
    rw [h] at C
    rw [if_neg (by simp)]
    clear h
    go_enter Tryd.func24, Tryd.ntmps24
    go_wp2_with fail
    refine (C.out _).mono ?_
    rintro e w ⟨rfl, rfl⟩
    go_wp2
    go_ret
    exact ⟨rfl, Below.refl _ _⟩
  | true =>
    rw [h] at C
    rw [if_pos rfl]
    have hb := typeF_bd h
    have CP := Lib.hid (fun w => partsN_any n (by omega) hn w)
    clear h hb
    go_enter Tryd.func24, Tryd.ntmps24
    go_wp2_with fail
    refine (C.out _).mono ?_
    rintro e w ⟨rfl, rfl⟩
    go_wp2_with fail
    refine (CP.out _).mono ?_
    rintro e w ⟨rfl, rfl⟩
    go_wp2
    go_ret
    exact ⟨rfl, Below.refl _ _⟩
set_option maxRecDepth 100000 in
theorem iReplyB_any (n : Int) (hn : I64b n) (W : World) :
    Calls Tryd.prog 15 #[.int .i64 n] W fun e W' => e = .returned (.tuple #[.int .i64 (replyI n), .bool (replyY n)]) ∧ Below W.heap.size W W' := by
  have C := Lib.hid (fun w => iType_is n hn w)
  unfold replyI replyY
  cases h : typeF n with
  | false =>
    rw [h] at C
    rw [if_neg (by simp), Bool.false_and]
    have CP := Lib.hid (fun w => parts_any n hn w)
    generalize n.tdiv 100 = a at *
    generalize (n.tdiv 10).tmod 10 = b at *
    generalize n.tmod 10 = c at *
    clear h
    go_enter Tryd.func15, Tryd.ntmps15
    go_wp2_with fail
    refine (CP.out _).mono ?_
    rintro e w ⟨rfl, rfl⟩
    go_wp2_with fail
    refine (C.out _).mono ?_
    rintro e w ⟨rfl, rfl⟩
    go_wp2
    go_ret2
    exact ⟨rfl, Below.refl _ _⟩
  | true =>
    rw [h] at C
    rw [Bool.true_and]
    have hb := typeF_bd h
    have CP := Lib.hid (fun w => partsN_any n (by omega) hn w)
    have h0 : 0 ≤ n := by omega
    have h9 : n ≤ 899 := hb.2.1
    clear h hb
    by_cases h1 : n / 10 % 10 = 0
    · rw [if_pos ⟨rfl, .inl h1⟩, decide_eq_true h1]
      have d1 : (n / 10 % 10 != 0) = false := by rw [h1]; rfl
      clear h1
      generalize n / 10 % 10 = b at *
      go_enter Tryd.func15, Tryd.ntmps15
      go_wp2_with fail
      refine (CP.out _).mono ?_
      rintro e w ⟨rfl, rfl⟩
      go_wp2_with fail
      refine (C.out _).mono ?_
      rintro e w ⟨rfl, rfl⟩
      go_wp2
      go_ret2
      exact ⟨rfl, Below.refl _ _⟩
    · have d1 : (n / 10 % 10 != 0) = true := by rw [bne_iff_ne]; exact h1
      rw [decide_eq_false h1]
      by_cases h2 : n / 10 % 10 = 2
      · rw [if_pos ⟨rfl, .inr h2⟩, decide_eq_true h2]
        have d2 : (n / 10 % 10 != 2) = false := by rw [h2]; rfl
        clear h1 h2
        generalize n / 10 % 10 = b at *
        go_enter Tryd.func15, Tryd.ntmps15
        go_wp2_with fail
        refine (CP.out _).mono ?_
        rintro e w ⟨rfl, rfl⟩
        go_wp2_with fail
        refine (C.out _).mono ?_
        rintro e w ⟨rfl, rfl⟩
        go_wp2
        go_ret2
        exact ⟨rfl, Below.refl _ _⟩
      · rw [if_neg (by rintro ⟨-, h | h⟩; exact h1 h; exact h2 h), decide_eq_false h2]
        have d2 : (n / 10 % 10 != 2) = true := by rw [bne_iff_ne]; exact h2
        clear h1 h2
        generalize n / 10 % 10 = b at *
        go_enter Tryd.func15, Tryd.ntmps15
        go_wp2_with fail
        refine (CP.out _).mono ?_
        rintro e w ⟨rfl, rfl⟩
        go_wp2_with fail
        refine (C.out _).mono ?_
        rintro e w ⟨rfl, rfl⟩
        go_wp2
        go_ret2
        exact ⟨rfl, Below.refl _ _⟩

/-! ### cmp.Compare -/
set_option maxRecDepth 100000 in
theorem isNaN_any (n : Int) (W : World) : Calls Tryd.prog 107 #[.int .i64 n] W fun e W' => e = .returned (.bool false) ∧ W = W' := by
  have d : (n != n) = false := by simp
  go_enter Tryd.func107, Tryd.ntmps107
  go_wp2
  go_ret
  exact ⟨rfl, rfl⟩
def cmpF (a b : Int) : Int := if a < b then -1 else if b < a then 1 else 0
set_option maxRecDepth 100000 in
theorem compare_any (a b : Int) (W : World) : Calls Tryd.prog 97 #[.int .i64 a, .int .i64 b] W fun e W' => e = .returned (.int .i64 (cmpF a b)) ∧ W = W' := by
  have C1 := Lib.hid (fun w => isNaN_any a w)
  have C2 := Lib.hid (fun w => isNaN_any b w)
  unfold cmpF
  by_cases h1 : a < b
  · rw [if_pos h1]
    go_enter Tryd.func97, Tryd.ntmps97
    go_wp2_with fail
    refine (C1.out _).mono ?_
    rintro e w ⟨rfl, rfl⟩
    go_wp2_with fail
    refine (C2.out _).mono ?_
    rintro e w ⟨rfl, rfl⟩
    go_wp2
    go_ret
    exact ⟨rfl, rfl⟩
  · rw [if_neg h1]
    by_cases h2 : b < a
    · rw [if_pos h2]
      go_enter Tryd.func97, Tryd.ntmps97
      go_wp2_with fail
      refine (C1.out _).mono ?_
      rintro e w ⟨rfl, rfl⟩
      go_wp2_with fail
      refine (C2.out _).mono ?_
      rintro e w ⟨rfl, rfl⟩
      go_wp2
      go_ret
      exact ⟨rfl, rfl⟩
    · rw [if_neg h2]
      go_enter Tryd.func97, Tryd.ntmps97
      go_wp2_with fail
      refine (C1.out _).mono ?_
      rintro e w ⟨rfl, rfl⟩
      go_wp2_with fail
      refine (C2.out _).mono ?_
      rintro e w ⟨rfl, rfl⟩
      go_wp2
      go_ret
      exact ⟨rfl, rfl⟩

/-! ### fields -/
set_option maxRecDepth 100000 in
theorem noF_any (z : Int) (B : Option Addr) (m d : Nat) (W : World) : Calls Tryd.prog 73 #[.agg #[.int .i64 z, .slice B m d]] W fun e W' => e = .returned (.int .i64 z) ∧ Below W.heap.size W W' := by
  have HB := Lib.hid ((Below.refl W.heap.size W).alloc (Nat.le_refl _) (.cells #[.int .i64 z, .slice B m d] 60))
  go_enter Tryd.func73, Tryd.ntmps73
  go_wp2
  go_ret
  exact ⟨rfl, HB.out⟩
/-- a function that tells a field's number -/
abbrev noV : Value := .func (.func 73) #[] #[]
abbrev rowsV (A : Option Addr) (n c : Nat) : Value := .agg #[.slice A n c, noV]
set_option maxRecDepth 100000 in
theorem storeR {ops : Array Oper} {rest : List Oper} {o : Oper} {a : Act} {Q : Exit → Act → World → Prop} (W : World) (x y : Operand) (g : Nat) (p q : Value) (old : Array Value)
    (hg : W.heap[g]? = some (.cells old 68 (0, 0))) (hold : old.size = 2) (h1 : (#[p, q] : Array Value).all (·.oneCell') = true) (hgd : o.guard = none) (ho : o.op = .store 68 x y) (hx : a.eval x = .pointer (some ⟨g, 0, none⟩)) (hy : a.eval y = .agg #[p, q])
    (h : wpList Tryd.prog ops Q rest (a.put o.dst undef) (W.setRow g #[p, q])) : wpList Tryd.prog ops Q (o :: rest) a W :=
  wpList_store_row hgd 68 x y ho g #[p, q] hx hy 68 old hg (by kernel_rfl) hold h1 h
set_option maxRecDepth 100000 in
theorem loadR {ops : Array Oper} {rest : List Oper} {o : Oper} {a : Act} {Q : Exit → Act → World → Prop} (W : World) (x : Operand) (g : Nat) (p q : Value)
    (hg : W.heap[g]? = some (.cells #[p, q] 68 (0, 0))) (hgd : o.guard = none) (ho : o.op = .load 68 x) (hx : a.eval x = .pointer (some ⟨g, 0, none⟩))
    (h : wpList Tryd.prog ops Q rest (a.put o.dst (.agg #[p, q])) W) : wpList Tryd.prog ops Q (o :: rest) a W :=
  wpList_load_row hgd 68 x ho g hx 68 #[p, q] (0, 0) _ hg Tryd.underlying68 rfl (by kernel_rfl) h
set_option maxRecDepth 100000 in
theorem retR {fn : Func} {p : Tmp} (h : fn.results = #[.cell p 68]) (tmps : Array Value) (W : World) (g : Nat) (x y : Value) (hp : tmps.getD p undef = .pointer (some ⟨g, 0, none⟩)) (hg : W.heap[g]? = some (.cells #[x, y] 68 (0, 0))) :
    (results fn tmps).run Tryd.prog W = .ok (.agg #[x, y]) W :=
  results_cell_row h tmps W g 68 #[x, y] (0, 0) _ hp hg Tryd.underlying68 rfl (by kernel_rfl)
set_option maxRecDepth 100000 in
theorem fields_any (t : Int) (A : Option Addr) (n c : Nat) (W : World) : Calls Tryd.prog 38 #[.agg #[.int .i64 t, .slice A n c]] W fun e W' => e = .returned (rowsV A n c) ∧ Below W.heap.size W W' := by
  obtain ⟨V, hV, hb, g1, g2⟩ := box2 W #[.int .i64 t, .slice A n c] #[.slice none 0 0, .nilFunc] 24 68
  have HV := Lib.hid hV
  have HB := Lib.hid hb
  have HG2 := Lib.hid g2
  obtain ⟨e0, e1⟩ := cG2 g1
  rw [hV] at e0 e1
  clear hV hb g1 g2
  go_enter Tryd.func38, Tryd.ntmps38
  go_wp2_with (with_reducible refine at_listG ?_; refine storeR _ (.tmp 2) (.tmp 5) (W.heap.size + 1) (.slice A n c) noV #[.slice none 0 0, .nilFunc] (by rw [← HV.out]; exact HG2.out) rfl (by simp [Value.oneCell']) rfl rfl rfl rfl ?_; rw [← HV.out])
  (try simp only [Exit.inBlock, Exit.then])
  refine bodyPost_ret (retR rfl _ _ (W.heap.size + 1) _ _ rfl (setRow_heap _ _ _ _ _ _ HG2.out)) rfl ?_
  exact ⟨rfl, Below.setRowG HB.out (by omega) _⟩
set_option maxRecDepth 100000 in
/-- what find compares by; the rows' box holds the function -/
theorem findc_any (z no : Int) (B : Option Addr) (m d g : Nat) (A : Option Addr) (n c : Nat) (W : World) (hg : W.heap[g]? = some (.cells #[.slice A n c, noV] 68 (0, 0))) :
    Calls Tryd.prog 96 #[.agg #[.int .i64 z, .slice B m d], .int .i64 no, .pointer (some ⟨g, 0, none⟩)] W fun e W' => e = .returned (.int .i64 (cmpF z no)) ∧ Below W.heap.size W W' := by
  have hb := (Below.refl W.heap.size W).alloc (Nat.le_refl _) (.cells #[.int .i64 z, .slice B m d] 60)
  have HB := Lib.hid hb
  obtain ⟨e0, e1⟩ := cG2 (oldG hg hb (Nat.le_refl _))
  have CN := Lib.hid (fun w => noF_any z B m d w)
  have CC := Lib.hid (fun w => compare_any z no w)
  clear hb hg e0
  generalize cmpF z no = R at *
  go_enter Tryd.func96, Tryd.ntmps96
  go_wp2_with fail
  refine (CN.out _).mono ?_
  rintro e w1 ⟨rfl, hb1⟩
  have HB1 := Lib.hid (belG HB.out hb1 HB.out.size)
  clear hb1
  go_wp2_with fail
  refine (CC.out _).mono ?_
  rintro e w2 ⟨rfl, rfl⟩
  go_wp2
  go_ret
  exact ⟨rfl, HB1.out⟩
end Go.Proofs.YtpfjecjfooefoaaDoor
