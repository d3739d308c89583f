
/- shown: the document's examples (frame). -/
import Derived.Test.YtplekllhnpljiaaJ16
import Derived.Test.YtplekllhnpljiaaJ18
import Derived.Test.YtplekllhnpljiaaJ22
import Derived.Test.YtplekllhnpljiaaJ11
namespace Go.Proofs.Ytplekllhnpljiaa
open Go.RowKit
set_option maxRecDepth 100000 in
theorem u16_bd5 {a : Int} (h : (Lit.int .u16 a).wf = true) : 0 ≤ a ∧ a ≤ 65535 := by
  simpa [Lit.wf, IntKind.min, IntKind.max, IntKind.signed, IntKind.bits] using h
set_option maxRecDepth 100000 in
/-- a feed whose bytes are few -/
theorem RightFd.len {l : List UInt8} {s b : Int} (h : RightFd ⟨l, s, b⟩) : l.length ≤ 1025 := by have := h.short; simp only at this; omega
set_option maxRecDepth 100000 in
theorem push_bad64 : ∀ (b : List UInt8) (f : Fd), -9223372036854775808 ≤ f.bad ∧ f.bad ≤ 9223372036854775807 → -9223372036854775808 ≤ (pushF f b).1.bad ∧ (pushF f b).1.bad ≤ 9223372036854775807
  | [], _, h => h
  | c :: r, f, h => push_bad64 r (oneF f c).1 (by
    unfold oneF
    split
    · exact h
    · split
      · exact h
      · split
        · show -9223372036854775808 ≤ inc64 f.bad ∧ inc64 f.bad ≤ 9223372036854775807
          unfold inc64 wrap64
          omega
        · split
          · exact h
          · exact h)
set_option maxRecDepth 100000 in
/-- a row, copied behind an empty one; what lies elsewhere, and isn't empty, stays -/
theorem wp_copy8 {o : Oper} {a : Act} {K : Act → World → Prop} {Q : Exit → Act → World → Prop} (w : World) (s x : Operand) (ge base : Nat) (G : Option Addr) (m d : Nat) (us : List UInt8)
    (ho : o.op = .call { callee := .builtin .append, args := #[s, x], argTypes := #[23, 23] })
    (h1 : a.eval s = .slice (some ⟨ge, 0, none⟩) 0 0) (h2 : a.eval x = .slice G m d) (h3 : w.heap[ge]? = some (.cells #[] 5 (0, 0))) (hge : base ≤ ge) (hm : m = us.length) (hm100 : m ≤ 100000) (hr : Rd w w.heap.size G us)
    (hbase : base ≤ w.heap.size) (hK : ∀ (A' : Option Addr) (c' : Nat) (w' : World), Ow w' base (.slice A' m c') us → Below base w w' → (∀ (k : Nat) (c : Array Value) (t : TypeId), c ≠ #[] → w.heap[k]? = some (.cells c t (0, 0)) → w'.heap[k]? = some (.cells c t (0, 0))) → K (a.put o.dst (.slice A' m c')) w') : o.wp Try.prog a w K Q := by
  subst hm
  have hown : Ow w base (.slice (some ⟨ge, 0, none⟩) 0 0) [] := ⟨rfl, .inr ⟨ge, 0, #[], rfl, hge, h3, Nat.le_refl _, by simp [maxLen], rfl, rfl⟩⟩
  refine wp_appS w s x ho base _ [] us h1 hown G us.length d w.heap.size h2 rfl hr (by simp only [List.length_nil]; omega) hbase fun v' w' h4 h5 => ?_
  rw [List.nil_append] at h4
  obtain ⟨A', c', rfl, _, _, _⟩ := h4.form
  refine hK A' c' w' h4 (Ow.below hown (Below.refl base w) h5 hbase) fun k c t hc hk => ?_
  have hne : k ≠ ge := by
    rintro rfl
    rw [h3] at hk
    injection hk with hk
    injection hk with hk _
    exact hc hk.symm
  have hlt : k < w.heap.size := (Array.getElem?_eq_some_iff.1 hk).1
  rw [← hk]
  exact h5.block k hlt (fun e => hne (by simpa [Value.ownBlock] using e))
set_option maxRecDepth 100000 in
/-- a byte more, behind a row of the call's own; boxes stay -/
theorem wp_more8 {o : Oper} {a : Act} {K : Act → World → Prop} {Q : Exit → Act → World → Prop} (w : World) (s x : Operand) (gy base : Nat) (A : Option Addr) (m n c : Nat) (us : List UInt8) (y : UInt8)
    (ho : o.op = .call { callee := .builtin .append, args := #[s, x], argTypes := #[23, 23] })
    (h1 : a.eval s = .slice A m c) (h2 : a.eval x = .slice (some ⟨gy, 0, none⟩) 1 1) (hown : Ow w base (.slice A m c) us) (hm : m = us.length) (hm100 : m ≤ 100000) (hn : n = m + 1) (h3 : w.heap[gy]? = some (.cells #[.int .u8 (y.toNat : Int)] 5 (0, 0)))
    (hbase : base ≤ w.heap.size) (hK : ∀ (A' : Option Addr) (c' : Nat) (w' : World), n ≤ c' → c' ≤ 9223372036854775807 → Rd w' w'.heap.size A' (us ++ [y]) → Below base w w' → (∀ (k : Nat) (cur : Array Value), w.heap[k]? = some (.cells cur 25 (0, 0)) → w'.heap[k]? = some (.cells cur 25 (0, 0))) → K (a.put o.dst (.slice A' n c')) w') : o.wp Try.prog a w K Q := by
  subst hm hn
  have hy : Rd w w.heap.size (some ⟨gy, 0, none⟩) [y] := fun _ => ⟨gy, 0, rfl, (Array.getElem?_eq_some_iff.1 h3).1, fun j hj => by
    have : j = 0 := by simpa using hj
    subst this
    rw [Nat.zero_add, cell_of_row _ _ _ _ _ _ h3]
    rfl⟩
  refine wp_appS w s x ho base _ us [y] h1 hown (some ⟨gy, 0, none⟩) 1 1 w.heap.size h2 rfl hy (by simp only [List.length_cons, List.length_nil]; omega) hbase fun v' w' h4 h5 => ?_
  obtain ⟨A', c', hv', h6, h7, h8⟩ := h4.form
  rw [List.length_append] at hv' h6
  subst hv'
  exact hK A' c' w' h6 h7 h8 (Ow.below hown (Below.refl base w) h5 hbase) fun k cur hk => Ow.box hown hk (by decide) h5
set_option maxRecDepth 100000 in
theorem Obj.old8 {w : World} {k : Nat} {x : Obj} (h : w.heap[k]? = some x) (o : Obj) : (w.alloc o).heap[k]? = some x := by
  have hlt := (Array.getElem?_eq_some_iff.1 h).1
  rw [← h]
  exact heap_alloc_old w o hlt
set_option maxRecDepth 100000 in
theorem Obj.new28 (w : World) (x y : Obj) : ((w.alloc x).alloc y).heap[w.heap.size + 1]? = some y := by
  have h := heap_alloc_new (w.alloc x) y
  rw [World.size_alloc] at h
  exact h
set_option maxRecDepth 100000 in
theorem rd_new8 (W : World) (l : List UInt8) : Rd (W.alloc (.cells (cs l).toArray 5)) (W.alloc (.cells (cs l).toArray 5)).heap.size (some ⟨W.heap.size, 0, none⟩) l :=
  fun _ => ⟨W.heap.size, 0, rfl, by rw [World.size_alloc]; omega, fun j hj => by
    rw [Nat.zero_add, cell_of_row _ _ _ _ _ _ (heap_alloc_new W _)]
    simpa using cs_get l j hj⟩
set_option maxRecDepth 100000 in
theorem right8_0 : RightFd ⟨[], 0, 0⟩ := ⟨by decide, by decide, fun _ => rfl, .inl (by decide)⟩
set_option maxRecDepth 100000 in
theorem right8_1 : RightFd ⟨[], 0, 1⟩ := ⟨by decide, by decide, fun _ => rfl, .inl (by decide)⟩
set_option maxRecDepth 100000 in
theorem right8_2 : RightFd ⟨[0], 0, 1⟩ := ⟨by decide, by decide, fun h => absurd h (by decide), .inl (by decide)⟩
set_option maxRecDepth 100000 in
theorem right8_3 : ¬ RightFd ⟨[], -1, 0⟩ := fun h => absurd h.1 (by decide)
set_option maxRecDepth 100000 in
theorem push8_1 : pushF ⟨[], 0, 0⟩ ([4, 1] ++ List.replicate 1025 0) = (⟨[], 0, 1⟩, []) := by
  rw [pushF_append, show ([4, 1] : List UInt8) = [UInt8.ofNat (1025 / 256), UInt8.ofNat (1025 % 256)] from rfl, push_bad 1025 (by decide) (by decide), push_skip]
  rfl
set_option maxRecDepth 100000 in
theorem push8_2 : pushF ⟨[], 0, 1⟩ [0, 2, 1, 2, 0] = (⟨[0], 0, 1⟩, [[1, 2]]) := by rfl
set_option maxRecDepth 100000 in
theorem ex8_u (A : Option Addr) (c : Nat) (W : World) (hc : 1027 ≤ c) (hcm : c ≤ 9223372036854775807) (hr : Rd W W.heap.size A ([4, 1] ++ List.replicate 1025 0)) : Calls Try.prog 35 #[.agg #[.slice none 0 0, .int .i64 0, .int .i64 0], .slice A 1027 c] W fun e W' => (∃ A1 c1 A2 c2, e = .returned (.tuple #[.agg #[.slice A1 0 c1, .int .i64 0, .int .i64 1], .slice A2 0 c2]) ∧ c1 ≤ 9223372036854775807) ∧ Below W.heap.size W W' := by
  have hl : ([4, 1] ++ List.replicate 1025 (0 : UInt8)).length = 1027 := by rw [List.length_append, List.length_replicate]; rfl
  have h := fPush_any none [] 0 0 0 A ([4, 1] ++ List.replicate 1025 0) c W right8_0 (Nat.le_refl _) (by decide) (by decide) Rd.nil (by rw [hl]; decide) (by rw [hl]; exact hc) hcm hr
  rw [push8_1, hl] at h
  refine h.mono fun e W' h => ⟨?_, h.2⟩
  obtain ⟨A1, c1, A2, c2, h1, -, h3, -⟩ := h.1
  exact ⟨A1, c1, A2, c2, h1, h3⟩
set_option maxRecDepth 100000 in
theorem ex8_v (A1 : Option Addr) (c1 : Nat) (A : Option Addr) (c : Nat) (W : World) (hc1 : c1 ≤ 9223372036854775807) (hc : 5 ≤ c) (hcm : c ≤ 9223372036854775807) (hr : Rd W W.heap.size A [0, 2, 1, 2, 0]) : Calls Try.prog 35 #[.agg #[.slice A1 0 c1, .int .i64 0, .int .i64 1], .slice A 5 c] W fun e W' => (∃ A1 c1 A2 c2 us, e = .returned (.tuple #[.agg #[.slice A1 1 c1, .int .i64 0, .int .i64 1], .slice A2 1 c2]) ∧ Rd W' W'.heap.size A1 [0] ∧ SEs W' us [[1, 2]] ∧ RC W' W'.heap.size A2 us) ∧ Below W.heap.size W W' := by
  have h := fPushD_any A1 [] c1 0 1 A [0, 2, 1, 2, 0] c W right8_1 (Nat.zero_le _) hc1 (by decide) Rd.nil (by decide) hc hcm hr
  rw [push8_2] at h
  refine h.mono fun e W' h => ⟨?_, h.2⟩
  obtain ⟨A1, c1, A2, c2, us, h1, -, -, h4, -, -, h7, h8, -⟩ := h.1
  exact ⟨A1, c1, A2, c2, us, h1, h4, h7, h8⟩
set_option maxRecDepth 100000 in
theorem ex8_s (A : Option Addr) (c : Nat) (W : World) (hr : Rd W W.heap.size A [1, 2]) : Calls Try.prog 28 #[.slice A 2 c, .slice (some ⟨W.heap.size, 0, none⟩) 2 2] (W.alloc (.cells #[.int .u8 1, .int .u8 2] 5)) fun e W' => e = .returned (.bool true) ∧ Below (W.alloc (.cells #[.int .u8 1, .int .u8 2] 5)).heap.size (W.alloc (.cells #[.int .u8 1, .int .u8 2] 5)) W' :=
  (same_any A (some ⟨W.heap.size, 0, none⟩) [1, 2] [1, 2] c 2 _ _ _ (hr.go ((Below.refl _ _).alloc (Nat.le_refl _) _)) (rd_new8 W [1, 2])).mono fun e W' h => ⟨by simpa using h.1, by rw [← h.2]; exact Below.refl _ _⟩
set_option maxRecDepth 100000 in
theorem ex8_r (A : Option Addr) (c : Nat) (W : World) (hr : Rd W W.heap.size A [0]) : Calls Try.prog 30 #[.agg #[.slice A 1 c, .int .i64 0, .int .i64 1]] W fun e W' => e = .returned (.bool true) ∧ Below W.heap.size W W' := by
  have h := fRight_any A [0] c 0 1 W (by decide) (by decide) hr
  rw [decide_eq_true right8_2] at h
  exact h
set_option maxRecDepth 100000 in
theorem ex8_q (W : World) : Calls Try.prog 30 #[.agg #[.slice none 0 0, .int .i64 (-1), .int .i64 0]] W fun e W' => e = .returned (.bool false) ∧ Below W.heap.size W W' := by
  have h := fRight_any none [] 0 (-1) 0 W (by decide) (by decide) Rd.nil
  rw [decide_eq_false right8_3] at h
  exact h
set_option maxRecDepth 100000 in
theorem ex8_m (A B : Option Addr) (c d : Nat) (W : World) (hr : Rd W W.heap.size A [0]) (hs : Rd W W.heap.size B [0]) : Calls Try.prog 31 #[.agg #[.slice A 1 c, .int .i64 0, .int .i64 1], .agg #[.slice B 1 d, .int .i64 0, .int .i64 1]] W fun e W' => e = .returned (.bool true) ∧ Below W.heap.size W W' := by
  have h := fSame_any A B [0] [0] c d 0 1 0 1 W (by decide) (by decide) hr hs
  simp only [and_self, decide_true] at h
  exact h
set_option maxRecDepth 100000 in
theorem ex8_n (A B : Option Addr) (c d : Nat) (W : World) (hs : Rd W W.heap.size B [0]) : Calls Try.prog 31 #[.agg #[.slice A 0 c, .int .i64 0, .int .i64 1], .agg #[.slice B 1 d, .int .i64 0, .int .i64 1]] W fun e W' => e = .returned (.bool false) ∧ Below W.heap.size W W' := by
  have h := fSame_any A B [] [0] c d 0 1 0 1 W (by decide) (by decide) Rd.nil hs
  rw [decide_eq_false (by simp)] at h
  exact h
set_option maxRecDepth 100000 in
/-- the end of region 3, where the box was made ahead of the call -/
theorem box_end {V w : World} {g c5 c6 : Nat} {A5 A6 : Option Addr} {us : List Value} (h1 : Rd w w.heap.size A5 [0]) (h2 : SEs w us [[1, 2]]) (h3 : RC w w.heap.size A6 us) (hz : w.heap[g]? = some (.cells #[.slice none 0 0, .int .i64 0, .int .i64 0] 25 (0, 0))) (hb : Below V.heap.size V w) (hg : V.heap.size ≤ g) :
    (.slice A6 1 c6 : Value) = .slice A6 1 c6 ∧ (set3F w g (.slice A5 1 c5) (.int .i64 0) (.int .i64 1)).heap[g]? = some (.cells #[.slice A5 1 c5, .int .i64 0, .int .i64 1] 25 (0, 0)) ∧ Rd (set3F w g (.slice A5 1 c5) (.int .i64 0) (.int .i64 1)) (set3F w g (.slice A5 1 c5) (.int .i64 0) (.int .i64 1)).heap.size A5 [0] ∧ Mat (set3F w g (.slice A5 1 c5) (.int .i64 0) (.int .i64 1)) (set3F w g (.slice A5 1 c5) (.int .i64 0) (.int .i64 1)).heap.size A6 [[1, 2]] ∧ Below V.heap.size V (set3F w g (.slice A5 1 c5) (.int .i64 0) (.int .i64 1)) := by
  have hoth := fun k (hk : k ≠ g) => set3F_other w g k (.slice A5 1 c5) (.int .i64 0) (.int .i64 1) hk
  have hs := Nat.le_of_eq (set3F_size w g (.slice A5 1 c5) (.int .i64 0) (.int .i64 1)).symm
  exact ⟨rfl, set3F_same _ _ _ hz, h1.keepN hz (noB3 _ _ _ _ _) hoth hs, RC.mat (h3.keepZ h2 (by simp) hz hoth hs) (h2.keep (fun A l hr => hr.keepN hz (noB3 _ _ _ _ _) hoth hs)), Below.set3F hb hg _ _ _⟩

end Go.Proofs.Ytplekllhnpljiaa
