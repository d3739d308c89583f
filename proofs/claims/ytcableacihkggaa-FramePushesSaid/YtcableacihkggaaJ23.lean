
/- shown: the document's examples (frame). -/
import Derived.Test.YtcableacihkggaaJ16
import Derived.Test.YtcableacihkggaaJ18
import Derived.Test.YtcableacihkggaaJ22
import Derived.Test.YtcableacihkggaaJ11
namespace Go.Proofs.Ytcableacihkggaa
open Go.RowKit
set_option maxRecDepth 100000 in
theorem u16_bd5 {a : Int} (h : (Lit.int .u16 a).wf = true) : 0 ≤ a ∧ a ≤ 65535 := by
  simpa [Lit.wf, IntKind.min, IntKind.max, IntKind.signed, IntKind.bits] using h
set_option maxRecDepth 100000 in
/-- a feed whose bytes are few -/
theorem RightFd.len {l : List UInt8} {s b : Int} (h : RightFd ⟨l, s, b⟩) : l.length ≤ 1025 := by have := h.short; simp only at this; omega
set_option maxRecDepth 100000 in
theorem push_bad64 : ∀ (b : List UInt8) (f : Fd), -9223372036854775808 ≤ f.bad ∧ f.bad ≤ 9223372036854775807 → -9223372036854775808 ≤ (pushF f b).1.bad ∧ (pushF f b).1.bad ≤ 9223372036854775807
  | [], _, h => h
  | c :: r, f, h => push_bad64 r (oneF f c).1 (by
    unfold oneF
    split
    · exact h
    · split
      · exact h
      · split
        · show -9223372036854775808 ≤ inc64 f.bad ∧ inc64 f.bad ≤ 9223372036854775807
          unfold inc64 wrap64
          omega
        · split
          · exact h
          · exact h)
set_option maxRecDepth 100000 in
/-- a row, copied behind an empty one; what lies elsewhere, and isn't empty, stays -/
theorem wp_copy8 {o : Oper} {a : Act} {K : Act → World → Prop} {Q : Exit → Act → World → Prop} (w : World) (s x : Operand) (ge base : Nat) (G : Option Addr) (m d : Nat) (us : List UInt8)
    (ho : o.op = .call { callee := .builtin .append, args := #[s, x], argTypes := #[22, 22] })
    (h1 : a.eval s = .slice (some ⟨ge, 0, none⟩) 0 0) (h2 : a.eval x = .slice G m d) (h3 : w.heap[ge]? = some (.cells #[] 5 (0, 0))) (hge : base ≤ ge) (hm : m = us.length) (hm100 : m ≤ 100000) (hr : Rd w w.heap.size G us)
    (hbase : base ≤ w.heap.size) (hK : ∀ (A' : Option Addr) (c' : Nat) (w' : World), Ow w' base (.slice A' m c') us → Below base w w' → (∀ (k : Nat) (c : Array Value) (t : TypeId), c ≠ #[] → w.heap[k]? = some (.cells c t (0, 0)) → w'.heap[k]? = some (.cells c t (0, 0))) → K (a.put o.dst (.slice A' m c')) w') : o.wp Try.prog a w K Q := by
  subst hm
  have hown : Ow w base (.slice (some ⟨ge, 0, none⟩) 0 0) [] := ⟨rfl, .inr ⟨ge, 0, #[], rfl, hge, h3, Nat.le_refl _, by simp [maxLen], rfl, rfl⟩⟩
  refine wp_appS w s x ho base _ [] us h1 hown G us.length d w.heap.size h2 rfl hr (by simp only [List.length_nil]; omega) hbase fun v' w' h4 h5 => ?_
  rw [List.nil_append] at h4
  obtain ⟨A', c', rfl, _, _, _⟩ := h4.form
  refine hK A' c' w' h4 (Ow.below hown (Below.refl base w) h5 hbase) fun k c t hc hk => ?_
  have hne : k ≠ ge := by
    rintro rfl
    rw [h3] at hk
    injection hk with hk
    injection hk with hk _
    exact hc hk.symm
  have hlt : k < w.heap.size := (Array.getElem?_eq_some_iff.1 hk).1
  rw [← hk]
  exact h5.block k hlt (fun e => hne (by simpa [Value.ownBlock] using e))
set_option maxRecDepth 100000 in
/-- a byte more, behind a row of the call's own; boxes stay -/
theorem wp_more8 {o : Oper} {a : Act} {K : Act → World → Prop} {Q : Exit → Act → World → Prop} (w : World) (s x : Operand) (gy base : Nat) (A : Option Addr) (m n c : Nat) (us : List UInt8) (y : UInt8)
    (ho : o.op = .call { callee := .builtin .append, args := #[s, x], argTypes := #[22, 22] })
    (h1 : a.eval s = .slice A m c) (h2 : a.eval x = .slice (some ⟨gy, 0, none⟩) 1 1) (hown : Ow w base (.slice A m c) us) (hm : m = us.length) (hm100 : m ≤ 100000) (hn : n = m + 1) (h3 : w.heap[gy]? = some (.cells #[.int .u8 (y.toNat : Int)] 5 (0, 0)))
    (hbase : base ≤ w.heap.size) (hK : ∀ (A' : Option Addr) (c' : Nat) (w' : World), n ≤ c' → c' ≤ 9223372036854775807 → Rd w' w'.heap.size A' (us ++ [y]) → Below base w w' → (∀ (k : Nat) (cur : Array Value), w.heap[k]? = some (.cells cur 24 (0, 0)) → w'.heap[k]? = some (.cells cur 24 (0, 0))) → K (a.put o.dst (.slice A' n c')) w') : o.wp Try.prog a w K Q := by
  subst hm hn
  have hy : Rd w w.heap.size (some ⟨gy, 0, none⟩) [y] := fun _ => ⟨gy, 0, rfl, (Array.getElem?_eq_some_iff.1 h3).1, fun j hj => by
    have : j = 0 := by simpa using hj
    subst this
    rw [Nat.zero_add, cell_of_row _ _ _ _ _ _ h3]
    rfl⟩
  refine wp_appS w s x ho base _ us [y] h1 hown (some ⟨gy, 0, none⟩) 1 1 w.heap.size h2 rfl hy (by simp only [List.length_cons, List.length_nil]; omega) hbase fun v' w' h4 h5 => ?_
  obtain ⟨A', c', hv', h6, h7, h8⟩ := h4.form
  rw [List.length_append] at hv' h6
  subst hv'
  exact hK A' c' w' h6 h7 h8 (Ow.below hown (Below.refl base w) h5 hbase) fun k cur hk => Ow.box hown hk (by decide) h5
set_option maxRecDepth 100000 in
theorem Obj.old8 {w : World} {k : Nat} {x : Obj} (h : w.heap[k]? = some x) (o : Obj) : (w.alloc o).heap[k]? = some x := by
  have hlt := (Array.getElem?_eq_some_iff.1 h).1
  rw [← h]
  exact heap_alloc_old w o hlt
set_option maxRecDepth 100000 in
theorem Obj.new28 (w : World) (x y : Obj) : ((w.alloc x).alloc y).heap[w.heap.size + 1]? = some y := by
  have h := heap_alloc_new (w.alloc x) y
  rw [World.size_alloc] at h
  exact h
set_option maxRecDepth 100000 in
theorem rd_new8 (W : World) (l : List UInt8) : Rd (W.alloc (.cells (cs l).toArray 5)) (W.alloc (.cells (cs l).toArray 5)).heap.size (some ⟨W.heap.size, 0, none⟩) l :=
  fun _ => ⟨W.heap.size, 0, rfl, by rw [World.size_alloc]; omega, fun j hj => by
    rw [Nat.zero_add, cell_of_row _ _ _ _ _ _ (heap_alloc_new W _)]
    simpa using cs_get l j hj⟩
set_option maxRecDepth 100000 in
theorem right8_0 : RightFd ⟨[], 0, 0⟩ := ⟨by decide, by decide, fun _ => rfl, .inl (by decide)⟩
set_option maxRecDepth 100000 in
theorem right8_1 : RightFd ⟨[], 0, 1⟩ := ⟨by decide, by decide, fun _ => rfl, .inl (by decide)⟩
set_option maxRecDepth 100000 in
theorem right8_2 : RightFd ⟨[0], 0, 1⟩ := ⟨by decide, by decide, fun h => absurd h (by decide), .inl (by decide)⟩
set_option maxRecDepth 100000 in
theorem right8_3 : ¬ RightFd ⟨[], -1, 0⟩ := fun h => absurd h.1 (by decide)
set_option maxRecDepth 100000 in
theorem push8_1 : pushF ⟨[], 0, 0⟩ ([4, 1] ++ List.replicate 1025 0) = (⟨[], 0, 1⟩, []) := by
  rw [pushF_append, show ([4, 1] : List UInt8) = [UInt8.ofNat (1025 / 256), UInt8.ofNat (1025 % 256)] from rfl, push_bad 1025 (by decide) (by decide), push_skip]
  rfl
set_option maxRecDepth 100000 in
theorem push8_2 : pushF ⟨[], 0, 1⟩ [0, 2, 1, 2, 0] = (⟨[0], 0, 1⟩, [[1, 2]]) := by rfl
set_option maxRecDepth 100000 in
theorem ex8_p (W : World) : Calls Try.prog 10 #[.slice (some ⟨W.heap.size, 0, none⟩) 2 2] (W.alloc (.cells #[.int .u8 1, .int .u8 2] 5)) fun e W' => Ans W' e [0, 2, 1, 2] 4 (.int .i64 0) ∧ Below (W.alloc (.cells #[.int .u8 1, .int .u8 2] 5)).heap.size (W.alloc (.cells #[.int .u8 1, .int .u8 2] 5)) W' :=
  (fPack_any _ [1, 2] 2 _ (by decide) (by decide) (by decide) (rd_new8 W [1, 2])).mono fun e W' h => ⟨by have h1 := h.1; rw [show packW [1, 2] = [0, 2, 1, 2] from by rfl, show packE [1, 2] = 0 from by rfl] at h1; exact h1, h.2⟩
set_option maxRecDepth 100000 in
theorem ex8_u (A : Option Addr) (c : Nat) (W : World) (hc : 1027 ≤ c) (hcm : c ≤ 9223372036854775807) (hr : Rd W W.heap.size A ([4, 1] ++ List.replicate 1025 0)) : Calls Try.prog 17 #[.agg #[.slice none 0 0, .int .i64 0, .int .i64 0], .slice A 1027 c] W fun e W' => (∃ A1 c1 A2 c2, e = .returned (.tuple #[.agg #[.slice A1 0 c1, .int .i64 0, .int .i64 1], .slice A2 0 c2]) ∧ c1 ≤ 9223372036854775807) ∧ Below W.heap.size W W' := by
  have hl : ([4, 1] ++ List.replicate 1025 (0 : UInt8)).length = 1027 := by rw [List.length_append, List.length_replicate]; rfl
  have h := fPush_any none [] 0 0 0 A ([4, 1] ++ List.replicate 1025 0) c W right8_0 (Nat.le_refl _) (by decide) (by decide) Rd.nil (by rw [hl]; decide) (by rw [hl]; exact hc) hcm hr
  rw [push8_1, hl] at h
  refine h.mono fun e W' h => ⟨?_, h.2⟩
  obtain ⟨A1, c1, A2, c2, h1, -, h3, -⟩ := h.1
  exact ⟨A1, c1, A2, c2, h1, h3⟩
set_option maxRecDepth 100000 in
theorem ex8_v (A1 : Option Addr) (c1 : Nat) (A : Option Addr) (c : Nat) (W : World) (hc1 : c1 ≤ 9223372036854775807) (hc : 5 ≤ c) (hcm : c ≤ 9223372036854775807) (hr : Rd W W.heap.size A [0, 2, 1, 2, 0]) : Calls Try.prog 17 #[.agg #[.slice A1 0 c1, .int .i64 0, .int .i64 1], .slice A 5 c] W fun e W' => (∃ A1 c1 A2 c2 us, e = .returned (.tuple #[.agg #[.slice A1 1 c1, .int .i64 0, .int .i64 1], .slice A2 1 c2]) ∧ Rd W' W'.heap.size A1 [0] ∧ SEs W' us [[1, 2]] ∧ RC W' W'.heap.size A2 us) ∧ Below W.heap.size W W' := by
  have h := fPushD_any A1 [] c1 0 1 A [0, 2, 1, 2, 0] c W right8_1 (Nat.zero_le _) hc1 (by decide) Rd.nil (by decide) hc hcm hr
  rw [push8_2] at h
  refine h.mono fun e W' h => ⟨?_, h.2⟩
  obtain ⟨A1, c1, A2, c2, us, h1, -, -, h4, -, -, h7, h8, -⟩ := h.1
  exact ⟨A1, c1, A2, c2, us, h1, h4, h7, h8⟩
set_option maxRecDepth 100000 in
theorem ex8_h (A : Option Addr) (c : Nat) (W : World) (hr : Rd W W.heap.size A [0, 2, 1, 2]) : Calls Try.prog 22 #[.slice A 4 c] W fun e W' => e = .returned (.string ⟨#[48, 48, 48, 50, 48, 49, 48, 50]⟩) ∧ Below W.heap.size W W' :=
  (refHex_any A [0, 2, 1, 2] c W (by decide) hr).mono fun e W' h => ⟨h.1.trans (by rfl), h.2⟩
set_option maxRecDepth 100000 in
theorem ex8_s (A : Option Addr) (c : Nat) (W : World) (hr : Rd W W.heap.size A [1, 2]) : Calls Try.prog 12 #[.slice A 2 c, .slice (some ⟨W.heap.size, 0, none⟩) 2 2] (W.alloc (.cells #[.int .u8 1, .int .u8 2] 5)) fun e W' => e = .returned (.bool true) ∧ Below (W.alloc (.cells #[.int .u8 1, .int .u8 2] 5)).heap.size (W.alloc (.cells #[.int .u8 1, .int .u8 2] 5)) W' :=
  (same_any A (some ⟨W.heap.size, 0, none⟩) [1, 2] [1, 2] c 2 _ _ _ (hr.go ((Below.refl _ _).alloc (Nat.le_refl _) _)) (rd_new8 W [1, 2])).mono fun e W' h => ⟨by simpa using h.1, by rw [← h.2]; exact Below.refl _ _⟩
set_option maxRecDepth 100000 in
theorem ex8_r (A : Option Addr) (c : Nat) (W : World) (hr : Rd W W.heap.size A [0]) : Calls Try.prog 13 #[.agg #[.slice A 1 c, .int .i64 0, .int .i64 1]] W fun e W' => e = .returned (.bool true) ∧ Below W.heap.size W W' := by
  have h := fRight_any A [0] c 0 1 W (by decide) (by decide) hr
  rw [decide_eq_true right8_2] at h
  exact h
set_option maxRecDepth 100000 in
theorem ex8_q (W : World) : Calls Try.prog 13 #[.agg #[.slice none 0 0, .int .i64 (-1), .int .i64 0]] W fun e W' => e = .returned (.bool false) ∧ Below W.heap.size W W' := by
  have h := fRight_any none [] 0 (-1) 0 W (by decide) (by decide) Rd.nil
  rw [decide_eq_false right8_3] at h
  exact h
set_option maxRecDepth 100000 in
theorem ex8_m (A B : Option Addr) (c d : Nat) (W : World) (hr : Rd W W.heap.size A [0]) (hs : Rd W W.heap.size B [0]) : Calls Try.prog 15 #[.agg #[.slice A 1 c, .int .i64 0, .int .i64 1], .agg #[.slice B 1 d, .int .i64 0, .int .i64 1]] W fun e W' => e = .returned (.bool true) ∧ Below W.heap.size W W' := by
  have h := fSame_any A B [0] [0] c d 0 1 0 1 W (by decide) (by decide) hr hs
  simp only [and_self, decide_true] at h
  exact h
set_option maxRecDepth 100000 in
theorem ex8_n (A B : Option Addr) (c d : Nat) (W : World) (hs : Rd W W.heap.size B [0]) : Calls Try.prog 15 #[.agg #[.slice A 0 c, .int .i64 0, .int .i64 1], .agg #[.slice B 1 d, .int .i64 0, .int .i64 1]] W fun e W' => e = .returned (.bool false) ∧ Below W.heap.size W W' := by
  have h := fSame_any A B [] [0] c d 0 1 0 1 W (by decide) (by decide) Rd.nil hs
  rw [decide_eq_false (by simp)] at h
  exact h
set_option maxRecDepth 100000 in
/-- the end of region 3, where the box was made ahead of the call -/
theorem box_end {V w : World} {g c5 c6 : Nat} {A5 A6 : Option Addr} {us : List Value} (h1 : Rd w w.heap.size A5 [0]) (h2 : SEs w us [[1, 2]]) (h3 : RC w w.heap.size A6 us) (hz : w.heap[g]? = some (.cells #[.slice none 0 0, .int .i64 0, .int .i64 0] 24 (0, 0))) (hb : Below V.heap.size V w) (hg : V.heap.size ≤ g) :
    (.slice A6 1 c6 : Value) = .slice A6 1 c6 ∧ (set3F w g (.slice A5 1 c5) (.int .i64 0) (.int .i64 1)).heap[g]? = some (.cells #[.slice A5 1 c5, .int .i64 0, .int .i64 1] 24 (0, 0)) ∧ Rd (set3F w g (.slice A5 1 c5) (.int .i64 0) (.int .i64 1)) (set3F w g (.slice A5 1 c5) (.int .i64 0) (.int .i64 1)).heap.size A5 [0] ∧ Mat (set3F w g (.slice A5 1 c5) (.int .i64 0) (.int .i64 1)) (set3F w g (.slice A5 1 c5) (.int .i64 0) (.int .i64 1)).heap.size A6 [[1, 2]] ∧ Below V.heap.size V (set3F w g (.slice A5 1 c5) (.int .i64 0) (.int .i64 1)) := by
  have hoth := fun k (hk : k ≠ g) => set3F_other w g k (.slice A5 1 c5) (.int .i64 0) (.int .i64 1) hk
  have hs := Nat.le_of_eq (set3F_size w g (.slice A5 1 c5) (.int .i64 0) (.int .i64 1)).symm
  exact ⟨rfl, set3F_same _ _ _ hz, h1.keepN hz (noB3 _ _ _ _ _) hoth hs, RC.mat (h3.keepZ h2 (by simp) hz hoth hs) (h2.keep (fun A l hr => hr.keepN hz (noB3 _ _ _ _ _) hoth hs)), Below.set3F hb hg _ _ _⟩

set_option maxRecDepth 100000 in
set_option maxHeartbeats 40000000 in
theorem shown8_any (W : World) : Calls Try.prog 9 #[] W fun e W' => e = .returned (.bool true) ∧ Below W.heap.size W W' := by
  have HB := Lib.hid (Below.refl W.heap.size W)
  go_enter Try.func9, Try.ntmps9
  go_wp2_with fail
  have hn := HB.out.alloc HB.out.size (.cells #[.int .u8 1, .int .u8 2] 5)
  have ha := (Below.refl W.heap.size W).alloc (Nat.le_refl _) (.cells #[.int .u8 1, .int .u8 2] 5)
  refine (ex8_p W).mono ?_
  rintro e w1 ⟨⟨A1, c1, rfl, p1, p2, h1⟩, hb⟩
  have nHB := Lib.hid (belG hn hb hn.size)
  have hb2 := belG ha hb ha.size
  clear hn ha
  clear hb hb2
  clear HB 
  have HB := nHB
  clear nHB 
  have R1 := Lib.hid h1
  clear h1
  have HM4 := Lib.hid (show Ow (w1.alloc (.cells #[.int .u8 4, .int .u8 1] 5)) w1.heap.size (.slice (some ⟨w1.heap.size, 0, none⟩) 2 2) [4, 1] from Ow.madeL w1 (Nat.le_refl _) [4, 1] (by simp))
  go_wp2_with (at_builtin; refine wpList_appZG _ rfl (.tmp 14) (.const (.int .i64 1025)) rfl w1.heap.size w1.heap.size 2 2 [4, 1] 1025 rfl rfl HM4.out (by decide) (by decide) (by decide) (by simp) ?_; intro v2 w2 hown2 hgrow2; have hb2 := Ow.below (w0 := w1) HM4.out ((Below.refl _ _).alloc (Nat.le_refl _) _) hgrow2 (by simp); obtain ⟨A2, c2, e2, k1, k2, k3⟩ := hown2.form; rw [List.length_append, List.length_replicate] at e2 k1; subst e2; have R2 := Lib.hid k3; have HB2 := Lib.hid (belG HB.out hb2 HB.out.size); have R12 := Lib.hid (R1.out.go hb2); clear hown2 hgrow2 hb2 k3)
  clear HB R1 HM4
  have HB := HB2
  have R1 := R12
  clear HB2 R12
  refine (ex8_u A2 c2 _ k1 k2 R2.out).mono ?_
  rintro e w3 ⟨⟨A3, c3, A4, c4, rfl, k3⟩, hb⟩
  have nHB := Lib.hid (belG HB.out hb HB.out.size)
  have nR1 := Lib.hid ((R1.out.below hb (Nat.le_refl _)).more hb.size)
  clear hb
  clear HB R1
  have HB := nHB
  have R1 := nR1
  clear nHB nR1
  clear R2 k1 k2
  obtain ⟨V3, hV3⟩ : ∃ V, V = w3.alloc (.cells #[.slice A3 0 c3, .int .i64 0, .int .i64 1] 24) := ⟨_, rfl⟩
  have ha := (Below.refl w3.heap.size w3).alloc (Nat.le_refl _) (.cells #[.slice A3 0 c3, .int .i64 0, .int .i64 1] 24)
  have hg := heap_alloc_new w3 (.cells #[.slice A3 0 c3, .int .i64 0, .int .i64 1] 24)
  have nHB := Lib.hid (HB.out.alloc HB.out.size (.cells #[.slice A3 0 c3, .int .i64 0, .int .i64 1] 24))
  rw [← hV3] at ha hg nHB
  have nR1 := Lib.hid ((R1.out.below ha (Nat.le_refl _)).more ha.size)
  obtain ⟨g3, hg3⟩ : ∃ g, g = w3.heap.size := ⟨_, rfl⟩
  rw [← hg3] at hg
  have HXG3 := Lib.hid hg3
  have G3 := Lib.hid hg
  have HV := Lib.hid hV3
  clear ha hg hV3 hg3
  clear HB R1
  have HB := nHB
  have R1 := nR1
  clear nHB nR1
  go_wp2_with fail
  rw [← HV.out]
  (try rw [← HXG3.out])
  clear HV HXG3
  have F1 := Lib.hid (fun w (h : Below V3.heap.size V3 w) => belG HB.out h HB.out.size)
  have FR := Lib.hid (fun w (h : Below V3.heap.size V3 w) => R1.out.go h)
  have BB0 := Lib.hid ((Below.refl V3.heap.size V3).drew)
  have BBE := Lib.hid (((Below.refl V3.heap.size V3).alloc (Nat.le_refl _) (.cells #[] 5)).drew)
  have HE_E := Lib.hid (show (V3.alloc (.cells #[] 5)).drew.heap[V3.heap.size]? = some (.cells #[] 5) from by
    have h := heap_alloc_new V3 (.cells #[] 5)
    exact h)
  have BBY := Lib.hid (((Below.refl V3.heap.size V3).alloc (Nat.le_refl _) (.cells #[.int .u8 0] 5)).drew)
  have HY_Y := Lib.hid (show (V3.alloc (.cells #[.int .u8 0] 5)).drew.heap[V3.heap.size]? = some (.cells #[.int .u8 0] 5) from by
    have h := heap_alloc_new V3 (.cells #[.int .u8 0] 5)
    exact h)
  have BBZ := Lib.hid (((Below.refl V3.heap.size V3).alloc (Nat.le_refl _) (.cells #[.slice none 0 0, .int .i64 0, .int .i64 0] 24)).drew)
  have HZ_Z := Lib.hid (show (V3.alloc (.cells #[.slice none 0 0, .int .i64 0, .int .i64 0] 24)).drew.heap[V3.heap.size]? = some (.cells #[.slice none 0 0, .int .i64 0, .int .i64 0] 24) from by
    have h := heap_alloc_new V3 (.cells #[.slice none 0 0, .int .i64 0, .int .i64 0] 24)
    exact h)
  have BBEY := Lib.hid ((((Below.refl V3.heap.size V3).alloc (Nat.le_refl _) (.cells #[] 5)).alloc (le_alloc (Nat.le_refl _) _) (.cells #[.int .u8 0] 5)).drew)
  have HE_EY := Lib.hid (show ((V3.alloc (.cells #[] 5)).alloc (.cells #[.int .u8 0] 5)).drew.heap[V3.heap.size]? = some (.cells #[] 5) from by
    have h := heap_alloc_new V3 (.cells #[] 5)
    exact (Obj.old8 h _))
  have HY_EY := Lib.hid (show ((V3.alloc (.cells #[] 5)).alloc (.cells #[.int .u8 0] 5)).drew.heap[V3.heap.size + 1]? = some (.cells #[.int .u8 0] 5) from by
    have h := heap_alloc_new (V3.alloc (.cells #[] 5)) (.cells #[.int .u8 0] 5)
    rw [World.size_alloc] at h
    exact h)
  have BBEZ := Lib.hid ((((Below.refl V3.heap.size V3).alloc (Nat.le_refl _) (.cells #[] 5)).alloc (le_alloc (Nat.le_refl _) _) (.cells #[.slice none 0 0, .int .i64 0, .int .i64 0] 24)).drew)
  have HE_EZ := Lib.hid (show ((V3.alloc (.cells #[] 5)).alloc (.cells #[.slice none 0 0, .int .i64 0, .int .i64 0] 24)).drew.heap[V3.heap.size]? = some (.cells #[] 5) from by
    have h := heap_alloc_new V3 (.cells #[] 5)
    exact (Obj.old8 h _))
  have HZ_EZ := Lib.hid (show ((V3.alloc (.cells #[] 5)).alloc (.cells #[.slice none 0 0, .int .i64 0, .int .i64 0] 24)).drew.heap[V3.heap.size + 1]? = some (.cells #[.slice none 0 0, .int .i64 0, .int .i64 0] 24) from by
    have h := heap_alloc_new (V3.alloc (.cells #[] 5)) (.cells #[.slice none 0 0, .int .i64 0, .int .i64 0] 24)
    rw [World.size_alloc] at h
    exact h)
  have BBYE := Lib.hid ((((Below.refl V3.heap.size V3).alloc (Nat.le_refl _) (.cells #[.int .u8 0] 5)).alloc (le_alloc (Nat.le_refl _) _) (.cells #[] 5)).drew)
  have HY_YE := Lib.hid (show ((V3.alloc (.cells #[.int .u8 0] 5)).alloc (.cells #[] 5)).drew.heap[V3.heap.size]? = some (.cells #[.int .u8 0] 5) from by
    have h := heap_alloc_new V3 (.cells #[.int .u8 0] 5)
    exact (Obj.old8 h _))
  have HE_YE := Lib.hid (show ((V3.alloc (.cells #[.int .u8 0] 5)).alloc (.cells #[] 5)).drew.heap[V3.heap.size + 1]? = some (.cells #[] 5) from by
    have h := heap_alloc_new (V3.alloc (.cells #[.int .u8 0] 5)) (.cells #[] 5)
    rw [World.size_alloc] at h
    exact h)
  have BBYZ := Lib.hid ((((Below.refl V3.heap.size V3).alloc (Nat.le_refl _) (.cells #[.int .u8 0] 5)).alloc (le_alloc (Nat.le_refl _) _) (.cells #[.slice none 0 0, .int .i64 0, .int .i64 0] 24)).drew)
  have HY_YZ := Lib.hid (show ((V3.alloc (.cells #[.int .u8 0] 5)).alloc (.cells #[.slice none 0 0, .int .i64 0, .int .i64 0] 24)).drew.heap[V3.heap.size]? = some (.cells #[.int .u8 0] 5) from by
    have h := heap_alloc_new V3 (.cells #[.int .u8 0] 5)
    exact (Obj.old8 h _))
  have HZ_YZ := Lib.hid (show ((V3.alloc (.cells #[.int .u8 0] 5)).alloc (.cells #[.slice none 0 0, .int .i64 0, .int .i64 0] 24)).drew.heap[V3.heap.size + 1]? = some (.cells #[.slice none 0 0, .int .i64 0, .int .i64 0] 24) from by
    have h := heap_alloc_new (V3.alloc (.cells #[.int .u8 0] 5)) (.cells #[.slice none 0 0, .int .i64 0, .int .i64 0] 24)
    rw [World.size_alloc] at h
    exact h)
  have BBZE := Lib.hid ((((Below.refl V3.heap.size V3).alloc (Nat.le_refl _) (.cells #[.slice none 0 0, .int .i64 0, .int .i64 0] 24)).alloc (le_alloc (Nat.le_refl _) _) (.cells #[] 5)).drew)
  have HZ_ZE := Lib.hid (show ((V3.alloc (.cells #[.slice none 0 0, .int .i64 0, .int .i64 0] 24)).alloc (.cells #[] 5)).drew.heap[V3.heap.size]? = some (.cells #[.slice none 0 0, .int .i64 0, .int .i64 0] 24) from by
    have h := heap_alloc_new V3 (.cells #[.slice none 0 0, .int .i64 0, .int .i64 0] 24)
    exact (Obj.old8 h _))
  have HE_ZE := Lib.hid (show ((V3.alloc (.cells #[.slice none 0 0, .int .i64 0, .int .i64 0] 24)).alloc (.cells #[] 5)).drew.heap[V3.heap.size + 1]? = some (.cells #[] 5) from by
    have h := heap_alloc_new (V3.alloc (.cells #[.slice none 0 0, .int .i64 0, .int .i64 0] 24)) (.cells #[] 5)
    rw [World.size_alloc] at h
    exact h)
  have BBZY := Lib.hid ((((Below.refl V3.heap.size V3).alloc (Nat.le_refl _) (.cells #[.slice none 0 0, .int .i64 0, .int .i64 0] 24)).alloc (le_alloc (Nat.le_refl _) _) (.cells #[.int .u8 0] 5)).drew)
  have HZ_ZY := Lib.hid (show ((V3.alloc (.cells #[.slice none 0 0, .int .i64 0, .int .i64 0] 24)).alloc (.cells #[.int .u8 0] 5)).drew.heap[V3.heap.size]? = some (.cells #[.slice none 0 0, .int .i64 0, .int .i64 0] 24) from by
    have h := heap_alloc_new V3 (.cells #[.slice none 0 0, .int .i64 0, .int .i64 0] 24)
    exact (Obj.old8 h _))
  have HY_ZY := Lib.hid (show ((V3.alloc (.cells #[.slice none 0 0, .int .i64 0, .int .i64 0] 24)).alloc (.cells #[.int .u8 0] 5)).drew.heap[V3.heap.size + 1]? = some (.cells #[.int .u8 0] 5) from by
    have h := heap_alloc_new (V3.alloc (.cells #[.slice none 0 0, .int .i64 0, .int .i64 0] 24)) (.cells #[.int .u8 0] 5)
    rw [World.size_alloc] at h
    exact h)
  have BBEYZ := Lib.hid (((((Below.refl V3.heap.size V3).alloc (Nat.le_refl _) (.cells #[] 5)).alloc (le_alloc (Nat.le_refl _) _) (.cells #[.int .u8 0] 5)).alloc (le_alloc (le_alloc (Nat.le_refl _) _) _) (.cells #[.slice none 0 0, .int .i64 0, .int .i64 0] 24)).drew)
  have HE_EYZ := Lib.hid (show (((V3.alloc (.cells #[] 5)).alloc (.cells #[.int .u8 0] 5)).alloc (.cells #[.slice none 0 0, .int .i64 0, .int .i64 0] 24)).drew.heap[V3.heap.size]? = some (.cells #[] 5) from by
    have h := heap_alloc_new V3 (.cells #[] 5)
    exact (Obj.old8 (Obj.old8 h _) _))
  have HY_EYZ := Lib.hid (show (((V3.alloc (.cells #[] 5)).alloc (.cells #[.int .u8 0] 5)).alloc (.cells #[.slice none 0 0, .int .i64 0, .int .i64 0] 24)).drew.heap[V3.heap.size + 1]? = some (.cells #[.int .u8 0] 5) from by
    have h := heap_alloc_new (V3.alloc (.cells #[] 5)) (.cells #[.int .u8 0] 5)
    rw [World.size_alloc] at h
    exact (Obj.old8 h _))
  have HZ_EYZ := Lib.hid (show (((V3.alloc (.cells #[] 5)).alloc (.cells #[.int .u8 0] 5)).alloc (.cells #[.slice none 0 0, .int .i64 0, .int .i64 0] 24)).drew.heap[V3.heap.size + 1 + 1]? = some (.cells #[.slice none 0 0, .int .i64 0, .int .i64 0] 24) from by
    have h := heap_alloc_new ((V3.alloc (.cells #[] 5)).alloc (.cells #[.int .u8 0] 5)) (.cells #[.slice none 0 0, .int .i64 0, .int .i64 0] 24)
    rw [World.size_alloc, World.size_alloc] at h
    exact h)
  have BBEZY := Lib.hid (((((Below.refl V3.heap.size V3).alloc (Nat.le_refl _) (.cells #[] 5)).alloc (le_alloc (Nat.le_refl _) _) (.cells #[.slice none 0 0, .int .i64 0, .int .i64 0] 24)).alloc (le_alloc (le_alloc (Nat.le_refl _) _) _) (.cells #[.int .u8 0] 5)).drew)
  have HE_EZY := Lib.hid (show (((V3.alloc (.cells #[] 5)).alloc (.cells #[.slice none 0 0, .int .i64 0, .int .i64 0] 24)).alloc (.cells #[.int .u8 0] 5)).drew.heap[V3.heap.size]? = some (.cells #[] 5) from by
    have h := heap_alloc_new V3 (.cells #[] 5)
    exact (Obj.old8 (Obj.old8 h _) _))
  have HZ_EZY := Lib.hid (show (((V3.alloc (.cells #[] 5)).alloc (.cells #[.slice none 0 0, .int .i64 0, .int .i64 0] 24)).alloc (.cells #[.int .u8 0] 5)).drew.heap[V3.heap.size + 1]? = some (.cells #[.slice none 0 0, .int .i64 0, .int .i64 0] 24) from by
    have h := heap_alloc_new (V3.alloc (.cells #[] 5)) (.cells #[.slice none 0 0, .int .i64 0, .int .i64 0] 24)
    rw [World.size_alloc] at h
    exact (Obj.old8 h _))
  have HY_EZY := Lib.hid (show (((V3.alloc (.cells #[] 5)).alloc (.cells #[.slice none 0 0, .int .i64 0, .int .i64 0] 24)).alloc (.cells #[.int .u8 0] 5)).drew.heap[V3.heap.size + 1 + 1]? = some (.cells #[.int .u8 0] 5) from by
    have h := heap_alloc_new ((V3.alloc (.cells #[] 5)).alloc (.cells #[.slice none 0 0, .int .i64 0, .int .i64 0] 24)) (.cells #[.int .u8 0] 5)
    rw [World.size_alloc, World.size_alloc] at h
    exact h)
  have BBYEZ := Lib.hid (((((Below.refl V3.heap.size V3).alloc (Nat.le_refl _) (.cells #[.int .u8 0] 5)).alloc (le_alloc (Nat.le_refl _) _) (.cells #[] 5)).alloc (le_alloc (le_alloc (Nat.le_refl _) _) _) (.cells #[.slice none 0 0, .int .i64 0, .int .i64 0] 24)).drew)
  have HY_YEZ := Lib.hid (show (((V3.alloc (.cells #[.int .u8 0] 5)).alloc (.cells #[] 5)).alloc (.cells #[.slice none 0 0, .int .i64 0, .int .i64 0] 24)).drew.heap[V3.heap.size]? = some (.cells #[.int .u8 0] 5) from by
    have h := heap_alloc_new V3 (.cells #[.int .u8 0] 5)
    exact (Obj.old8 (Obj.old8 h _) _))
  have HE_YEZ := Lib.hid (show (((V3.alloc (.cells #[.int .u8 0] 5)).alloc (.cells #[] 5)).alloc (.cells #[.slice none 0 0, .int .i64 0, .int .i64 0] 24)).drew.heap[V3.heap.size + 1]? = some (.cells #[] 5) from by
    have h := heap_alloc_new (V3.alloc (.cells #[.int .u8 0] 5)) (.cells #[] 5)
    rw [World.size_alloc] at h
    exact (Obj.old8 h _))
  have HZ_YEZ := Lib.hid (show (((V3.alloc (.cells #[.int .u8 0] 5)).alloc (.cells #[] 5)).alloc (.cells #[.slice none 0 0, .int .i64 0, .int .i64 0] 24)).drew.heap[V3.heap.size + 1 + 1]? = some (.cells #[.slice none 0 0, .int .i64 0, .int .i64 0] 24) from by
    have h := heap_alloc_new ((V3.alloc (.cells #[.int .u8 0] 5)).alloc (.cells #[] 5)) (.cells #[.slice none 0 0, .int .i64 0, .int .i64 0] 24)
    rw [World.size_alloc, World.size_alloc] at h
    exact h)
  have BBYZE := Lib.hid (((((Below.refl V3.heap.size V3).alloc (Nat.le_refl _) (.cells #[.int .u8 0] 5)).alloc (le_alloc (Nat.le_refl _) _) (.cells #[.slice none 0 0, .int .i64 0, .int .i64 0] 24)).alloc (le_alloc (le_alloc (Nat.le_refl _) _) _) (.cells #[] 5)).drew)
  have HY_YZE := Lib.hid (show (((V3.alloc (.cells #[.int .u8 0] 5)).alloc (.cells #[.slice none 0 0, .int .i64 0, .int .i64 0] 24)).alloc (.cells #[] 5)).drew.heap[V3.heap.size]? = some (.cells #[.int .u8 0] 5) from by
    have h := heap_alloc_new V3 (.cells #[.int .u8 0] 5)
    exact (Obj.old8 (Obj.old8 h _) _))
  have HZ_YZE := Lib.hid (show (((V3.alloc (.cells #[.int .u8 0] 5)).alloc (.cells #[.slice none 0 0, .int .i64 0, .int .i64 0] 24)).alloc (.cells #[] 5)).drew.heap[V3.heap.size + 1]? = some (.cells #[.slice none 0 0, .int .i64 0, .int .i64 0] 24) from by
    have h := heap_alloc_new (V3.alloc (.cells #[.int .u8 0] 5)) (.cells #[.slice none 0 0, .int .i64 0, .int .i64 0] 24)
    rw [World.size_alloc] at h
    exact (Obj.old8 h _))
  have HE_YZE := Lib.hid (show (((V3.alloc (.cells #[.int .u8 0] 5)).alloc (.cells #[.slice none 0 0, .int .i64 0, .int .i64 0] 24)).alloc (.cells #[] 5)).drew.heap[V3.heap.size + 1 + 1]? = some (.cells #[] 5) from by
    have h := heap_alloc_new ((V3.alloc (.cells #[.int .u8 0] 5)).alloc (.cells #[.slice none 0 0, .int .i64 0, .int .i64 0] 24)) (.cells #[] 5)
    rw [World.size_alloc, World.size_alloc] at h
    exact h)
  have BBZEY := Lib.hid (((((Below.refl V3.heap.size V3).alloc (Nat.le_refl _) (.cells #[.slice none 0 0, .int .i64 0, .int .i64 0] 24)).alloc (le_alloc (Nat.le_refl _) _) (.cells #[] 5)).alloc (le_alloc (le_alloc (Nat.le_refl _) _) _) (.cells #[.int .u8 0] 5)).drew)
  have HZ_ZEY := Lib.hid (show (((V3.alloc (.cells #[.slice none 0 0, .int .i64 0, .int .i64 0] 24)).alloc (.cells #[] 5)).alloc (.cells #[.int .u8 0] 5)).drew.heap[V3.heap.size]? = some (.cells #[.slice none 0 0, .int .i64 0, .int .i64 0] 24) from by
    have h := heap_alloc_new V3 (.cells #[.slice none 0 0, .int .i64 0, .int .i64 0] 24)
    exact (Obj.old8 (Obj.old8 h _) _))
  have HE_ZEY := Lib.hid (show (((V3.alloc (.cells #[.slice none 0 0, .int .i64 0, .int .i64 0] 24)).alloc (.cells #[] 5)).alloc (.cells #[.int .u8 0] 5)).drew.heap[V3.heap.size + 1]? = some (.cells #[] 5) from by
    have h := heap_alloc_new (V3.alloc (.cells #[.slice none 0 0, .int .i64 0, .int .i64 0] 24)) (.cells #[] 5)
    rw [World.size_alloc] at h
    exact (Obj.old8 h _))
  have HY_ZEY := Lib.hid (show (((V3.alloc (.cells #[.slice none 0 0, .int .i64 0, .int .i64 0] 24)).alloc (.cells #[] 5)).alloc (.cells #[.int .u8 0] 5)).drew.heap[V3.heap.size + 1 + 1]? = some (.cells #[.int .u8 0] 5) from by
    have h := heap_alloc_new ((V3.alloc (.cells #[.slice none 0 0, .int .i64 0, .int .i64 0] 24)).alloc (.cells #[] 5)) (.cells #[.int .u8 0] 5)
    rw [World.size_alloc, World.size_alloc] at h
    exact h)
  have BBZYE := Lib.hid (((((Below.refl V3.heap.size V3).alloc (Nat.le_refl _) (.cells #[.slice none 0 0, .int .i64 0, .int .i64 0] 24)).alloc (le_alloc (Nat.le_refl _) _) (.cells #[.int .u8 0] 5)).alloc (le_alloc (le_alloc (Nat.le_refl _) _) _) (.cells #[] 5)).drew)
  have HZ_ZYE := Lib.hid (show (((V3.alloc (.cells #[.slice none 0 0, .int .i64 0, .int .i64 0] 24)).alloc (.cells #[.int .u8 0] 5)).alloc (.cells #[] 5)).drew.heap[V3.heap.size]? = some (.cells #[.slice none 0 0, .int .i64 0, .int .i64 0] 24) from by
    have h := heap_alloc_new V3 (.cells #[.slice none 0 0, .int .i64 0, .int .i64 0] 24)
    exact (Obj.old8 (Obj.old8 h _) _))
  have HY_ZYE := Lib.hid (show (((V3.alloc (.cells #[.slice none 0 0, .int .i64 0, .int .i64 0] 24)).alloc (.cells #[.int .u8 0] 5)).alloc (.cells #[] 5)).drew.heap[V3.heap.size + 1]? = some (.cells #[.int .u8 0] 5) from by
    have h := heap_alloc_new (V3.alloc (.cells #[.slice none 0 0, .int .i64 0, .int .i64 0] 24)) (.cells #[.int .u8 0] 5)
    rw [World.size_alloc] at h
    exact (Obj.old8 h _))
  have HE_ZYE := Lib.hid (show (((V3.alloc (.cells #[.slice none 0 0, .int .i64 0, .int .i64 0] 24)).alloc (.cells #[.int .u8 0] 5)).alloc (.cells #[] 5)).drew.heap[V3.heap.size + 1 + 1]? = some (.cells #[] 5) from by
    have h := heap_alloc_new ((V3.alloc (.cells #[.slice none 0 0, .int .i64 0, .int .i64 0] 24)).alloc (.cells #[.int .u8 0] 5)) (.cells #[] 5)
    rw [World.size_alloc, World.size_alloc] at h
    exact h)
  have hle1 : V3.heap.size ≤ V3.heap.size + 1 := Nat.le_succ _
  have hle2 : V3.heap.size ≤ V3.heap.size + 1 + 1 := Nat.le_add_right _ 2
  have hyne : (#[.int .u8 0] : Array Value) ≠ #[] := by simp
  have hzne : (#[.slice none 0 0, .int .i64 0, .int .i64 0] : Array Value) ≠ #[] := by simp
  have KEEP := Lib.hid (show ∀ w', Below V3.heap.size V3 w' → (Below V3.heap.size V3 w' ∧ w'.cell? ⟨g3, 0, none⟩ = some (.slice A3 0 c3) ∧ w'.cell? ⟨g3, 1, none⟩ = some (.int .i64 0) ∧ w'.cell? ⟨g3, 2, none⟩ = some (.int .i64 1)) from fun w' h => by
    obtain ⟨a0, a1', a2'⟩ := cG3 (oldG G3.out h (Nat.le_refl _))
    exact ⟨h, a0, a1', a2'⟩)
  have CG1 := Lib.hid (fun (o : Oper) (a : Act) (Kk : Act → World → Prop) (Q : Exit → Act → World → Prop) (ge : Nat) (W : World) (ho : o.op = .call { callee := .builtin .append, args := #[.tmp 21, .tmp 22], argTypes := #[22, 22] }) (h1 : a.eval (.tmp 21) = .slice (some ⟨ge, 0, none⟩) 0 0) (h2 : a.eval (.tmp 22) = .slice A1 4 c1) (h3 : W.heap[ge]? = some (.cells #[] 5 (0, 0))) (hge : V3.heap.size ≤ ge) (hbel : Below V3.heap.size V3 W) (hK : ∀ (A' : Option Addr) (c' : Nat) (w' : World), Ow w' V3.heap.size (.slice A' 4 c') [0, 2, 1, 2] → Below V3.heap.size V3 w' → (∀ (k : Nat) (c : Array Value) (t : TypeId), c ≠ #[] → W.heap[k]? = some (.cells c t (0, 0)) → w'.heap[k]? = some (.cells c t (0, 0))) → Kk (a.put o.dst (.slice A' 4 c')) w') =>
    (wp_copy8 W (.tmp 21) (.tmp 22) ge V3.heap.size A1 4 c1 [0, 2, 1, 2] ho h1 h2 h3 hge rfl (by decide) (FR.out W hbel) hbel.size (fun A' c' w' p1 p2 p3 => hK A' c' w' p1 (hbel.trans p2) p3) : o.wp Try.prog a W Kk Q))
  have CG2 := Lib.hid (fun (o : Oper) (a : Act) (Kk : Act → World → Prop) (Q : Exit → Act → World → Prop) (gy : Nat) (A : Option Addr) (c : Nat) (W : World) (ho : o.op = .call { callee := .builtin .append, args := #[.tmp 23, .tmp 24], argTypes := #[22, 22] }) (h1 : a.eval (.tmp 23) = .slice A 4 c) (h2 : a.eval (.tmp 24) = .slice (some ⟨gy, 0, none⟩) 1 1) (hown : Ow W V3.heap.size (.slice A 4 c) [0, 2, 1, 2]) (h3 : W.heap[gy]? = some (.cells #[.int .u8 0] 5 (0, 0))) (hbel : Below V3.heap.size V3 W) (hK : ∀ (A' : Option Addr) (c' : Nat) (w' : World), 5 ≤ c' → c' ≤ 9223372036854775807 → Rd w' w'.heap.size A' [0, 2, 1, 2, 0] → Below V3.heap.size V3 w' → (∀ (k : Nat) (cur : Array Value), W.heap[k]? = some (.cells cur 24 (0, 0)) → w'.heap[k]? = some (.cells cur 24 (0, 0))) → Kk (a.put o.dst (.slice A' 5 c')) w') =>
    (wp_more8 W (.tmp 23) (.tmp 24) gy V3.heap.size A 4 5 c [0, 2, 1, 2] 0 ho h1 h2 hown rfl (by decide) rfl h3 hbel.size (fun A' c' w' p1 p2 p3 p4 p5 => hK A' c' w' p1 p2 p3 (hbel.trans p4) p5) : o.wp Try.prog a W Kk Q))
  have CS := Lib.hid (fun (A : Option Addr) (c : Nat) (w : World) (hc : 5 ≤ c) (hcm : c ≤ 9223372036854775807) (hr : Rd w w.heap.size A [0, 2, 1, 2, 0]) => ex8_v A3 c3 A c w k3 hc hcm hr)
  have SP := Lib.hid p1
  have SK := Lib.hid p2
  clear p1 p2
  go_cut [5, 6] (fun v u wx => ∃ g A5 c5 A6 c6, v = .pointer (some ⟨g, 0, none⟩) ∧ u = .slice A6 1 c6 ∧ wx.heap[g]? = some (.cells #[.slice A5 1 c5, .int .i64 0, .int .i64 1] 24 (0, 0)) ∧ Rd wx wx.heap.size A5 [0] ∧ Mat wx wx.heap.size A6 [[1, 2]] ∧ Below V3.heap.size V3 wx)
  case first =>
    go_region_held3 (fun w' => Below V3.heap.size V3 w' ∧ w'.cell? ⟨g3, 0, none⟩ = some (.slice A3 0 c3) ∧ w'.cell? ⟨g3, 1, none⟩ = some (.int .i64 0) ∧ w'.cell? ⟨g3, 2, none⟩ = some (.int .i64 1))
      (first | with_reducible exact KEEP.out _ BB0.out | with_reducible exact KEEP.out _ BBE.out | with_reducible exact KEEP.out _ BBY.out | with_reducible exact KEEP.out _ BBZ.out | with_reducible exact KEEP.out _ BBEY.out | with_reducible exact KEEP.out _ BBEZ.out | with_reducible exact KEEP.out _ BBYE.out | with_reducible exact KEEP.out _ BBYZ.out | with_reducible exact KEEP.out _ BBZE.out | with_reducible exact KEEP.out _ BBZY.out | with_reducible exact KEEP.out _ BBEYZ.out | with_reducible exact KEEP.out _ BBEZY.out | with_reducible exact KEEP.out _ BBYEZ.out | with_reducible exact KEEP.out _ BBYZE.out | with_reducible exact KEEP.out _ BBZEY.out | with_reducible exact KEEP.out _ BBZYE.out | with_reducible exact KEEP.out _ BB6.out | with_reducible exact KEEP.out _ (BB6.out.alloc hs6 _) | with_reducible exact KEEP.out _ ((BB6.out.alloc hs6 _).alloc (le_alloc hs6 _) _) | with_reducible exact KEEP.out _ BB7.out | with_reducible exact KEEP.out _ (BB7.out.alloc hs7 _) | with_reducible exact KEEP.out _ BB8.out | with_reducible exact KEEP.out _ (BB8.out.alloc hs8 _) | with_reducible exact KEEP.out _ (((BB8.out.setCell (p := ⟨_, 0, none⟩) (Nat.le_refl _) _).setCell (p := ⟨_, 1, none⟩) (Nat.le_refl _) _).setCell (p := ⟨_, 2, none⟩) (Nat.le_refl _) _) | with_reducible exact KEEP.out _ (((BB8.out.setCell (p := ⟨_, 0, none⟩) hle1 _).setCell (p := ⟨_, 1, none⟩) hle1 _).setCell (p := ⟨_, 2, none⟩) hle1 _) | with_reducible exact KEEP.out _ (((BB8.out.setCell (p := ⟨_, 0, none⟩) hle2 _).setCell (p := ⟨_, 1, none⟩) hle2 _).setCell (p := ⟨_, 2, none⟩) hle2 _) | with_reducible exact KEEP.out _ (((BB8.out.setCell (p := ⟨_, 0, none⟩) hs6 _).setCell (p := ⟨_, 1, none⟩) hs6 _).setCell (p := ⟨_, 2, none⟩) hs6 _) | with_reducible exact KEEP.out _ (((BB8.out.setCell (p := ⟨_, 0, none⟩) hs61 _).setCell (p := ⟨_, 1, none⟩) hs61 _).setCell (p := ⟨_, 2, none⟩) hs61 _) | with_reducible exact KEEP.out _ (((BB8.out.setCell (p := ⟨_, 0, none⟩) hs7 _).setCell (p := ⟨_, 1, none⟩) hs7 _).setCell (p := ⟨_, 2, none⟩) hs7 _) | with_reducible exact KEEP.out _ (((BB8.out.setCell (p := ⟨_, 0, none⟩) hs8 _).setCell (p := ⟨_, 1, none⟩) hs8 _).setCell (p := ⟨_, 2, none⟩) hs8 _))
      (first
      | (rw [if_pos (by rfl)]; refine CG1.out _ _ _ _ _ _ (by rfl) (by rfl) (by rfl) ?_ ?_ ?_ ?_; (first | with_reducible exact HE_E.out | with_reducible exact HE_EY.out | with_reducible exact HE_EZ.out | with_reducible exact HE_YE.out | with_reducible exact HE_ZE.out | with_reducible exact HE_EYZ.out | with_reducible exact HE_EZY.out | with_reducible exact HE_YEZ.out | with_reducible exact HE_YZE.out | with_reducible exact HE_ZEY.out | with_reducible exact HE_ZYE.out); (first | with_reducible exact Nat.le_refl _ | with_reducible exact hle1 | with_reducible exact hle2); (first | with_reducible exact BBE.out | with_reducible exact BBEY.out | with_reducible exact BBEZ.out | with_reducible exact BBYE.out | with_reducible exact BBZE.out | with_reducible exact BBEYZ.out | with_reducible exact BBEZY.out | with_reducible exact BBYEZ.out | with_reducible exact BBYZE.out | with_reducible exact BBZEY.out | with_reducible exact BBZYE.out); intro A6 c6 w6 own6 b6 keep6; have O6 := Lib.hid own6; have BB6 := Lib.hid b6; have hs6 : V3.heap.size ≤ w6.heap.size := BB6.out.size; have hs61 : V3.heap.size ≤ w6.heap.size + 1 := Nat.le_succ_of_le hs6; (first | ((with_reducible have hx := keep6 _ _ _ hyne HY_EY.out); have Y6 := Lib.hid hx; clear hx) | ((with_reducible have hx := keep6 _ _ _ hyne HY_YE.out); have Y6 := Lib.hid hx; clear hx) | ((with_reducible have hx := keep6 _ _ _ hyne HY_EYZ.out); have Y6 := Lib.hid hx; clear hx) | ((with_reducible have hx := keep6 _ _ _ hyne HY_EZY.out); have Y6 := Lib.hid hx; clear hx) | ((with_reducible have hx := keep6 _ _ _ hyne HY_YEZ.out); have Y6 := Lib.hid hx; clear hx) | ((with_reducible have hx := keep6 _ _ _ hyne HY_YZE.out); have Y6 := Lib.hid hx; clear hx) | ((with_reducible have hx := keep6 _ _ _ hyne HY_ZEY.out); have Y6 := Lib.hid hx; clear hx) | ((with_reducible have hx := keep6 _ _ _ hyne HY_ZYE.out); have Y6 := Lib.hid hx; clear hx) | skip); (first | ((with_reducible have hx := keep6 _ _ _ hzne HZ_EZ.out); have Z6 := Lib.hid hx; clear hx) | ((with_reducible have hx := keep6 _ _ _ hzne HZ_ZE.out); have Z6 := Lib.hid hx; clear hx) | ((with_reducible have hx := keep6 _ _ _ hzne HZ_EYZ.out); have Z6 := Lib.hid hx; clear hx) | ((with_reducible have hx := keep6 _ _ _ hzne HZ_EZY.out); have Z6 := Lib.hid hx; clear hx) | ((with_reducible have hx := keep6 _ _ _ hzne HZ_YEZ.out); have Z6 := Lib.hid hx; clear hx) | ((with_reducible have hx := keep6 _ _ _ hzne HZ_YZE.out); have Z6 := Lib.hid hx; clear hx) | ((with_reducible have hx := keep6 _ _ _ hzne HZ_ZEY.out); have Z6 := Lib.hid hx; clear hx) | ((with_reducible have hx := keep6 _ _ _ hzne HZ_ZYE.out); have Z6 := Lib.hid hx; clear hx) | skip); clear own6 b6 keep6)
      | (rw [if_pos (by rfl)]; refine CG2.out _ _ _ _ _ _ _ _ (by rfl) (by rfl) (by rfl) ?_ ?_ ?_ ?_; (first | with_reducible exact O6.out | with_reducible exact Ow.alloc O6.out _ | with_reducible exact Ow.alloc (Ow.alloc O6.out _) _); (first | with_reducible exact Y6.out | with_reducible exact Obj.old8 Y6.out _ | with_reducible exact heap_alloc_new w6 _ | with_reducible exact Obj.old8 (heap_alloc_new w6 _) _ | with_reducible exact Obj.new28 w6 _ _); (first | with_reducible exact BB6.out | with_reducible exact BB6.out.alloc hs6 _ | with_reducible exact (BB6.out.alloc hs6 _).alloc (le_alloc hs6 _) _); intro A7 c7 w7 m7 x7 rd7 b7 keep7; have RD7 := Lib.hid rd7; have BB7 := Lib.hid b7; have M7 := Lib.hid m7; have X7 := Lib.hid x7; have hs7 : V3.heap.size ≤ w7.heap.size := BB7.out.size; (first | ((with_reducible have hx := keep7 _ _ Z6.out); have Z7 := Lib.hid hx; clear hx) | ((with_reducible have hx := keep7 _ _ (Obj.old8 Z6.out _)); have Z7 := Lib.hid hx; clear hx) | ((with_reducible have hx := keep7 _ _ (heap_alloc_new w6 _)); have Z7 := Lib.hid hx; clear hx) | ((with_reducible have hx := keep7 _ _ (Obj.old8 (heap_alloc_new w6 _) _)); have Z7 := Lib.hid hx; clear hx) | ((with_reducible have hx := keep7 _ _ (Obj.new28 w6 _ _)); have Z7 := Lib.hid hx; clear hx) | skip); clear rd7 b7 keep7 m7 x7)
      | (go_at_call 17; (with_reducible refine (CS.out A7 c7 _ M7.out X7.out ?_).mono ?_); (first | with_reducible exact RD7.out | with_reducible exact RD7.out.go ((Below.refl _ _).alloc (Nat.le_refl _) _)); rintro e ww8 ⟨⟨A8, c8, A9, c9, us9, rfl, r1, r2, r3⟩, hb⟩; have BB8 := Lib.hid (by first | with_reducible exact belG BB7.out hb BB7.out.size | with_reducible exact belG (BB7.out.alloc hs7 _) hb (BB7.out.alloc hs7 _).size); have hs8 : V3.heap.size ≤ ww8.heap.size := BB8.out.size; have Q1 := Lib.hid r1; have Q2 := Lib.hid r2; have Q3 := Lib.hid r3; (first | (have hz := oldG Z7.out hb (Nat.le_refl _); have Z8 := Lib.hid hz; obtain ⟨z0, z1, z2⟩ := cG3 hz; have y0 := fG hz 0; have y1 := fG hz 1; have y2 := fG hz 2; clear hz) | (have hz := oldG (g := w7.heap.size) (by exact heap_alloc_new w7 (.cells #[.slice none 0 0, .int .i64 0, .int .i64 0] 24)) hb (Nat.le_refl _); have Z8 := Lib.hid hz; obtain ⟨z0, z1, z2⟩ := cG3 hz; have y0 := fG hz 0; have y1 := fG hz 1; have y2 := fG hz 2; clear hz) | skip); clear hb r1 r2 r3))
    all_goals
      go_wp2_with fail
      go_meet
      case rel => first
        | (refine ⟨ww8.heap.size, A8, c8, A9, c9, ?_⟩; refine ⟨by with_reducible rfl, ?_⟩; exact ⟨by with_reducible rfl, heap_alloc_new ww8 _, Q1.out.go ((Below.refl _ _).alloc (Nat.le_refl _) _), RC.mat (Q3.out.go ((Below.refl _ _).alloc (Nat.le_refl _) _)) (Q2.out.go ((Below.refl _ _).alloc (Nat.le_refl _) _)), BB8.out.alloc hs8 _⟩)
        | (refine ⟨V3.heap.size, A8, c8, A9, c9, ?_⟩; refine ⟨by with_reducible rfl, ?_⟩; exact box_end Q1.out Q2.out Q3.out Z8.out BB8.out (Nat.le_refl _))
        | (refine ⟨V3.heap.size + 1, A8, c8, A9, c9, ?_⟩; refine ⟨by with_reducible rfl, ?_⟩; exact box_end Q1.out Q2.out Q3.out Z8.out BB8.out hle1)
        | (refine ⟨V3.heap.size + 1 + 1, A8, c8, A9, c9, ?_⟩; refine ⟨by with_reducible rfl, ?_⟩; exact box_end Q1.out Q2.out Q3.out Z8.out BB8.out hle2)
        | (refine ⟨w6.heap.size, A8, c8, A9, c9, ?_⟩; refine ⟨by with_reducible rfl, ?_⟩; exact box_end Q1.out Q2.out Q3.out Z8.out BB8.out hs6)
        | (refine ⟨w6.heap.size + 1, A8, c8, A9, c9, ?_⟩; refine ⟨by with_reducible rfl, ?_⟩; exact box_end Q1.out Q2.out Q3.out Z8.out BB8.out hs61)
        | (refine ⟨w7.heap.size, A8, c8, A9, c9, ?_⟩; refine ⟨by with_reducible rfl, ?_⟩; exact box_end Q1.out Q2.out Q3.out Z8.out BB8.out hs7)
  case rest =>
  obtain ⟨g4, A5, c5, A6, c6, rfl, rfl, hg, hr5, hm6, hB⟩ := hcut
  obtain ⟨V4, hV4⟩ : ∃ x, x = wc := ⟨_, rfl⟩
  rw [← hV4] at hg hr5 hm6 hB
  rw [← hV4]
  have R5 := Lib.hid hr5
  have M6 := Lib.hid hm6
  have G4 := Lib.hid hg
  have nHB := Lib.hid (belG HB.out hB HB.out.size)
  have nR1 := Lib.hid (R1.out.go hB)
  have nG3 := Lib.hid (oldG G3.out hB (Nat.le_refl _))
  clear hV4 hg hr5 hm6 hB BB0 KEEP F1 FR R1 G3 HB CG1 CG2 CS hle1 hle2 hyne hzne SP SK BBE BBY BBZ BBEY BBEZ BBYE BBYZ BBZE BBZY BBEYZ BBEZY BBYEZ BBYZE BBZEY BBZYE HE_E HY_Y HZ_Z HE_EY HY_EY HE_EZ HZ_EZ HY_YE HE_YE HY_YZ HZ_YZ HZ_ZE HE_ZE HZ_ZY HY_ZY HE_EYZ HY_EYZ HZ_EYZ HE_EZY HZ_EZY HY_EZY HY_YEZ HE_YEZ HZ_YEZ HY_YZE HZ_YZE HE_YZE HZ_ZEY HE_ZEY HY_ZEY HZ_ZYE HY_ZYE HE_ZYE
  have HB := nHB
  have R1 := nR1
  have G3 := nG3
  clear nHB nR1 nG3
  go_wp2_with fail
  refine (ex8_h A1 c1 _ R1.out).mono ?_
  rintro e w10 ⟨rfl, hb⟩
  have nHB := Lib.hid (belG HB.out hb HB.out.size)
  have nR1 := Lib.hid ((R1.out.below hb (Nat.le_refl _)).more hb.size)
  have nR5 := Lib.hid ((R5.out.below hb (Nat.le_refl _)).more hb.size)
  have nM6 := Lib.hid ((M6.out.below hb (Nat.le_refl _)).more hb.size)
  have nG3 := Lib.hid (oldG G3.out hb (Nat.le_refl _))
  have nG4 := Lib.hid (oldG G4.out hb (Nat.le_refl _))
  clear hb
  clear HB R1 R5 M6 G3 G4
  have HB := nHB
  have R1 := nR1
  have R5 := nR5
  have M6 := nM6
  have G3 := nG3
  have G4 := nG4
  clear nHB nR1 nR5 nM6 nG3 nG4
  obtain ⟨b9, o9, rfl, hb9, hrow9⟩ := M6.out (by simp)
  obtain ⟨AA, cA, hcell, -, -, hrA⟩ := hrow9 0 (by simp)
  simp only [List.getElem_cons_zero, Nat.add_zero, List.length_cons, List.length_nil, Nat.zero_add, Nat.reduceAdd] at hcell hrA
  have RA := Lib.hid hrA
  clear hrA hrow9 hb9
  obtain ⟨g3x, g3y, g3z⟩ := cG3 G3.out
  go_wp2_with fail
  clear g3x g3y g3z
  clear hcell M6
  have hn := HB.out.alloc HB.out.size (.cells #[.int .u8 1, .int .u8 2] 5)
  have ha := (Below.refl w10.heap.size w10).alloc (Nat.le_refl _) (.cells #[.int .u8 1, .int .u8 2] 5)
  refine (ex8_s AA cA _ RA.out).mono ?_
  rintro e w11 ⟨rfl, hb⟩
  have nHB := Lib.hid (belG hn hb hn.size)
  have hb2 := belG ha hb ha.size
  clear hn ha
  have nR1 := Lib.hid ((R1.out.below hb2 (Nat.le_refl _)).more hb2.size)
  have nR5 := Lib.hid ((R5.out.below hb2 (Nat.le_refl _)).more hb2.size)
  have nRA := Lib.hid ((RA.out.below hb2 (Nat.le_refl _)).more hb2.size)
  have nG3 := Lib.hid (oldG G3.out hb2 (Nat.le_refl _))
  have nG4 := Lib.hid (oldG G4.out hb2 (Nat.le_refl _))
  clear hb hb2
  clear HB R1 R5 RA G3 G4
  have HB := nHB
  have R1 := nR1
  have R5 := nR5
  have RA := nRA
  have G3 := nG3
  have G4 := nG4
  clear nHB nR1 nR5 nRA nG3 nG4
  obtain ⟨g4x, g4y, g4z⟩ := cG3 G4.out
  go_wp2_with fail
  clear g4x g4y g4z
  refine (ex8_r A5 c5 _ R5.out).mono ?_
  rintro e w12 ⟨rfl, hb⟩
  have nHB := Lib.hid (belG HB.out hb HB.out.size)
  have nR1 := Lib.hid ((R1.out.below hb (Nat.le_refl _)).more hb.size)
  have nR5 := Lib.hid ((R5.out.below hb (Nat.le_refl _)).more hb.size)
  have nRA := Lib.hid ((RA.out.below hb (Nat.le_refl _)).more hb.size)
  have nG3 := Lib.hid (oldG G3.out hb (Nat.le_refl _))
  have nG4 := Lib.hid (oldG G4.out hb (Nat.le_refl _))
  clear hb
  clear HB R1 R5 RA G3 G4
  have HB := nHB
  have R1 := nR1
  have R5 := nR5
  have RA := nRA
  have G3 := nG3
  have G4 := nG4
  clear nHB nR1 nR5 nRA nG3 nG4
  go_wp2_with fail
  refine (ex8_q _).mono ?_
  rintro e w13 ⟨rfl, hb⟩
  have nHB := Lib.hid (belG HB.out hb HB.out.size)
  have nR1 := Lib.hid ((R1.out.below hb (Nat.le_refl _)).more hb.size)
  have nR5 := Lib.hid ((R5.out.below hb (Nat.le_refl _)).more hb.size)
  have nRA := Lib.hid ((RA.out.below hb (Nat.le_refl _)).more hb.size)
  have nG3 := Lib.hid (oldG G3.out hb (Nat.le_refl _))
  have nG4 := Lib.hid (oldG G4.out hb (Nat.le_refl _))
  clear hb
  clear HB R1 R5 RA G3 G4
  have HB := nHB
  have R1 := nR1
  have R5 := nR5
  have RA := nRA
  have G3 := nG3
  have G4 := nG4
  clear nHB nR1 nR5 nRA nG3 nG4
  obtain ⟨g4x, g4y, g4z⟩ := cG3 G4.out
  go_wp2_with fail
  clear g4x g4y g4z
  refine (ex8_m A5 A5 c5 c5 _ R5.out R5.out).mono ?_
  rintro e w14 ⟨rfl, hb⟩
  have nHB := Lib.hid (belG HB.out hb HB.out.size)
  have nR1 := Lib.hid ((R1.out.below hb (Nat.le_refl _)).more hb.size)
  have nR5 := Lib.hid ((R5.out.below hb (Nat.le_refl _)).more hb.size)
  have nRA := Lib.hid ((RA.out.below hb (Nat.le_refl _)).more hb.size)
  have nG3 := Lib.hid (oldG G3.out hb (Nat.le_refl _))
  have nG4 := Lib.hid (oldG G4.out hb (Nat.le_refl _))
  clear hb
  clear HB R1 R5 RA G3 G4
  have HB := nHB
  have R1 := nR1
  have R5 := nR5
  have RA := nRA
  have G3 := nG3
  have G4 := nG4
  clear nHB nR1 nR5 nRA nG3 nG4
  obtain ⟨g3x, g3y, g3z⟩ := cG3 G3.out
  obtain ⟨g4x, g4y, g4z⟩ := cG3 G4.out
  go_wp2_with fail
  clear g3x g3y g3z g4x g4y g4z
  refine (ex8_n A3 A5 c3 c5 _ R5.out).mono ?_
  rintro e w15 ⟨rfl, hb⟩
  have nHB := Lib.hid (belG HB.out hb HB.out.size)
  have nR1 := Lib.hid ((R1.out.below hb (Nat.le_refl _)).more hb.size)
  have nR5 := Lib.hid ((R5.out.below hb (Nat.le_refl _)).more hb.size)
  have nRA := Lib.hid ((RA.out.below hb (Nat.le_refl _)).more hb.size)
  have nG3 := Lib.hid (oldG G3.out hb (Nat.le_refl _))
  have nG4 := Lib.hid (oldG G4.out hb (Nat.le_refl _))
  clear hb
  clear HB R1 R5 RA G3 G4
  have HB := nHB
  have R1 := nR1
  have R5 := nR5
  have RA := nRA
  have G3 := nG3
  have G4 := nG4
  clear nHB nR1 nR5 nRA nG3 nG4
  go_wp2_with fail
  go_ret
  exact ⟨by first | rfl | simp, HB.out⟩
end Go.Proofs.Ytcableacihkggaa
