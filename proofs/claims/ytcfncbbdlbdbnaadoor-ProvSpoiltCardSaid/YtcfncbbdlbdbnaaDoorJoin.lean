
/- sha.join, sha.own, sha.ending. -/
import Derived.Test.YtcfncbbdlbdbnaaDoorBlock
import Derived.Laws.CopyOwn
namespace Go.Proofs.YtcfncbbdlbdbnaaDoor
open Go.RowKit

theorem madeB (n : Nat) : madeCells #[Value.int .u8 0] n = (cs (List.replicate n 0)).toArray := by
  apply Array.ext_getElem?
  intro i
  by_cases hi : i < n
  · simp [madeCells, cs, hi, Nat.mod_one]
  · simp [madeCells, cs, hi]
/-- one row of bytes laid over another -/
def spl (L : List UInt8) (off : Nat) (l : List UInt8) : List UInt8 := L.take off ++ (l ++ L.drop (off + l.length))
theorem cs_spl (L : List UInt8) (off : Nat) (l : List UInt8) : cs (spl L off l) = splice (cs L) off (cs l) := by
  unfold spl splice cs
  rw [List.map_append, List.map_append, List.map_take, List.map_drop, List.length_map]
/-- a call's answer: one slice that reads as l -/
def Ans1 (B : Nat) (W' : World) (e : Ending) (l : List UInt8) (n : Nat) : Prop := ∃ A c, e = .returned (.slice A n c) ∧ n ≤ c ∧ c ≤ 9223372036854775807 ∧ Rd W' W'.heap.size A l ∧ ∀ p, A = some p → B ≤ p.block ∧ p.block < W'.heap.size
/-- a block that holds just these bytes -/
theorem Rd.block {w : World} {g : Nat} {l : List UInt8} {fr : Nat × Nat} (h : w.heap[g]? = some (.cells (cs l).toArray 5 fr)) : Rd w w.heap.size (some ⟨g, 0, none⟩) l := fun _ =>
  ⟨g, 0, rfl, (Array.getElem?_eq_some_iff.1 h).1, fun j hj => by
    rw [Nat.zero_add, cell_of_row _ _ _ _ _ _ h]
    simpa using cs_get l j hj⟩
theorem spl_length (L : List UInt8) (off : Nat) (l : List UInt8) (h : off + l.length ≤ L.length) : (spl L off l).length = L.length := by
  unfold spl
  rw [List.length_append, List.length_append, List.length_take, List.length_drop]
  omega
theorem copyB {ops : Array Oper} {rest : List Oper} {o : Oper} {a : Act} {Q : Exit → Act → World → Prop} (W : World) (d s : Operand) (g off : Nat) (cur l : List UInt8) (dp A : Option Addr) (dLen dCap sCap n : Nat)
    (hgd : o.guard = none) (ho : o.op = .call { callee := .builtin .copy, args := #[d, s], argTypes := #[25, 25] }) (hd : a.eval d = .slice dp dLen dCap) (hs : a.eval s = .slice A n sCap)
    (hg : W.heap[g]? = some (.cells (cs cur).toArray 5 (0, 0))) (hn : n = l.length) (hfit : off + l.length ≤ cur.length) (hdl : l.length ≤ dLen) (hdp : 0 < l.length → dp = some ⟨g, off, none⟩) (hr : Rd W W.heap.size A l)
    (B : Nat) (w0 : World) (hb : Below B w0 W) (hBg : B ≤ g)
    (h : ∀ w', Hid (w'.heap[g]? = some (.cells (cs (spl cur off l)).toArray 5 (0, 0))) → Below B w0 w' → wpList Tryd.prog ops Q rest (a.put o.dst (goInt l.length)) w') : wpList Tryd.prog ops Q (o :: rest) a W := by
  subst hn
  refine wpList_copy_splice hgd d s 25 25 ho 5 Tryd.underlying25 (by kernel_rfl) dp A dLen dCap l.length sCap hd hs g off (cs cur) 5 hg (cs l) (by rw [cs_length]; exact (Nat.min_eq_left hdl).symm) ?_ (by rw [cs_length, cs_length]; exact hfit) (cs_one l) B w0 hb hBg ?_
  · intro h0
    rw [cs_length] at h0
    obtain ⟨b, o, rfl, hbb, hc⟩ := hr h0
    refine ⟨hdp h0, _, rfl, fun j v hv => ?_⟩
    have hj : j < l.length := by
      have := (List.getElem?_eq_some_iff.1 hv).1
      simpa [cs] using this
    rw [cs_get l j hj] at hv
    rw [Addr.add_lit, hc j hj]
    exact hv
  · intro w' h1 h2
    rw [cs_length]
    exact h w' (by rw [cs_spl]; exact h1) h2

set_option maxRecDepth 100000 in
set_option maxHeartbeats 1000000 in
theorem join_any (A C : Option Addr) (l m : List UInt8) (c d : Nat) (w : World) (hl : l.length + m.length ≤ 1000000) (hr : Rd w w.heap.size A l) (hs : Rd w w.heap.size C m) :
    Calls Tryd.prog 55 #[.slice A l.length c, .slice C m.length d] w fun e w' => Ans1 w.heap.size w' e (l ++ m) (l.length + m.length) ∧ Below w.heap.size w w' := by
  obtain ⟨i0, hi, hz0, hz1, hz2⟩ := info_parts info5
  have HR := Lib.hid hr
  have HS := Lib.hid hs
  obtain ⟨n, hn⟩ : ∃ n, n = l.length := ⟨_, rfl⟩
  obtain ⟨k, hk⟩ : ∃ k, k = m.length := ⟨_, rfl⟩
  have HN := Lib.hid hn
  have HK := Lib.hid hk
  have hnk : n + k ≤ 1000000 := by omega
  rw [← hn, ← hk]
  clear hr hs hl hn hk
  go_enter Tryd.func55, Tryd.ntmps55
  have hm : (w.alloc (.cells (madeCells #[.int .u8 0] (n + k)) 5)).heap[w.heap.size]? = some (.cells (cs (List.replicate (n + k) 0)).toArray 5 (0, 0)) := by
    rw [madeB]; exact heap_alloc_new _ _
  have hb0 : Below w.heap.size w (w.alloc (.cells (madeCells #[.int .u8 0] (n + k)) 5)) := (Below.refl _ _).alloc (Nat.le_refl _) _
  have HM := Lib.hid hm
  have HB0 := Lib.hid hb0
  have e1 : n ≤ n + k := Nat.le_add_right _ _
  have HE := Lib.hid (show spl (spl (List.replicate (n + k) 0) 0 l) n m = l ++ m by
    have h1 : spl (List.replicate (n + k) 0) 0 l = l ++ List.replicate k 0 := by
      unfold spl
      rw [List.take_zero, List.nil_append, List.drop_replicate]
      congr 2
      have := HN.out
      omega
    rw [h1]
    unfold spl
    have := HN.out
    have := HK.out
    rw [List.take_append_of_le_length (by omega), List.take_of_length_le (by omega), List.drop_append, List.drop_of_length_le (by omega)]
    simp
    omega)
  clear hm hb0
  rcases Nat.eq_zero_or_pos k with hk0 | hk0'
  · subst hk0
    go_wp2_with (first
      | (at_make; refine wpList_make_row w rfl (.tmp 10) (.tmp 10) 25 rfl 5 i0 (.int .u8 0) Tryd.underlying25 hi hz0 hz1 rfl .i64 .i64 (n + 0) rfl rfl (by rw [hz2]; omega) (by omega) ?_; generalize w.alloc (.cells (madeCells #[.int .u8 0] (n + 0)) 5) = W1 at *)
      | (refine copyB W1 (.tmp 12) (.tmp 13) w.heap.size 0 _ l (some ⟨w.heap.size, 0, none⟩) A (n + 0) (n + 0) c n (by rfl) (by rfl) (by rfl) (by rfl) HM.out HN.out (by rw [List.length_replicate]; have := HN.out; omega) (by have := HN.out; omega) (fun _ => rfl) (HR.out.below HB0.out (Nat.le_refl _) |>.more HB0.out.size) w.heap.size w HB0.out (Nat.le_refl _) ?_; intro W2 HM2 hb2; have HB2 := Lib.hid hb2; clear hb2)
      | (refine copyB W2 (.tmp 18) (.tmp 19) w.heap.size n _ m (some ⟨w.heap.size, 0, none⟩) C 0 0 d 0 (by rfl) (by rfl) (by rfl) (by rfl) HM2.out HK.out (by rw [spl_length _ _ _ (by rw [List.length_replicate]; have := HN.out; omega), List.length_replicate]; have := HK.out; omega) (by have := HK.out; omega) (fun h => by first | rfl | (have := HK.out; omega)) (HS.out.below HB2.out (Nat.le_refl _) |>.more HB2.out.size) w.heap.size w HB2.out (Nat.le_refl _) ?_; intro W3 HM3 hb3; have HB3 := Lib.hid hb3; clear hb3))
    go_ret
    have h3 := HM3.out
    rw [HE.out] at h3
    exact ⟨⟨_, _, rfl, by have := HN.out; have := HK.out; omega, by omega, Rd.block h3, fun p hp => by cases hp; exact ⟨Nat.le_refl _, (Array.getElem?_eq_some_iff.1 h3).1⟩⟩, HB3.out⟩
  · have hk0 : ¬ k = 0 := by omega
    clear hk0'
    go_wp2_with (first
      | (at_make; refine wpList_make_row w rfl (.tmp 10) (.tmp 10) 25 rfl 5 i0 (.int .u8 0) Tryd.underlying25 hi hz0 hz1 rfl .i64 .i64 (n + k) rfl rfl (by rw [hz2]; omega) (by omega) ?_; generalize w.alloc (.cells (madeCells #[.int .u8 0] (n + k)) 5) = W1 at *)
      | (refine copyB W1 (.tmp 12) (.tmp 13) w.heap.size 0 _ l (some ⟨w.heap.size, 0, none⟩) A (n + k) (n + k) c n (by rfl) (by rfl) (by rfl) (by rfl) HM.out HN.out (by rw [List.length_replicate]; have := HN.out; omega) (by have := HN.out; omega) (fun _ => rfl) (HR.out.below HB0.out (Nat.le_refl _) |>.more HB0.out.size) w.heap.size w HB0.out (Nat.le_refl _) ?_; intro W2 HM2 hb2; have HB2 := Lib.hid hb2; clear hb2)
      | (refine copyB W2 (.tmp 18) (.tmp 19) w.heap.size n _ m (some ⟨w.heap.size, n, none⟩) C k k d k (by rfl) (by rfl) (by rfl) (by rfl) HM2.out HK.out (by rw [spl_length _ _ _ (by rw [List.length_replicate]; have := HN.out; omega), List.length_replicate]; have := HK.out; omega) (by have := HK.out; omega) (fun h => by first | rfl | (have := HK.out; omega)) (HS.out.below HB2.out (Nat.le_refl _) |>.more HB2.out.size) w.heap.size w HB2.out (Nat.le_refl _) ?_; intro W3 HM3 hb3; have HB3 := Lib.hid hb3; clear hb3)
      | (refine copyB W2 (.tmp 18) (.tmp 19) w.heap.size n _ m (some ⟨w.heap.size, 0, none⟩) C 0 0 d 0 (by rfl) (by rfl) (by rfl) (by rfl) HM2.out HK.out (by rw [spl_length _ _ _ (by rw [List.length_replicate]; have := HN.out; omega), List.length_replicate]; have := HK.out; omega) (by have := HK.out; omega) (fun h => by first | rfl | (have := HK.out; omega)) (HS.out.below HB2.out (Nat.le_refl _) |>.more HB2.out.size) w.heap.size w HB2.out (Nat.le_refl _) ?_; intro W3 HM3 hb3; have HB3 := Lib.hid hb3; clear hb3))
    go_ret
    have h3 := HM3.out
    rw [HE.out] at h3
    exact ⟨⟨_, _, rfl, by have := HN.out; have := HK.out; omega, by omega, Rd.block h3, fun p hp => by cases hp; exact ⟨Nat.le_refl _, (Array.getElem?_eq_some_iff.1 h3).1⟩⟩, HB3.out⟩

set_option maxRecDepth 100000 in
theorem own_any (A : Option Addr) (l : List UInt8) (c : Nat) (w : World) (hl : l.length ≤ 1000000) (hr : Rd w w.heap.size A l) :
    Calls Tryd.prog 57 #[.slice A l.length c] w fun e w' => Ans1 w.heap.size w' e l l.length ∧ Below w.heap.size w w' := by
  have HJ := Lib.hid (fun W h => join_any A none l [] c 0 W (by simpa using hl) h Rd.nil)
  have HR := Lib.hid hr
  clear hr
  go_enter Tryd.func57, Tryd.ntmps57
  go_wp2_with fail
  refine (HJ.out _ HR.out).mono ?_
  rintro e w1 ⟨⟨A1, c1, rfl, h1, h2, h3, h4⟩, hb⟩
  rw [List.append_nil] at h3
  have H3 := Lib.hid h3
  have H4 := Lib.hid h4
  clear h3 h4
  go_wp2_with fail
  go_ret
  exact ⟨⟨A1, c1, rfl, by simpa using h1, h2, H3.out, H4.out⟩, hb⟩
end Go.Proofs.YtcfncbbdlbdbnaaDoor
