
/- The document's answers (slot): New, Take. -/
import Derived.Test.YtfppcmhhbheaiaaDoorJ19
namespace Go.Proofs.YtfppcmhhbheaiaaDoor
open Go.RowKit

def wt0 : Wt := ⟨(none, 0), (none, 0)⟩
def sr0 : Sr := ⟨[], []⟩
set_option maxRecDepth 100000 in
theorem stR0 (w : World) : StR w wt0 sr0 := ⟨keyB0 w, keyB0 w⟩
/-- a call's answer: a store; a store and two numbers -/
def AnsSt (W' : World) (e : Ending) (s : Sr) : Prop := ∃ x, e = .returned (.agg (storC x s)) ∧ StR W' x s
def AnsSt3 (W' : World) (e : Ending) (s : Sr) (n m : Int) : Prop := ∃ x, e = .returned (.tuple #[.agg (storC x s), .int .i64 n, .int .i64 m]) ∧ StR W' x s
set_option maxRecDepth 100000 in
theorem bxZS (W : World) : ∃ V, V = W.alloc (.cells #[.slice none 0 0, .slice none 0 0] 24) ∧ Below W.heap.size W V ∧ BxS V W.heap.size wt0 sr0 := bx1 W 24 (storC wt0 sr0)
set_option maxRecDepth 100000 in
theorem zero_made (w : World) : KeyB (w.alloc (.cells (madeCells #[.int .u8 0] 16) 5)) (some ⟨w.heap.size, 0, none⟩, 16) zero16 := by
  have hrow := World.rowIs_made w (.int .u8 0) 16 5
  obtain ⟨A, c, h1, h2, h3, h4⟩ := Sl.row (l := zero16) hrow (by decide) (by decide) (fun j hj => by
    have e : zero16[j] = 0 := by show (List.replicate 16 (0 : UInt8))[j] = 0; exact List.getElem_replicate _
    rw [e]; rfl)
  simp only [Value.slice.injEq] at h1
  obtain ⟨rfl, -, rfl⟩ := h1
  exact ⟨h2, h3, h4⟩
set_option maxRecDepth 100000 in
theorem store_eq {x : Wt} {s : Sr} {A B : Option Addr} {n m c d : Nat} (h1 : x.a = (A, c)) (h2 : x.b = (B, d)) (h3 : s.a.length = n) (h4 : s.b.length = m) : Value.agg #[.slice A n c, .slice B m d] = .agg (storC x s) := by
  unfold storC; rw [h1, h2, h3, h4]
set_option maxRecDepth 100000 in
set_option maxHeartbeats 4000000 in
theorem new13_any (W : World) : Calls Tryd.prog 17 #[] W fun e W' => AnsSt W' e newS ∧ Below W.heap.size W W' := by
  obtain ⟨V, hV, hb, hg⟩ := bxZS W
  have HB := Lib.hid hb
  have HV := Lib.hid hV
  have J := Lib.hid hg
  have CR := Lib.hid (fun w => record13_any 1 w)
  rw [show recordS 1 = (recL 1, 0) from by unfold recordS; rw [if_pos ⟨by decide, by decide⟩]] at CR
  have hmk : ∀ w : World, (Instr.makeSlice 22 (.int .i64 16) (.int .i64 16)).run Tryd.prog w = .ok (.slice (some ⟨w.heap.size, 0, none⟩) 16 16) (w.alloc (.cells (madeCells #[.int .u8 0] 16) 5)) := fun w => run_make_row' (P := Tryd.prog) 22 5 (.int .u8 0) 1 Tryd.underlying22 info5 rfl .i64 .i64 16 (by omega) (by omega) w
  clear hV hb hg
  go_enter Tryd.func17, Tryd.ntmps17
  go_upto_region 1 with (fail)
  rw [← HV.out]
  clear HV
  go_wp2_with fail
  refine (CR.out _).mono ?_
  rintro e w1 ⟨⟨v1, rfl, how⟩, hb⟩
  have HB1 := Lib.hid (belG HB.out hb HB.out.size)
  have J1 := Lib.hid (Bx.go J.out hb)
  obtain ⟨⟨A1, c1⟩, rfl, hk⟩ := how.keyB
  have ha := (Below.refl w1.heap.size w1).alloc (Nat.le_refl _) (.cells (madeCells #[.int .u8 0] 16) 5)
  have K1 := Lib.hid (hk.go ha)
  have KZ := Lib.hid (zero_made w1)
  have HB2 := Lib.hid (belG HB1.out ha HB1.out.size)
  have J2 := Lib.hid (Bx.go J1.out ha)
  clear how hb hk ha HB J HB1 J1
  dsimp only
  rw [recL_len]
  go_wp2_with (refine storeX (.tmp 0) (.tmp 9) W.heap.size (storC ⟨(A1, c1), (some ⟨w1.heap.size, 0, none⟩, 16)⟩ newS) _ tyStore rfl (storC_one _ _) J2.out rfl rfl rfl rfl (store_eq rfl rfl (recL_len 1) rfl) ?_)
  (try dsimp only)
  refine bodyPost_ret (retX1 rfl _ _ W.heap.size (storC ⟨(A1, c1), (some ⟨w1.heap.size, 0, none⟩, 16)⟩ newS) tyStore rfl rfl (Bx.setRow J2.out _)) rfl ?_
  exact ⟨⟨_, rfl, StR.setRow (x := ⟨(A1, c1), (some ⟨w1.heap.size, 0, none⟩, 16)⟩) ⟨K1.out, KZ.out⟩ J2.out (no8_stor _ _)⟩, Below.setRowG HB2.out (Nat.le_refl _) _⟩
end Go.Proofs.YtfppcmhhbheaiaaDoor
