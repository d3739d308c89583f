
/- left: a connection of two hubs, the same. -/
import Derived.Test.YtplekllhnpljiaaJ30
namespace Go.Proofs.Ytplekllhnpljiaa
open Go.RowKit

set_option maxRecDepth 100000 in
set_option maxHeartbeats 4000000 in
theorem left_any (x y : Wh) (h r : Hb) (k : Nat) (W : World) (hlt : k < 4) (hu : h.up k = r.up k) (hl : h.life k = r.life k) (hf : h.fd k = r.fd k) (hn : h.next = r.next) (hr : HubR W x h) (hs : HubR W y r) :
    Calls Try.prog 25 #[.agg (hubC x h), .agg (hubC y r), .int .i64 (k : Nat)] W fun e W' => e = .returned (.bool true) ∧ Below W.heap.size W W' := by
  obtain ⟨V, C, D, hC, hD, hV, hb, hg, hg2⟩ := boxH2 W x y h r
  have HB := Lib.hid hb
  have HV := Lib.hid hV
  have HG := Lib.hid hg
  have HJ := Lib.hid hg2
  have HR := Lib.hid (hr.go hb)
  have HS := Lib.hid (hs.go hb)
  rw [← hC, ← hD]
  have hki : (k : Int) < 4 := by omega
  have hk0 : (0 : Int) ≤ (k : Int) := Int.natCast_nonneg _
  have CS := Lib.hid (fun w (hb : Below V.heap.size V w) => (show Calls Try.prog 27 #[.agg #[slH x h k, .int .i64 (h.fd k).skip, .int .i64 (h.fd k).bad], .agg #[slH y r k, .int .i64 (r.fd k).skip, .int .i64 (r.fd k).bad]] w fun e W' => e = .returned (.bool true) ∧ Below w.heap.size w W' from by
    have h9 := refSame8_any (x k).1 (y k).1 (h.fd k).buf (r.fd k).buf (x k).2 (y k).2 (h.fd k).skip (h.fd k).bad (r.fd k).skip (r.fd k).bad w ((HR.out k hlt).2.2.go hb) ((HS.out k hlt).2.2.go hb)
    rw [decide_eq_true (by rw [hf]; exact ⟨rfl, rfl, rfl⟩)] at h9
    exact h9))
  have KEEP := Lib.hid (fun w' (hb : Below V.heap.size V w') => (show Below V.heap.size V w' ∧ w'.cell? ⟨W.heap.size, 4 + k * 3, none⟩ = some (slH x h k) ∧ w'.cell? ⟨W.heap.size, 4 + k * 3 + 1, none⟩ = some (.int .i64 (h.fd k).skip) ∧ w'.cell? ⟨W.heap.size, 4 + k * 3 + 2, none⟩ = some (.int .i64 (h.fd k).bad) ∧ w'.cell? ⟨W.heap.size + 1, 4 + k * 3, none⟩ = some (slH y r k) ∧ w'.cell? ⟨W.heap.size + 1, 4 + k * 3 + 1, none⟩ = some (.int .i64 (r.fd k).skip) ∧ w'.cell? ⟨W.heap.size + 1, 4 + k * 3 + 2, none⟩ = some (.int .i64 (r.fd k).bad) ∧ w'.cell? ⟨W.heap.size, k, none⟩ = some (.bool (h.up k)) ∧ w'.cell? ⟨W.heap.size + 1, k, none⟩ = some (.bool (h.up k)) ∧ w'.cell? ⟨W.heap.size, 16 + k, none⟩ = some (.int .i64 (h.life k)) ∧ w'.cell? ⟨W.heap.size + 1, 16 + k, none⟩ = some (.int .i64 (h.life k)) ∧ w'.cell? ⟨W.heap.size, 20, none⟩ = some (.int .i64 h.next) ∧ w'.cell? ⟨W.heap.size + 1, 20, none⟩ = some (.int .i64 h.next) from
    ⟨hb, (HG.out.old hb (Nat.le_refl _)).cell (hubC_buf x h hlt), (HG.out.old hb (Nat.le_refl _)).cell (hubC_skip x h hlt), (HG.out.old hb (Nat.le_refl _)).cell (hubC_bad x h hlt), (HJ.out.old hb (Nat.le_refl _)).cell (hubC_buf y r hlt), (HJ.out.old hb (Nat.le_refl _)).cell (hubC_skip y r hlt), (HJ.out.old hb (Nat.le_refl _)).cell (hubC_bad y r hlt),
      (HG.out.old hb (Nat.le_refl _)).cell (hubC_up x h hlt), ((HJ.out.old hb (Nat.le_refl _)).cell (hubC_up y r hlt)).trans (by rw [hu]), (HG.out.old hb (Nat.le_refl _)).cell (hubC_life x h hlt), ((HJ.out.old hb (Nat.le_refl _)).cell (hubC_life y r hlt)).trans (by rw [hl]), (HG.out.old hb (Nat.le_refl _)).cell (hubC_next x h), ((HJ.out.old hb (Nat.le_refl _)).cell (hubC_next y r)).trans (by rw [hn])⟩))
  have BB0 := Lib.hid ((Below.refl V.heap.size V).drew)
  clear hg hg2 hb hC hD hV hr hs hu hl hf hn
  generalize slH x h k = s1 at *
  generalize slH y r k = s2 at *
  generalize (h.fd k).skip = a1 at *
  generalize (h.fd k).bad = a2 at *
  generalize (r.fd k).skip = a3 at *
  generalize (r.fd k).bad = a4 at *
  generalize h.up k = u at *
  generalize h.life k = lf at *
  generalize h.next = nx at *
  have e1 : (lf == lf) = true := by simp
  have e2 : (nx == nx) = true := by simp
  have e3 : (u == u) = true := by simp
  go_enter Try.func25, Try.ntmps25
  go_upto_region 1 with (fail)
  rw [← HV.out]
  clear HV HG HJ HR HS
  go_wp2_with fail
  go_region_held3 (fun w' => Below V.heap.size V w' ∧ w'.cell? ⟨W.heap.size, 4 + k * 3, none⟩ = some s1 ∧ w'.cell? ⟨W.heap.size, 4 + k * 3 + 1, none⟩ = some (.int .i64 a1) ∧ w'.cell? ⟨W.heap.size, 4 + k * 3 + 2, none⟩ = some (.int .i64 a2) ∧ w'.cell? ⟨W.heap.size + 1, 4 + k * 3, none⟩ = some s2 ∧ w'.cell? ⟨W.heap.size + 1, 4 + k * 3 + 1, none⟩ = some (.int .i64 a3) ∧ w'.cell? ⟨W.heap.size + 1, 4 + k * 3 + 2, none⟩ = some (.int .i64 a4) ∧ w'.cell? ⟨W.heap.size, k, none⟩ = some (.bool u) ∧ w'.cell? ⟨W.heap.size + 1, k, none⟩ = some (.bool u) ∧ w'.cell? ⟨W.heap.size, 16 + k, none⟩ = some (.int .i64 lf) ∧ w'.cell? ⟨W.heap.size + 1, 16 + k, none⟩ = some (.int .i64 lf) ∧ w'.cell? ⟨W.heap.size, 20, none⟩ = some (.int .i64 nx) ∧ w'.cell? ⟨W.heap.size + 1, 20, none⟩ = some (.int .i64 nx))
    (first | with_reducible exact KEEP.out _ BB0.out | with_reducible exact KEEP.out _ BB1.out)
    (first
    | (go_at_call 27; (with_reducible refine (CS.out _ BB0.out).mono ?_); rintro e wz ⟨rfl, hb⟩; have BB1 := Lib.hid (belG BB0.out hb BB0.out.size); clear hb))
  go_wp2_with fail
  go_ret
  exact ⟨by first | rfl | simp, belG HB.out BB1.out HB.out.size⟩
end Go.Proofs.Ytplekllhnpljiaa
