
/- Steps in memory (RingKeeps' argument), opened. -/
import Derived.Test.YtgnccfcdonoegaaRgT
import Derived.Test.YtgnccfcdonoegaaJ13
namespace Go.Proofs.Ytgnccfcdonoegaa
open Go.ChangeShapes Go.WideShapes Go.ChangeAt Go.RowKit

structure Stp where
  kd : Nat
  no : Int
  fill : UInt8
/-- a row of steps -/
def Steps (w : World) (B : Nat) (A : Option Addr) (ls : List Stp) : Prop :=
  0 < ls.length → ∃ b o, A = some ⟨b, o, none⟩ ∧ b < B ∧ ∀ j (h : j < ls.length), w.cell? ⟨b, o + j * 3, none⟩ = some (.int .u8 (ls[j].kd : Nat)) ∧ w.cell? ⟨b, o + j * 3 + 1, none⟩ = some (.int .i64 ls[j].no) ∧ w.cell? ⟨b, o + j * 3 + 2, none⟩ = some (.int .u8 (ls[j].fill.toNat : Nat)) ∧ ls[j].kd < 256 ∧ B64r ls[j].no
set_option maxRecDepth 100000 in
theorem steps_in {H : Type} {enc : TypeId × Value → H} {W : World} {base fuel : Nat} {spare : Nat → Bool} {held : Bool} {a : Option Addr} {n c : Nat} {y : DataW H × List MemPlace}
    (hf : DataW.trod enc Try.prog W base spare held fuel 51 [.slice a n c] = some y) : ∃ ls : List Stp, n = ls.length ∧ ls.length ≤ c ∧ c ≤ 9223372036854775807 ∧ Steps W W.heap.size a ls := by
  rcases Go.Deep.open_slice Try.underlying51 hf with ⟨hcs, _⟩ | ⟨x, len, cap, m, k, D, Pl, hcs, hb, hl, hm, hmm, _, hrow⟩
  · simp at hcs
    obtain ⟨rfl, rfl, rfl⟩ := hcs
    exact ⟨[], rfl, by simp, by omega, fun h => absurd h (by simp)⟩
  · simp at hcs
    obtain ⟨rfl, rfl, rfl⟩ := hcs
    have hnm : n ≤ m := by rw [hmm]; split <;> omega
    have ce : Try.prog.cellsOf 56 = 3 := by kernel_rfl
    have c1 : Try.prog.cellsOf 5 = 1 := by kernel_rfl
    have c2 : Try.prog.cellsOf 3 = 1 := by kernel_rfl
    rw [ce] at hrow
    have each : ∀ j, j < n → ∃ q : Stp, W.cell? (x.add (j * 3)) = some (.int .u8 (q.kd : Nat)) ∧ W.cell? (x.add (j * 3 + 1)) = some (.int .i64 q.no) ∧ W.cell? (x.add (j * 3 + 2)) = some (.int .u8 (q.fill.toNat : Nat)) ∧ q.kd < 256 ∧ B64r q.no := by
      intro j hj
      obtain ⟨cs', h1, h2⟩ := hrow j (by omega)
      obtain ⟨_, hlen, hcell⟩ := World.cells?_some h1
      obtain ⟨xs, k', hk, hxy, _, hxl, hel⟩ := DataW.trod_struct Try.underlying56 h2
      have k0 : DataW.trod enc Try.prog W base spare held k' 5 ((cs'.drop 0).take (Try.prog.cellsOf 5)) = xs[0]? := hel 0 _ rfl
      have k1 : DataW.trod enc Try.prog W base spare held k' 3 ((cs'.drop 1).take (Try.prog.cellsOf 3)) = xs[1]? := hel 1 _ rfl
      have k2 : DataW.trod enc Try.prog W base spare held k' 5 ((cs'.drop 2).take (Try.prog.cellsOf 5)) = xs[2]? := hel 2 _ rfl
      rw [c1] at k0 k2
      rw [c2] at k1
      have hxl3 : xs.length = 3 := hxl
      rw [List.getElem?_eq_getElem (by omega)] at k0 k1 k2
      match cs', hlen, hcell, k0, k1, k2 with
      | [v0, v1, v2], _, hcell, k0, k1, k2 =>
        have e0 := hcell 0 (by omega)
        have e1 := hcell 1 (by omega)
        have e2 := hcell 2 (by omega)
        rw [Go.Deep.add_add] at e0 e1 e2
        obtain ⟨z0, f0, -, w0⟩ := DataW.trod_int Try.underlying5 k0
        obtain ⟨z1, f1, -, w1⟩ := DataW.trod_int Try.underlying3 k1
        obtain ⟨z2, f2, -, w2⟩ := DataW.trod_int Try.underlying5 k2
        have g0 : [v0] = [Value.int .u8 z0] := f0
        have g1 : [v1] = [Value.int .i64 z1] := f1
        have g2 : [v2] = [Value.int .u8 z2] := f2
        simp only [List.cons.injEq, and_true] at g0 g1 g2
        subst g0 g1 g2
        have b0 := u8_bd w0
        have b2 := u8_bd w2
        refine ⟨⟨z0.toNat, z1, UInt8.ofNat z2.toNat⟩, ?_, by simpa using e1, ?_, by show z0.toNat < 256; omega, i64_bd w1⟩
        · rw [show ((z0.toNat : Nat) : Int) = z0 by omega]; simpa using e0
        · rw [show ((UInt8.ofNat z2.toNat).toNat : Int) = z2 by rw [UInt8.toNat_ofNat']; omega]; simpa using e2
    haveI : Inhabited Stp := ⟨⟨0, 0, 0⟩⟩
    obtain ⟨f, hfe⟩ := Go.Deep.choose_lt each
    refine ⟨(List.range n).map f, by simp, by simpa using hl, by simpa [maxLen] using hm, fun h0 => ?_⟩
    have h0' : 0 < n := by simpa using h0
    obtain ⟨b, o, spot⟩ := x
    obtain ⟨hc0, _⟩ := hfe 0 h0'
    have hspot : spot = none := by simpa [Addr.add] using World.cell?_spot hc0
    subst hspot
    refine ⟨b, o, rfl, World.block_lt_of_cell? W ⟨b, o, none⟩ (by simpa [Addr.add] using hc0), fun j hj => ?_⟩
    have hj' : j < n := by simpa using hj
    obtain ⟨e0, e1, e2, p1, p2⟩ := hfe j hj'
    rw [Addr.add_lit] at e0 e1 e2
    have hg : ((List.range n).map f)[j] = f j := by simp
    rw [hg]
    exact ⟨e0, e1, e2, p1, p2⟩
end Go.Proofs.Ytgnccfcdonoegaa
