
/- The document's Hex, and Same: what later stages ask of them. -/
import Derived.Test.YtcfncbbdlbdbnaaDoorBytes
import Derived.Deep.RegionLaw
import Derived.Deep.DeepMust
namespace Go.Proofs.YtcfncbbdlbdbnaaDoor
open Go.RowKit

def sgn (n : Nat) : UInt8 := if n < 10 then UInt8.ofNat (48 + n) else UInt8.ofNat (87 + n)
def hx (l : List UInt8) : List UInt8 := l.flatMap fun b => [sgn (b.toNat / 16), sgn (b.toNat % 16)]
theorem hx_length (l : List UInt8) : (hx l).length = 2 * l.length := by
  induction l with
  | nil => rfl
  | cons a l ih => simp only [hx, List.flatMap_cons, List.length_append, List.length_cons, List.length_nil] at ih ⊢; omega
theorem take_snoc (l : List UInt8) (k : Nat) (h : k < l.length) : l.take (k + 1) = l.take k ++ [l[k]] := by
  rw [List.take_succ_eq_append_getElem h]
set_option maxRecDepth 100000 in
theorem hx_snoc (l : List UInt8) (c : UInt8) : hx (l ++ [c]) = hx l ++ [sgn (c.toNat / 16), sgn (c.toNat % 16)] := by
  simp [hx]
theorem sgn_nat (v : Nat) (h : v < 16) : (sgn v).toNat = if v < 10 then 48 + v else 87 + v := by
  unfold sgn
  split <;> rw [UInt8.toNat_ofNat'] <;> omega
set_option maxRecDepth 100000 in
theorem same_any (A B : Option Addr) (la lb : List UInt8) (ca cb BA BB : Nat) (w : World) (ha : Rd w BA A la) (hb : Rd w BB B lb) :
    Calls Tryd.prog 16 #[.slice A la.length ca, .slice B lb.length cb] w fun e w' => e = .returned (.bool (decide (la = lb))) ∧ w = w' := by
  have h1 := run_str (P := Tryd.prog) ha ca _ _ _ Tryd.underlying25 Tryd.underlying5 Tryd.underlying9
  have h2 := run_str (P := Tryd.prog) hb cb _ _ _ Tryd.underlying25 Tryd.underlying5 Tryd.underlying9
  go_enter Tryd.func16, Tryd.ntmps16
  go_wp2
  go_ret
  refine ⟨?_, rfl⟩
  simp
  rw [Bool.eq_iff_iff]; simp
set_option maxRecDepth 100000 in
theorem same_sl (v1 v2 : Value) (la lb : List UInt8) (w : World) (ha : Sl w v1 la) (hb : Sl w v2 lb) :
    Calls Tryd.prog 16 #[v1, v2] w fun e w' => e = .returned (.bool (decide (la = lb))) ∧ w = w' := by
  obtain ⟨A, ca, rfl, _, _, h1⟩ := ha
  obtain ⟨B, cb, rfl, _, _, h2⟩ := hb
  exact same_any A B la lb ca cb _ _ w h1 h2
end Go.Proofs.YtcfncbbdlbdbnaaDoor
