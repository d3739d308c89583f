
/- sha.Sum, sha.Of. -/
import Derived.Test.YtplekllhnpljiaaJ20
import Derived.Laws.MakeOwn
namespace Go.Proofs.Ytplekllhnpljiaa
open Go.RowKit

/-- a call's answer: one slice that reads as l -/
def AnsB (W' : World) (e : Ending) (l : List UInt8) (n : Nat) : Prop := ∃ A c, e = .returned (.slice A n c) ∧ n ≤ c ∧ c ≤ 9223372036854775807 ∧ Rd W' W'.heap.size A l
set_option maxRecDepth 100000 in
theorem newsL (w : World) (l : List UInt8) (C : Array Value) (hC : C = (cs l).toArray) : ∀ j u, (cs l)[j]? = some u → (w.alloc (.cells C 5)).cell? ((⟨w.heap.size, 0, none⟩ : Addr).add j) = some u := by
  subst hC
  intro j u hu
  rw [Addr.add_lit, Nat.zero_add, cell_of_row _ _ _ _ _ _ (heap_alloc_new w _)]
  simpa using hu
set_option maxRecDepth 100000 in
theorem word8_vals (x : UInt32) : (#[.int .u8 ((x.toNat : Int) / 16777216 % 256), .int .u8 ((x.toNat : Int) / 65536 % 256), .int .u8 ((x.toNat : Int) / 256 % 256), .int .u8 ((x.toNat : Int) % 256)] : Array Value) = (cs (word8 x)).toArray := by
  have h := x.toNat_lt
  unfold cs word8
  simp only [List.map_cons, List.map_nil, UInt8.toNat_ofNat']
  have e1 : (((x.toNat / 16777216) % 2 ^ 8 : Nat) : Int) = (x.toNat : Int) / 16777216 % 256 := by omega
  have e2 : (((x.toNat / 65536) % 2 ^ 8 : Nat) : Int) = (x.toNat : Int) / 65536 % 256 := by omega
  have e3 : (((x.toNat / 256) % 2 ^ 8 : Nat) : Int) = (x.toNat : Int) / 256 % 256 := by omega
  have e4 : (((x.toNat) % 2 ^ 8 : Nat) : Int) = (x.toNat : Int) % 256 := by omega
  rw [e1, e2, e3, e4]
set_option maxRecDepth 100000 in
theorem list_length (s : St) : s.list.length = 8 := rfl
set_option maxRecDepth 100000 in
theorem bytes_snoc (s : St) (k : Nat) (h : k < 8) : (s.list.take (k + 1)).flatMap word8 = (s.list.take k).flatMap word8 ++ word8 (s.at k) := by
  have e : s.list.take (k + 1) = s.list.take k ++ [s.at k] := by
    rw [List.take_succ_eq_append_getElem (by rw [list_length]; exact h)]
    unfold St.at
    rw [List.getD_eq_getElem?_getD, List.getElem?_eq_getElem (by rw [list_length]; exact h)]
    rfl
  rw [e, List.flatMap_append]
  simp
set_option maxRecDepth 100000 in
theorem word8_length (x : UInt32) : (word8 x).length = 4 := rfl
set_option maxRecDepth 100000 in
theorem take_bytes_length (s : St) (k : Nat) (h : k ≤ 8) : ((s.list.take k).flatMap word8).length = 4 * k := by
  rw [List.length_flatMap]
  have : (List.map (fun x => (word8 x).length) (s.list.take k)) = List.replicate k 4 := by
    rw [List.eq_replicate_iff]
    constructor
    · rw [List.length_map, List.length_take, list_length]; omega
    · intro b hb
      obtain ⟨x, _, rfl⟩ := List.mem_map.1 hb
      rfl
  rw [this]
  simp
  omega
set_option maxRecDepth 100000 in
theorem own_bytes {w : World} {base : Nat} {v : Value} {X : St} (h : Ow w base v ((X.list.take 8).flatMap word8)) : ∃ A c, v = .slice A 32 c ∧ 32 ≤ c ∧ c ≤ 9223372036854775807 ∧ Rd w w.heap.size A X.bytes := by
  have hS := h.form
  rw [take_bytes_length X 8 (by omega)] at hS
  exact hS
end Go.Proofs.Ytplekllhnpljiaa
/- sha.Of, sha.Key, sha.Right. -/

namespace Go.Proofs.Ytplekllhnpljiaa
open Go.RowKit

set_option maxRecDepth 100000 in
theorem left_small (l : List UInt8) : (left l).length ≤ 63 := by rw [left_length]; omega

end Go.Proofs.Ytplekllhnpljiaa
/- mac, plain: a key's block, tags; mac.Block. -/

namespace Go.Proofs.Ytplekllhnpljiaa
open Go.RowKit

/-- a key's block -/
def blkK (l : List UInt8) : List UInt8 := (if 64 < l.length then ofF l else l) ++ List.replicate (64 - (if 64 < l.length then ofF l else l).length) 0
def xorL (x : UInt8) (l : List UInt8) : List UInt8 := l.map (· ^^^ x)
/-- a tag -/
def tagF (k b : List UInt8) : List UInt8 := ofF (xorL 92 (blkK k) ++ ofF (xorL 54 (blkK k) ++ b))
set_option maxRecDepth 100000 in
theorem ofF_len (l : List UInt8) : (ofF l).length = 32 := by
  unfold ofF sumF
  exact take_bytes_length _ 8 (by omega)
set_option maxRecDepth 100000 in
theorem blkK_length (l : List UInt8) : (blkK l).length = 64 := by
  unfold blkK
  rw [List.length_append, List.length_replicate]
  split
  · rw [ofF_len]
  · omega
set_option maxRecDepth 100000 in
theorem xorL_length (x : UInt8) (l : List UInt8) : (xorL x l).length = l.length := by unfold xorL; rw [List.length_map]
set_option maxRecDepth 100000 in
theorem tagF_length (k b : List UInt8) : (tagF k b).length = 32 := ofF_len _

set_option maxRecDepth 100000 in
theorem row_cs {w : World} {b n : Nat} {t : TypeId} {f : Nat → Value} {L : List UInt8} (h : w.rowIs b t n f) (hn : L.length = n) (hf : ∀ j (hj : j < L.length), f j = .int .u8 (L[j].toNat : Int)) :
    w.heap[b]? = some (.cells (cs L).toArray t (0, 0)) := by
  obtain ⟨c, hb, hc, hg⟩ := h
  rw [hb]
  congr 2
  apply Array.ext_getElem?
  intro i
  by_cases hi : i < n
  · rw [hg i hi, List.getElem?_toArray, cs_get L i (by omega), hf i (by omega)]
  · rw [Array.getElem?_eq_none (by omega), Array.getElem?_eq_none (by simp [cs_length]; omega)]
set_option maxRecDepth 100000 in
theorem cs_row {w : World} {b : Nat} {t : TypeId} {L : List UInt8} (h : w.heap[b]? = some (.cells (cs L).toArray t (0, 0))) : w.rowIs b t L.length (fun j => .int .u8 ((L.getD j 0).toNat : Int)) :=
  ⟨_, h, by simp [cs_length], fun j hj => by
    show _ = some (Value.int .u8 ((L.getD j 0).toNat : Int))
    rw [List.getElem?_toArray, cs_get L j hj, List.getD_eq_getElem?_getD, List.getElem?_eq_getElem hj]; rfl⟩
/-- a call's answer: 64 bytes in a block of its own -/
def AnsK (B : Nat) (W' : World) (e : Ending) (L : List UInt8) : Prop := ∃ g, e = .returned (.slice (some ⟨g, 0, none⟩) 64 64) ∧ W'.heap[g]? = some (.cells (cs L).toArray 5 (0, 0)) ∧ B ≤ g
set_option maxRecDepth 100000 in
theorem pad64 (l : List UInt8) (h : l.length ≤ 64) : spl (List.replicate 64 0) 0 l = l ++ List.replicate (64 - l.length) 0 := by
  unfold spl
  rw [List.take_zero, List.nil_append, List.drop_replicate]
  congr 2
  omega

end Go.Proofs.Ytplekllhnpljiaa
/- mac.Tag's closure, mac.behind. -/

namespace Go.Proofs.Ytplekllhnpljiaa
open Go.RowKit

set_option maxRecDepth 100000 in
theorem b_xor (a b : UInt8) : bits .xor .u8 (a.toNat : Int) (b.toNat : Int) = ((a ^^^ b).toNat : Int) := by
  rw [u8_xor_nat _ _ a.toNat_lt b.toNat_lt, UInt8.toNat_xor]
set_option maxRecDepth 100000 in
theorem b_or (a b : UInt8) : bits .or .u8 (a.toNat : Int) (b.toNat : Int) = ((a ||| b).toNat : Int) := by
  rw [u8_or_nat _ _ a.toNat_lt b.toNat_lt, UInt8.toNat_or]
def xat (x : UInt8) (l : List UInt8) (k j : Nat) : Value := .int .u8 ((if j < k then l.getD j 0 ^^^ x else 0).toNat : Int)
set_option maxRecDepth 100000 in
theorem xat_next (x : UInt8) (l : List UInt8) (k j : Nat) : xat x l (k + 1) j = if j = k then .int .u8 ((l.getD k 0 ^^^ x).toNat : Int) else xat x l k j := by
  unfold xat
  by_cases h : j = k
  · subst h; rw [if_pos (by omega), if_pos rfl]
  · rw [if_neg h]
    by_cases h2 : j < k
    · rw [if_pos h2, if_pos (by omega)]
    · rw [if_neg h2, if_neg (by omega)]
set_option maxRecDepth 100000 in
theorem xat_all (x : UInt8) (l : List UInt8) (n : Nat) (hn : l.length = n) : ∀ j (hj : j < (xorL x l).length), xat x l n j = .int .u8 ((xorL x l)[j].toNat : Int) := by
  intro j hj
  have hj' : j < l.length := by rw [xorL_length] at hj; exact hj
  have e : (xorL x l)[j] = l[j] ^^^ x := by simp only [xorL, List.getElem_map]
  unfold xat
  rw [e, if_pos (by omega), List.getD_eq_getElem?_getD, List.getElem?_eq_getElem hj']
  rfl

end Go.Proofs.Ytplekllhnpljiaa
