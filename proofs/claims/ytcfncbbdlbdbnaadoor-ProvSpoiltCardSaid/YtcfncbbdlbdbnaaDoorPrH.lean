
/- A provider in a variable: its three cells; prov.New, prov.cut. -/
import Derived.Test.YtcfncbbdlbdbnaaDoorPrG
import Derived.Test.YtcfncbbdlbdbnaaDoorPrD
import Derived.Test.YtcfncbbdlbdbnaaDoorMacC
import Derived.Test.YtcfncbbdlbdbnaaDoorMacE
namespace Go.Proofs.YtcfncbbdlbdbnaaDoor
open Go.RowKit

/-- a provider's cells -/
abbrev pcs (i : Bool) (A : Option Addr) (n c : Nat) (f : Bool) : Array Value := #[.bool i, .slice A n c, .bool f]
abbrev pv (i : Bool) (A : Option Addr) (n c : Nat) (f : Bool) : Value := .agg (pcs i A n c f)
theorem cells3 {w : World} {g : Nat} {x y z : Value} {t : TypeId} {fr : Nat × Nat} (h : w.heap[g]? = some (.cells #[x, y, z] t fr)) :
    w.cell? ⟨g, 0, none⟩ = some x ∧ w.cell? ⟨g, 1, none⟩ = some y ∧ w.cell? ⟨g, 2, none⟩ = some z :=
  have hcl : ∀ j v, (#[x, y, z] : Array Value)[j]? = some v → w.cell? ⟨g, j, none⟩ = some v := fun _j _v h' => (cell_of_row _ _ _ _ _ _ h).trans h'
  ⟨hcl 0 _ rfl, hcl 1 _ rfl, hcl 2 _ rfl⟩
theorem frozen3 {w : World} {g : Nat} {t : TypeId} {c : Array Value} (h : w.heap[g]? = some (.cells c t (0, 0))) : w.frozen? ⟨g, 0, none⟩ = false ∧ w.frozen? ⟨g, 1, none⟩ = false ∧ w.frozen? ⟨g, 2, none⟩ = false :=
  have hf := fun j => frozen_of_row w g j _ _ h
  ⟨hf 0, hf 1, hf 2⟩
/-- three stores, one behind the other -/
def set3 (w : World) (g : Nat) (x y z : Value) : World := ((w.setCell ⟨g, 0, none⟩ x).setCell ⟨g, 1, none⟩ y).setCell ⟨g, 2, none⟩ z
theorem set3_same {w : World} {g : Nat} {t : TypeId} {a b c : Value} (x y z : Value) (h : w.heap[g]? = some (.cells #[a, b, c] t (0, 0))) : (set3 w g x y z).heap[g]? = some (.cells #[x, y, z] t (0, 0)) := by
  have h0 := heap_setCell_same w g 0 _ t x h
  have h1 := heap_setCell_same _ g 1 _ t y h0
  have h2 := heap_setCell_same _ g 2 _ t z h1
  unfold set3
  rw [h2]
  simp only [List.setIfInBounds_toArray, List.set_cons_zero, List.set_cons_succ]
theorem set3_other {w : World} {g k : Nat} (x y z : Value) (h : k ≠ g) : (set3 w g x y z).heap[k]? = w.heap[k]? := by
  unfold set3
  rw [heap_setCell_other _ _ _ _ h, heap_setCell_other _ _ _ _ h, heap_setCell_other _ _ _ _ h]
theorem Below.set3 {B : Nat} {a w : World} (h : Below B a w) {g : Nat} (hg : B ≤ g) (x y z : Value) : Below B a (set3 w g x y z) :=
  ((h.setCell (p := ⟨g, 0, none⟩) hg _).setCell (p := ⟨g, 1, none⟩) hg _).setCell (p := ⟨g, 2, none⟩) hg _
theorem far3 {w : World} {g b j : Nat} {x0 x1 x2 u : Value} (h : w.cell? ⟨b, j, none⟩ = some u) (hb : b ≠ g) :
    (((w.setCell ⟨g, 0, none⟩ x0).setCell ⟨g, 1, none⟩ x1).setCell ⟨g, 2, none⟩ x2).cell? ⟨b, j, none⟩ = some u := by
  rw [far hb, far hb, far hb]
  exact h
/-- what is answered is a provider in a block of its own -/
theorem ret3 {fn : Func} {p : Tmp} (h : fn.results = #[.cell p 24]) (tmps : Array Value) (W : World) (g : Nat) (x y z : Value) (hp : tmps.getD p undef = .pointer (some ⟨g, 0, none⟩)) (hg : W.heap[g]? = some (.cells #[x, y, z] 24 (0, 0))) :
    (results fn tmps).run Tryd.prog W = .ok (.agg #[x, y, z]) W :=
  results_cell_row h tmps W g 24 #[x, y, z] (0, 0) _ hp hg Tryd.underlying24 rfl (by kernel_rfl)

/-- a provider in a block of its own, and a value -/
theorem ret3t {fn : Func} {p q : Tmp} (h : fn.results = #[.cell p 24, .tmp q]) (tmps : Array Value) (W : World) (g : Nat) (x y z v : Value) (hp : tmps.getD p undef = .pointer (some ⟨g, 0, none⟩)) (hq : tmps.getD q undef = v) (hg : W.heap[g]? = some (.cells #[x, y, z] 24 (0, 0))) :
    (results fn tmps).run Tryd.prog W = .ok (.tuple #[.agg #[x, y, z], v]) W := by
  have hp' : tmps[p]?.getD undef = .pointer (some ⟨g, 0, none⟩) := by simpa using hp
  have hq' : tmps[q]?.getD undef = v := by simpa using hq
  simp [results, h, hp', hq', asAddr, run_loadVar_row W g 24 24 #[x, y, z] (0, 0) _ hg Tryd.underlying24 rfl (by kernel_rfl)]

/-! ### what lies in a block of bytes, or of entries, does not lie in a provider's block -/
theorem Rd.apart {W W' : World} {B g : Nat} {A : Option Addr} {l : List UInt8} {cur : Array Value} {t : TypeId} {fr : Nat × Nat} (h : Rd W B A l) (hg : W.heap[g]? = some (.cells cur t fr)) (hno : ∀ (j : Nat) (m : Int), cur[j]? ≠ some (.int .u8 m))
    (hk : ∀ k, k ≠ g → W'.heap[k]? = W.heap[k]?) : Rd W' B A l := by
  intro h0
  obtain ⟨b, o, e, hb, hc⟩ := h h0
  have hbg : b ≠ g := by
    rintro rfl
    have h1 := hc 0 h0
    rw [cell_of_row W b _ _ _ _ hg] at h1
    exact hno _ _ h1
  refine ⟨b, o, e, hb, fun j hj => ?_⟩
  rw [World.cell?_of_block (w := W) (a := ⟨b, o + j, none⟩) (hk b hbg)]
  exact hc j hj
theorem Tab.apart {W W' : World} {B g : Nat} {A : Option Addr} {l : List Pr} {cur : Array Value} {t : TypeId} {fr : Nat × Nat} (h : Tab W B A l) (hg : W.heap[g]? = some (.cells cur t fr)) (hno : ∀ (j : Nat) (m : Int), cur[j]? ≠ some (.int .u8 m))
    (hns : ∀ (j : Nat) A n c A' n' c', cur[j]? = some (.slice A n c) → cur[j + 1]? ≠ some (.slice A' n' c')) (hk : ∀ k, k ≠ g → W'.heap[k]? = W.heap[k]?) : Tab W' B A l := by
  intro h0
  obtain ⟨b, o, e, hb, hc⟩ := h h0
  have hbg : b ≠ g := by
    rintro rfl
    obtain ⟨A1, c1, A2, c2, f1, f2, _⟩ := hc 0 h0
    rw [cell_of_row W b _ _ _ _ hg] at f1 f2
    exact hns _ _ _ _ _ _ _ f1 f2
  refine ⟨b, o, e, hb, fun j hj => ?_⟩
  obtain ⟨A1, c1, A2, c2, f1, f2, f3, f4, f5, f6, f7, f8⟩ := hc j hj
  refine ⟨A1, c1, A2, c2, ?_, ?_, f3, f4, f5, f6, f7.apart hg hno hk, f8.apart hg hno hk⟩
  · rw [World.cell?_of_block (w := W) (a := ⟨b, o + j * 2, none⟩) (hk b hbg)]; exact f1
  · rw [World.cell?_of_block (w := W) (a := ⟨b, o + j * 2 + 1, none⟩) (hk b hbg)]; exact f2
theorem pcs_no {i f : Bool} {A : Option Addr} {n c : Nat} : ∀ (j : Nat) (m : Int), (pcs i A n c f)[j]? ≠ some (.int .u8 m)
  | 0, m => by simp
  | 1, m => by simp
  | 2, m => by simp
  | j + 3, m => by simp
theorem pcs_ns {i f : Bool} {A : Option Addr} {n c : Nat} : ∀ (j : Nat) A1 n1 c1 A' n' c', (pcs i A n c f)[j]? = some (.slice A1 n1 c1) → (pcs i A n c f)[j + 1]? ≠ some (.slice A' n' c')
  | 0, _, _, _, _, _, _ => by simp
  | 1, _, _, _, _, _, _ => by simp
  | 2, _, _, _, _, _, _ => by simp
  | j + 3, _, _, _, _, _, _ => by simp
theorem Rd.set3 {W : World} {B g : Nat} {A X : Option Addr} {l : List UInt8} {i f : Bool} {n c : Nat} {t : TypeId} {fr : Nat × Nat} (h : Rd W B A l) (hg : W.heap[g]? = some (.cells (pcs i X n c f) t fr)) (x y z : Value) : Rd (set3 W g x y z) B A l :=
  h.apart hg pcs_no fun _ hk => set3_other x y z hk
theorem Tab.set3 {W : World} {B g : Nat} {A X : Option Addr} {l : List Pr} {i f : Bool} {n c : Nat} {t : TypeId} {fr : Nat × Nat} (h : Tab W B A l) (hg : W.heap[g]? = some (.cells (pcs i X n c f) t fr)) (x y z : Value) : Tab (set3 W g x y z) B A l :=
  h.apart hg pcs_no pcs_ns fun _ hk => set3_other x y z hk
theorem Tab.setCell {W : World} {B g q : Nat} {A X : Option Addr} {l : List Pr} {i f : Bool} {n c : Nat} {t : TypeId} {fr : Nat × Nat} (h : Tab W B A l) (hg : W.heap[g]? = some (.cells (pcs i X n c f) t fr)) (x : Value) : Tab (W.setCell ⟨g, q, none⟩ x) B A l :=
  h.apart hg pcs_no pcs_ns fun _ hk => heap_setCell_other _ _ _ _ hk
theorem set3_size (W : World) (g : Nat) (x y z : Value) : (set3 W g x y z).heap.size = W.heap.size := by
  unfold set3
  simp [World.setCell]

/-! ### New, cut -/
set_option maxRecDepth 100000 in
theorem new4_any (i : Bool) (w : World) : Calls Tryd.prog 20 #[.bool i] w fun e w' => e = .returned (.agg #[.bool i, .slice none 0 0, .bool false]) ∧ Below w.heap.size w w' := by
  have hf3 := fold3
  go_enter Tryd.func20, Tryd.ntmps20
  go_wp2
  (try simp only [Exit.inBlock, Exit.then])
  refine bodyPost_ret (ret3 rfl _ _ w.heap.size _ _ _ rfl (heap_alloc_new w _)) rfl ?_
  exact ⟨rfl, (Below.refl _ _).alloc (Nat.le_refl _) _⟩

/-- a tag's first 16 bytes -/
def cutF (k b : List UInt8) : List UInt8 := (tagF k b).take 16
theorem cutF_length (k b : List UInt8) : (cutF k b).length = 16 := by unfold cutF; rw [List.length_take, tagF_length]; rfl
theorem rd16 {w : World} {B : Nat} {A : Option Addr} {l : List UInt8} (h : Rd w B A l) (hl : 16 ≤ l.length) : Rd w B A (l.take 16) := by
  intro h0
  obtain ⟨b, o, e, hb, hc⟩ := h (by omega)
  refine ⟨b, o, e, hb, fun j hj => ?_⟩
  rw [hc j (by rw [List.length_take] at hj; omega), List.getElem_take]

set_option maxRecDepth 100000 in
set_option maxHeartbeats 1000000 in
theorem cut4_any (K B : Option Addr) (k b : List UInt8) (kc bc : Nat) (w : World) (hkl : k.length ≤ 100000) (hbl : b.length ≤ 90000) (hkc : k.length ≤ kc) (hbc : b.length ≤ bc) (hr : Rd w w.heap.size K k) (hs : Rd w w.heap.size B b) (hk : Ks w) :
    Calls Tryd.prog 25 #[.slice K k.length kc, .slice B b.length bc] w fun e w' => AnsB w' e (cutF k b) 16 ∧ Below w.heap.size w w' := by
  have C := Lib.hid (tag_any K B k b kc bc w hkl hbl hkc hbc hr hs hk)
  have HTL := Lib.hid (tagF_length k b)
  have HE := Lib.hid (show cutF k b = (tagF k b).take 16 from rfl)
  rw [HE.out]
  generalize tagF k b = T at *
  generalize k.length = n at *
  generalize b.length = m at *
  clear hr hs hk hkl hbl hkc hbc
  go_enter Tryd.func25, Tryd.ntmps25
  go_wp2_with fail
  refine C.out.mono ?_
  rintro e w1 ⟨⟨A1, c1, rfl, h1, h2, h3⟩, hb1⟩
  have HR := Lib.hid (rd16 h3 (by rw [HTL.out]; omega))
  have HB := Lib.hid hb1
  have h1i : (16 : Int) ≤ (c1 : Int) := by omega
  clear h3 hb1 C
  go_wp2_with fail
  go_ret
  exact ⟨⟨A1, 16, rfl, by omega, by omega, HR.out⟩, HB.out⟩
end Go.Proofs.YtcfncbbdlbdbnaaDoor
