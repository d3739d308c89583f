/- yettlaw02.prime, times, root. -/
import Derived.Test.YtggbcjfcnphenaaDoorKPlain
import Derived.Test.YtggbcjfcnphenaaDoorSParts
import Derived.BigQuiet
import Derived.Deep.QuietTactic
namespace Go.Proofs.YtggbcjfcnphenaaDoor
open Go.RowKit

/-! ### prime -/
set_option maxRecDepth 100000 in
theorem prime_any (n : Nat) (w : World) (h2 : 2 ≤ n) (hn : n ≤ 1000) :
    Calls Tryd.prog 28 #[.int .i64 (n : Int)] w fun e w' => e = .returned (.bool (primeB n)) ∧ w = w' := by
  have h2i : (1 : Int) < (n : Int) := by omega
  have HP0 := Lib.hid (show nd n n 2 = primeB n from rfl)
  go_enter Tryd.func28, Tryd.ntmps28
  go_wp2
  go_loop [3] (fun v => ∃ d f : Nat, v = .int .i64 (d : Int) ∧ 2 ≤ d ∧ Hid (f + d = n + 2) ∧ Hid (nd n f d = primeB n)) (fun v => n + 3 - (intOf v).toNat)
  case atStart => exact ⟨2, n, rfl, by omega, Lib.hid rfl, HP0⟩
  case round =>
    clear HP0
    obtain ⟨d, f, rfl, hd, hf, HP⟩ := hrel
    have hdn : d ≤ 1002 := by have := hf.out; omega
    have hdi : (2 : Int) ≤ (d : Int) := by omega
    have hdm : (d : Int) ≤ 1002 := by omega
    have hq : d * d ≤ 1004004 := Nat.mul_le_mul hdn hdn
    have hcast : ((d * d : Nat) : Int) = (d : Int) * (d : Int) := by push_cast; rfl
    have hq1 : (d : Int) * (d : Int) ≤ 1004004 := by rw [← hcast]; omega
    have hq0 : (0 : Int) ≤ (d : Int) * (d : Int) := by rw [← hcast]; omega
    by_cases hle : d * d ≤ n
    · have hlei : (d : Int) * (d : Int) ≤ (n : Int) := by rw [← hcast]; omega
      have hdlt : d ≤ d * d := Nat.le_mul_of_pos_right d (by omega)
      obtain ⟨f', hf'⟩ : ∃ f', f = f' + 1 := ⟨f - 1, by have := hf.out; omega⟩
      have HF := Lib.hid (show f' + (d + 1) = n + 2 by have := hf.out; omega)
      have hmod : (n : Int) % (d : Int) = ((n % d : Nat) : Int) := by push_cast; rfl
      by_cases hm : n % d = 0
      · have hz : (n : Int) % (d : Int) = 0 := by rw [hmod, hm]; rfl
        have HR := Lib.hid (show primeB n = false by rw [← HP.out, hf', nd, if_pos hle, if_pos hm])
        clear hf' hmod hm hcast
        go_wp2
        go_ret
        exact ⟨by rw [HR.out]; rfl, rfl⟩
      · have hz : ((n : Int) % (d : Int) == 0) = false := by rw [hmod]; simpa using (by omega : ¬ ((n % d : Nat) : Int) = 0)
        have HR := Lib.hid (show nd n f' (d + 1) = primeB n by rw [← HP.out, hf', nd, if_pos hle, if_neg hm])
        clear hf' hmod hm hcast
        go_wp2
        go_round
        case rel => exact ⟨d + 1, f', by go_num, by omega, HF, HR⟩
        case measure => simp [intOf]; omega
    · have hlei : ¬ (d : Int) * (d : Int) ≤ (n : Int) := by rw [← hcast]; omega
      have HR := Lib.hid (show primeB n = true by
        rw [← HP.out]
        cases f with
        | zero => rfl
        | succ f => rw [nd, if_neg hle])
      clear hcast
      go_wp2
      go_ret
      exact ⟨by rw [HR.out]; rfl, rfl⟩

/-! ### times -/
/-- the value of a place -/
def nv (l : List Nat) (j : Nat) : Value := .int .i64 ((l.getD j 0 : Nat) : Int)
/-- block g reads as the numbers l -/
def Ri (w : World) (B g : Nat) (l : List Nat) : Prop := g < B ∧ ∀ j, j < l.length → w.cell? ⟨g, j, none⟩ = some (nv l j)
theorem Ri.below {w w' : World} {B B' g : Nat} {l : List Nat} (h : Ri w B g l) (hb : Below B' w w') (hB : B ≤ B') : Ri w' B g l :=
  ⟨h.1, fun j hj => (hb.cell (p := ⟨g, j, none⟩) (Nat.lt_of_lt_of_le h.1 hB)).trans (h.2 j hj)⟩
theorem Ri.more {w : World} {B B' g : Nat} {l : List Nat} (h : Ri w B g l) (hB : B ≤ B') : Ri w B' g l := ⟨Nat.lt_of_lt_of_le h.1 hB, h.2⟩
theorem infoI : (Tryd.prog.info? 3).map (fun i => (i.zero, i.size, i.bytes)) = some (some (.int .i64 0), 1, 8) := by kernel_rfl
theorem madeI (n : Nat) : madeCells #[Value.int .i64 0] n = (Array.replicate n (Value.int .i64 0)) := by
  apply Array.ext_getElem?
  intro i
  by_cases hi : i < n
  · simp [madeCells, hi, Nat.mod_one]
  · simp [madeCells, hi]
theorem nv_set {l : List Nat} {n q v j : Nat} (hn : l.length = n) (hq : q < n) : (if j = q then Value.int .i64 (v : Int) else nv l j) = nv (l.set q v) j := by
  unfold nv
  rw [getD_set]
  by_cases h : j = q
  · subst h
    rw [if_pos rfl, if_pos ⟨rfl, by omega⟩]
  · rw [if_neg h, if_neg (by omega)]

set_option maxRecDepth 100000 in
set_option maxHeartbeats 2000000 in
theorem times_any (a b : List Nat) (ga gb ca cb : Nat) (w : World) (ha : Ok a) (hb : Ok b) (hla : a.length ≤ 100) (hlb : b.length ≤ 100) (hra : Ri w w.heap.size ga a) (hrb : Ri w w.heap.size gb b) :
    Calls Tryd.prog 40 #[.slice (some ⟨ga, 0, none⟩) a.length ca, .slice (some ⟨gb, 0, none⟩) b.length cb] w fun e w' => e = .returned (.slice (some ⟨w.heap.size, 0, none⟩) (a.length + b.length) (a.length + b.length)) ∧ Ri w' w'.heap.size w.heap.size (mulL a b) ∧ Below w.heap.size w w' := by
  obtain ⟨i0, hi, hz0, hz1, hz2⟩ := info_parts infoI
  have OK := Lib.hid (fun i => outF_ok a b ha hb i)
  have HA := Lib.hid ha
  have HBk := Lib.hid hb
  have RA := Lib.hid (fun W (h : Below w.heap.size w W) => (hra.below h (Nat.le_refl _)).2)
  have RB := Lib.hid (fun W (h : Below w.heap.size w W) => (hrb.below h (Nat.le_refl _)).2)
  obtain ⟨la, hla'⟩ : ∃ n, n = a.length := ⟨_, rfl⟩
  obtain ⟨lb, hlb'⟩ : ∃ n, n = b.length := ⟨_, rfl⟩
  have HLA := Lib.hid hla'
  have HLB := Lib.hid hlb'
  rw [← hla'] at hla ⊢
  rw [← hlb'] at hlb ⊢
  have hg : ∀ W, W = w.alloc (.cells (madeCells #[.int .i64 0] (la + lb)) 3) → W.rowIs w.heap.size 3 (la + lb) (fun j => nv (outF a b 0) j) := fun W hW => by
    subst hW
    refine ⟨_, heap_alloc_new w _, by rw [madeI]; simp, fun j hj => ?_⟩
    rw [madeI, Array.getElem?_replicate, if_pos hj]
    show some (Value.int .i64 0) = some (Value.int .i64 (((List.replicate (a.length + b.length) 0).getD j 0 : Nat) : Int))
    rw [List.getD_eq_getElem?_getD, List.getElem?_replicate, if_pos (by rw [← hla', ← hlb']; exact hj)]
    rfl
  have hb0 : ∀ W, W = w.alloc (.cells (madeCells #[.int .i64 0] (la + lb)) 3) → Below w.heap.size w W := fun W hW => by subst hW; exact (Below.refl _ _).alloc (Nat.le_refl _) _
  have HG := Lib.hid hg
  have HB0 := Lib.hid hb0
  clear hra hrb ha hb hla' hlb' hg hb0
  have hsum : (la : Int) + (lb : Int) = ((la + lb : Nat) : Int) := by omega
  have HSUM := Lib.hid hsum
  clear hsum
  go_enter Tryd.func40, Tryd.ntmps40
  go_wp2_with (at_make; refine wpList_make_row w rfl (.tmp 14) (.tmp 14) 65 rfl 3 i0 (.int .i64 0) Tryd.underlying65 hi hz0 hz1 rfl .i64 .i64 (la + lb) rfl rfl (by rw [hz2]; omega) (by omega) ?_; have hw1 := HG.out _ rfl; have hw2 := HB0.out _ rfl; generalize w.alloc (.cells (madeCells #[.int .i64 0] (la + lb)) 3) = W1 at *; have ROW0 := Lib.hid hw1; have BEL0 := Lib.hid hw2; clear hw1 hw2)
  go_loopw [6] (fun v wr => ∃ i : Nat, i ≤ la ∧ v = .int .i64 i ∧ wr.rowIs w.heap.size 3 (la + lb) (fun j => nv (outF a b i) j) ∧ Below w.heap.size w wr) (fun v _ => la - (intOf v).toNat)
  case atStart => exact ⟨0, by omega, rfl, ROW0.out, BEL0.out⟩
  case round =>
    clear ROW0 BEL0 HG HB0
    obtain ⟨i, hi', rfl, hrow, hbel⟩ := hrel
    have HR := Lib.hid hrow
    have HB := Lib.hid hbel
    clear hrow hbel
    by_cases hlt : i < la
    · obtain ⟨x, hx⟩ : ∃ x, x = a.getD i 0 := ⟨_, rfl⟩
      obtain ⟨o, ho⟩ : ∃ o, o = outF a b i := ⟨_, rfl⟩
      have hx1 : x ≤ 65535 := by rw [hx]; exact HA.out i
      have ho1 := (OK.out i).1
      have ho2 : o.length = la + lb := by rw [ho, (OK.out i).2.1, HLA.out, HLB.out]
      have IN := Lib.hid (fun k => inF_ok o x b i (by rw [ho]; exact ho1) hx1 HBk.out k)
      have HNX := Lib.hid (show outF a b (i + 1) = (inF o x b i lb).1.set (i + lb) ((inF o x b i lb).1.getD (i + lb) 0 + (inF o x b i lb).2) by rw [ho, hx, HLB.out]; rfl)
      have HZ := Lib.hid (show (inF o x b i lb).1.getD (i + lb) 0 = 0 by rw [(IN.out lb).2.2.2 _ (Nat.le_refl _), ho]; exact (OK.out i).2.2 _ (by rw [← HLB.out]; exact Nat.le_refl _))
      have HX := Lib.hid hx
      have HOL := Lib.hid ho2
      rw [← ho] at HR
      clear ho hx ho1 ho2
      obtain ⟨wo, hwo⟩ : ∃ x, x = wr := ⟨_, rfl⟩
      rw [← hwo] at HR HB
      rw [← hwo]
      clear hwo
      have hlti : (i : Int) < (la : Int) := by omega
      go_wp2
      go_loopw [7, 8] (fun c v wx => ∃ k z : Nat, k ≤ lb ∧ v = .int .i64 k ∧ c = .int .i64 z ∧ Hid (z = (inF o x b i k).2) ∧ wx.rowIs w.heap.size 3 (la + lb) (fun j => nv (inF o x b i k).1 j) ∧ Below w.heap.size w wx) (fun _ v _ => lb - (intOf v).toNat)
      case atStart => exact ⟨0, 0, by omega, rfl, rfl, Lib.hid rfl, HR.out, HB.out⟩
      case round =>
        clear HR HB
        obtain ⟨k, z, hk, rfl, rfl, HZZ, hrow, hbel⟩ := hrel
        have HR := Lib.hid hrow
        have HB := Lib.hid hbel
        clear hrow hbel
        by_cases hlk : k < lb
        · obtain ⟨o', ho'⟩ : ∃ l, l = (inF o x b i k).1 := ⟨_, rfl⟩
          obtain ⟨q, hq⟩ : ∃ q, q = i + k := ⟨_, rfl⟩
          obtain ⟨u, hu⟩ : ∃ u, u = o'.getD q 0 := ⟨_, rfl⟩
          obtain ⟨y, hy⟩ : ∃ y, y = b.getD k 0 := ⟨_, rfl⟩
          obtain ⟨m, hm⟩ : ∃ m, m = x * y := ⟨_, rfl⟩
          obtain ⟨s, hs⟩ : ∃ s, s = u + m := ⟨_, rfl⟩
          obtain ⟨t, ht⟩ : ∃ t, t = s + z := ⟨_, rfl⟩
          have hin := IN.out k
          rw [← ho'] at hin HR
          have hol : o'.length = la + lb := by rw [hin.2.2.1, HOL.out]
          have hu1 : u ≤ 65535 := by rw [hu]; exact hin.1 q
          have hy1 : y ≤ 65535 := by rw [hy]; exact HBk.out k
          have hz1' : z ≤ 65535 := by rw [HZZ.out]; exact hin.2.1
          have hm1 : m ≤ 4294836225 := by rw [hm]; exact mul_le hx1 hy1
          have HNI := Lib.hid (show inF o x b i (k + 1) = (o'.set q (t % 65536), t / 65536) by rw [inF, ← ho', ← HZZ.out, ht, hs, hm, hy, hu, hq])
          have HOL' := Lib.hid hol
          have c1 := HR.out.drew.cell (i := q) (by omega)
          have c2 := RA.out _ HB.out.drew i (by rw [← HLA.out]; exact hlt)
          have c3 := RB.out _ HB.out.drew k (by rw [← HLB.out]; exact hlk)
          unfold nv at c1 c2 c3
          rw [← hu] at c1
          rw [← HX.out] at c2
          rw [← hy] at c3
          have d2 := HR.out.drew.frozen q
          have HR2 := Lib.hid HR.out.drew
          have HB2 := Lib.hid HB.out.drew
          have j1 : (i : Int) + (k : Int) = (q : Int) := by omega
          have j2 : IntKind.i64.wrap (q : Int) = (q : Int) := IntWalk.i64_in _ (by omega)
          have j3 : (x : Int) * (y : Int) = (m : Int) := by rw [hm]; push_cast; rfl
          have j4 : IntKind.i64.wrap (m : Int) = (m : Int) := IntWalk.i64_in _ (by omega)
          have j5 : (u : Int) + (m : Int) = (s : Int) := by omega
          have j6 : IntKind.i64.wrap (s : Int) = (s : Int) := IntWalk.i64_in _ (by omega)
          have j7 : (s : Int) + (z : Int) = (t : Int) := by omega
          have j8 : IntKind.i64.wrap (t : Int) = (t : Int) := IntWalk.i64_in _ (by omega)
          have j9 : (0 : Int) ≤ (q : Int) := Int.natCast_nonneg _
          have j10 : (q : Int) < ((la + lb : Nat) : Int) := by omega
          have j11 : (0 : Int) ≤ (i : Int) := Int.natCast_nonneg _
          have j12 : (0 : Int) ≤ (k : Int) := Int.natCast_nonneg _
          have j13 : (k : Int) < (lb : Int) := by omega
          have j14 : (0 : Int) ≤ (t : Int) := Int.natCast_nonneg _
          have j15 : (t : Int) ≤ 5000000000 := by omega
          have j16 : (q : Int) < (la : Int) + (lb : Int) := by omega
          have HQL := Lib.hid (show q < la + lb by omega)
          clear hq hu hy hm hs ht hin hol HR HB HZZ ho' hm1 hu1 hy1 hz1'
          go_wp2
          go_region
          go_wp2
          go_roundw
          case rel => exact ⟨k + 1, t / 65536, by omega, by go_num, int_eq (by omega), Lib.hid (by rw [HNI.out]), (HR2.out.set q _).congr (fun j hj => by rw [HNI.out, ← nv_set HOL'.out HQL.out]; split; (exact int_eq (by omega)); rfl), HB2.out.setCell (Nat.le_refl _) _⟩
          case measure => simp [intOf]; omega
        · have hkl : k = lb := by omega
          obtain ⟨o', ho'⟩ : ∃ l, l = (inF o x b i lb).1 := ⟨_, rfl⟩
          obtain ⟨q, hq⟩ : ∃ q, q = i + lb := ⟨_, rfl⟩
          obtain ⟨u, hu⟩ : ∃ u, u = o'.getD q 0 := ⟨_, rfl⟩
          obtain ⟨t, ht⟩ : ∃ t, t = u + z := ⟨_, rfl⟩
          have hz1' : z ≤ 65535 := by rw [HZZ.out]; exact (IN.out k).2.1
          have hu0 : u = 0 := by rw [hu, ho', hq]; exact HZ.out
          have hz2' : z = (inF o x b i lb).2 := by rw [HZZ.out, hkl]
          have HNI := Lib.hid (show outF a b (i + 1) = o'.set q t by rw [HNX.out, ← ho', ← hz2', ht, hu, hq])
          have HOL' := Lib.hid (show o'.length = la + lb by rw [ho', (IN.out lb).2.2.1, HOL.out])
          rw [hkl, ← ho'] at HR
          have c1 := HR.out.cell (i := q) (by omega)
          have d2 := HR.out.frozen q
          unfold nv at c1
          rw [← hu] at c1
          have j1 : (i : Int) + (lb : Int) = (q : Int) := by omega
          have j2 : IntKind.i64.wrap (q : Int) = (q : Int) := IntWalk.i64_in _ (by omega)
          have j7 : (u : Int) + (z : Int) = (t : Int) := by omega
          have j8 : IntKind.i64.wrap (t : Int) = (t : Int) := IntWalk.i64_in _ (by omega)
          have j9 : (0 : Int) ≤ (q : Int) := Int.natCast_nonneg _
          have j10 : (q : Int) < ((la + lb : Nat) : Int) := by omega
          have j13 : ¬ (k : Int) < (lb : Int) := by omega
          have j16 : (q : Int) < (la : Int) + (lb : Int) := by omega
          have HQL := Lib.hid (show q < la + lb by omega)
          have HKL := Lib.hid hkl
          clear hq hu hu0 ht hz1' hz2' ho' HZZ hkl
          go_wp2
          go_roundw
          case rel => exact ⟨i + 1, by omega, by go_num, (HR.out.set q _).congr (fun j hj => by rw [HNI.out, ← nv_set HOL'.out HQL.out]), HB.out.setCell (Nat.le_refl _) _⟩
          case measure => simp [intOf]; omega
    · have hil : i = la := by omega
      have HE := Lib.hid (show mulL a b = outF a b i by unfold mulL; rw [hil, ← HLA.out])
      have hz := HB.out.size
      have HRI := Lib.hid (show Ri wr wr.heap.size w.heap.size (mulL a b) from ⟨HR.out.lt, fun j hj => by
        rw [HE.out] at hj ⊢
        exact HR.out.cell (by rw [(OK.out i).2.1] at hj; rw [HLA.out, HLB.out]; exact hj)⟩)
      clear hil
      go_wp2
      go_ret
      exact ⟨rfl, HRI.out, HB.out⟩

/-! ### root -/
theorem ri_digs {W : World} {g : Nat} {t : TypeId} {fr : Nat × Nat} {x : Nat} {a b c : Int} (h : W.heap[g]? = some (.cells #[.int .i64 a, .int .i64 b, .int .i64 c] t fr)) (ha : a = (x : Int) % 65536) (hb : b = (x : Int) / 65536 % 65536) (hc : c = (x : Int) / 4294967296) : Ri W W.heap.size g (digs x) := by
  subst ha hb hc
  refine ⟨(Array.getElem?_eq_some_iff.1 h).1, fun j hj => ?_⟩
  rw [cell_of_row _ _ _ _ _ _ h]
  have hj3 : j < 3 := hj
  match j, hj3 with
  | 0, _ => exact congrArg some (int_eq (by show _ = ((x % 65536 : Nat) : Int); omega))
  | 1, _ => exact congrArg some (int_eq (by show _ = ((x / 65536 % 65536 : Nat) : Int); omega))
  | 2, _ => exact congrArg some (int_eq (by show _ = ((x / 4294967296 : Nat) : Int); omega))
theorem ri_one {W : World} {g : Nat} {t : TypeId} {fr : Nat × Nat} (h : W.heap[g]? = some (.cells #[.int .i64 1] t fr)) : Ri W W.heap.size g [1] := by
  refine ⟨(Array.getElem?_eq_some_iff.1 h).1, fun j hj => ?_⟩
  rw [cell_of_row _ _ _ _ _ _ h]
  have hj1 : j < 1 := hj
  match j, hj1 with
  | 0, _ => rfl

set_option maxRecDepth 100000 in
set_option maxHeartbeats 2000000 in
theorem root_any (x p power : Nat) (w : World) (hx : x < 1099511627776) (hp : p ≤ 1000) (hpow : power ≤ 3) :
    Calls Tryd.prog 29 #[.int .i64 (x : Int), .int .i64 (p : Int), .int .i64 (power : Int)] w fun e w' => e = .returned (.bool (rootB x p power)) ∧ Below w.heap.size w w' := by
  obtain ⟨R, hR⟩ : ∃ R, R = rootB x p power := ⟨_, rfl⟩
  have HRR := Lib.hid hR
  rw [← hR]
  clear hR
  have RO := Lib.hid (fun j => rootL_ok hx j)
  have DO := Lib.hid (digs_ok hx)
  have hx0 : (0 : Int) ≤ (x : Int) := Int.natCast_nonneg _
  have hx1 : (x : Int) < 1099511627776 := by omega
  have Q0 := Lib.hid (ri_one (heap_alloc_new w (.cells #[.int .i64 1] 3)))
  have B0 := Lib.hid (show Below w.heap.size w (w.alloc (.cells #[.int .i64 1] 3)) from (Below.refl _ _).alloc (Nat.le_refl _) _)
  go_enter Tryd.func29, Tryd.ntmps29
  go_wp2
  go_loopw [7, 8] (fun v i wr => ∃ j g n c : Nat, j ≤ power ∧ i = .int .i64 j ∧ v = .slice (some ⟨g, 0, none⟩) n c ∧ n ≤ c ∧ Hid (n = 1 + 3 * j) ∧ Ri wr wr.heap.size g (rootL x j) ∧ Below w.heap.size w wr) (fun _ i _ => power - (intOf i).toNat)
  case atStart => exact ⟨0, w.heap.size, 1, 1, by omega, rfl, rfl, by omega, Lib.hid rfl, Q0.out, B0.out⟩
  case round =>
    clear Q0 B0
    obtain ⟨j, g, n, c, hj, rfl, rfl, hnc, HN, hri, hbel⟩ := hrel
    have HRI := Lib.hid hri
    have HB := Lib.hid hbel
    have hz := hbel.size
    clear hri hbel
    by_cases hlt : j < power
    · have hlti : (j : Int) < (power : Int) := by omega
      have hrl := RO.out j
      have TC := Lib.hid (fun gb W h1 h2 => times_any (rootL x j) (digs x) g gb c 3 W hrl.1 DO.out (by rw [hrl.2]; omega) (by show 3 ≤ 100; omega) h1 h2)
      rw [hrl.2, ← HN.out] at TC
      have HNX := Lib.hid (show mulL (rootL x j) (digs x) = rootL x (j + 1) from rfl)
      clear hrl
      go_wp2_with fail
      refine (TC.out wr.heap.size _ (by exact (HRI.out.below ((Below.refl _ _).alloc (Nat.le_refl _) _) (Nat.le_refl _)).more (by exact le_alloc (Nat.le_refl _) _)) (by exact ri_digs (heap_alloc_new wr _) (by omega) (by omega) (by omega))).mono ?_
      rintro e w1 ⟨rfl, hr1, hb1⟩
      have HB1 := Lib.hid (bel_call (by exact HB.out.alloc hz _) hb1 (by exact le_alloc hz _))
      rw [World.size_alloc] at hr1
      have HR1 := Lib.hid hr1
      clear hr1 hb1 TC
      go_wp2
      go_roundw
      case rel => exact ⟨j + 1, _, n + 3, n + 3, by omega, by go_num, rfl, Nat.le_refl _, Lib.hid (by rw [HN.out]; omega), by rw [← HNX.out]; exact HR1.out, HB1.out⟩
      case measure => simp [intOf]; omega
    · have hjp : j = power := by omega
      obtain ⟨L, hL⟩ : ∃ L, L = rootL x power := ⟨_, rfl⟩
      obtain ⟨at_, hat⟩ : ∃ a, a = 2 * power := ⟨_, rfl⟩
      have hn : n = 1 + 3 * power := by rw [HN.out, hjp]
      have HLN := Lib.hid (show n = L.length by rw [hL, (RO.out power).2, hn])
      have HC := Lib.hid (show cmp L at_ p n = R by rw [HRR.out]; unfold rootB; rw [hL, hat, hn])
      have CELL := Lib.hid (show ∀ k, k < n → wr.cell? ⟨g, k, none⟩ = some (.int .i64 ((L.getD k 0 : Nat) : Int)) from fun k hk => by
        have h := HRI.out.2 k
        rw [hjp, ← hL] at h
        exact h (by rw [← HLN.out]; exact hk))
      have ENT := Lib.hid (show ∀ k, L.getD k 0 ≤ 65535 from fun k => by rw [hL]; exact (RO.out power).1 k)
      have a1 : (2 : Int) * (power : Int) = (at_ : Int) := by omega
      have a2 : (n : Int) ≤ 100 := by omega
      have a3 : (1 : Int) ≤ (n : Int) := by omega
      have a4 : ¬ (j : Int) < (power : Int) := by omega
      clear hjp hL hat hn HN HRI
      go_wp2
      go_loop [10, 11] (fun i _ => ∃ (k : Nat) (v : Int), k ≤ n ∧ v + 1 = (k : Int) ∧ i = .int .i64 v ∧ Hid (cmp L at_ p k = R)) (fun i _ => (intOf i + 1).toNat)
      case atStart => exact ⟨n, (n : Int) - 1, Nat.le_refl _, by omega, rfl, HC⟩
      case round =>
        clear HC
        obtain ⟨k, v, hk, hv, rfl, HK⟩ := hrel
        cases k with
        | zero =>
          obtain rfl : v = -1 := by omega
          have HT := Lib.hid (show R = true from HK.out.symm)
          clear hv
          go_wp2
          go_ret
          exact ⟨by rw [HT.out]; rfl, HB.out⟩
        | succ k =>
          obtain rfl : v = (k : Int) := by omega
          have hcell := CELL.out k (by omega)
          obtain ⟨e, he⟩ : ∃ e, e = L.getD k 0 := ⟨_, rfl⟩
          have he1 : e ≤ 65535 := by rw [he]; exact ENT.out k
          rw [← he] at hcell
          have k0 : (0 : Int) ≤ (k : Int) := Int.natCast_nonneg _
          have k1 : (k : Int) < (n : Int) := by omega
          have hcmp : R = if e = (if k = at_ then p else 0) then cmp L at_ p k else decide (e < (if k = at_ then p else 0)) := by rw [← HK.out, cmp, he]
          have HE := Lib.hid he
          clear hv he
          by_cases hka : k = at_
          · rw [if_pos hka] at hcmp
            have b1 : ((k : Int) == (at_ : Int)) = true := by rw [hka]; simp
            by_cases heq : e = p
            · rw [if_pos heq] at hcmp
              have HCM := Lib.hid hcmp
              have b2 : ((e : Int) != (p : Int)) = false := by rw [heq]; simp
              clear hka heq hcmp
              go_wp2
              go_round
              case rel => exact ⟨k, (k : Int) - 1, by omega, by omega, rfl, Lib.hid HCM.out.symm⟩
              case measure => first | (simp [intOf]; omega) | simp [intOf]
            · rw [if_neg heq] at hcmp
              have HCM := Lib.hid hcmp
              have b2 : ((e : Int) != (p : Int)) = true := by simpa [Int.ofNat_inj] using heq
              clear hka heq hcmp
              by_cases hl : e < p
              · have b3 : (e : Int) < (p : Int) := by omega
                go_wp2
                go_ret
                exact ⟨by rw [HCM.out, decide_eq_true hl]; rfl, HB.out⟩
              · have b3 : ¬ (e : Int) < (p : Int) := by omega
                go_wp2
                go_ret
                exact ⟨by rw [HCM.out, decide_eq_false hl]; rfl, HB.out⟩
          · rw [if_neg hka] at hcmp
            have b1 : ((k : Int) == (at_ : Int)) = false := by simpa [Int.ofNat_inj] using hka
            by_cases heq : e = 0
            · rw [if_pos heq] at hcmp
              have HCM := Lib.hid hcmp
              have b2 : ((e : Int) != 0) = false := by rw [heq]; simp
              clear hka heq hcmp
              go_wp2
              go_round
              case rel => exact ⟨k, (k : Int) - 1, by omega, by omega, rfl, Lib.hid HCM.out.symm⟩
              case measure => first | (simp [intOf]; omega) | simp [intOf]
            · rw [if_neg heq] at hcmp
              have HCM := Lib.hid (show R = false by rw [hcmp]; exact decide_eq_false (by omega))
              have b2 : ((e : Int) != 0) = true := by simpa using heq
              have b3 : ¬ (e : Int) < 0 := by omega
              clear hka heq hcmp
              go_wp2
              go_ret
              exact ⟨by rw [HCM.out]; rfl, HB.out⟩
end Go.Proofs.YtggbcjfcnphenaaDoor
