
/- The document's Pad, Block. -/
import Derived.Test.YtcfncbbdlbdbnaaDoorStep
import Derived.Test.YtcfncbbdlbdbnaaDoorDoc
namespace Go.Proofs.YtcfncbbdlbdbnaaDoor
open Go.RowKit

theorem Ow.fresh {w : World} {base : Nat} {v : Value} {l : List UInt8} (h : Ow w base v l) : ∃ A c, v = .slice A l.length c ∧ l.length ≤ c ∧ c ≤ 9223372036854775807 ∧ Rd w w.heap.size A l ∧ (∀ p, A = some p → base ≤ p.block ∧ p.block < w.heap.size ∧ p = ⟨p.block, 0, none⟩) := by
  have hs := h.sl
  rcases h.2 with ⟨rfl, h0⟩ | ⟨g, cap, cur, rfl, hb, hg, hn, hcap, hsz, htake⟩
  · obtain rfl : l = [] := List.eq_nil_of_length_eq_zero h0
    exact ⟨none, 0, rfl, by simp, by omega, Rd.nil, fun p hp => by cases hp⟩
  · obtain ⟨A, c, e, h1, h2, h3⟩ := hs
    cases e
    exact ⟨_, _, rfl, h1, h2, h3, fun p hp => by cases hp; exact ⟨hb, (Array.getElem?_eq_some_iff.1 hg).1, rfl⟩⟩
theorem padL_mod {r r' : Nat} (n : Nat) (h : r % 64 = r' % 64) : padL r n = padL r' n := by
  unfold padL
  have e : (r + 9) % 64 = (r' + 9) % 64 := by omega
  rw [e]
theorem be8_snoc (n k : Nat) (h : k < 8) : (be8 n).take (k + 1) = (be8 n).take k ++ [UInt8.ofNat (n / 2 ^ (8 * (7 - k)))] := by
  have hl : (be8 n).length = 8 := by simp [be8]
  rw [List.take_succ_eq_append_getElem (by omega)]
  simp [be8]
/-- what stands there behind j noughts and k of the eight bytes -/
def padP (j n k : Nat) : List UInt8 := 128 :: (List.replicate j 0 ++ (be8 (8 * n)).take k)
theorem padP_length (j n k : Nat) (h : k ≤ 8) : (padP j n k).length = 1 + j + k := by
  have hl : (be8 (8 * n)).length = 8 := by simp [be8]
  unfold padP
  rw [List.length_cons, List.length_append, List.length_replicate, List.length_take, hl]
  omega
theorem padP_zero (j n : Nat) : padP j n 0 ++ [0] = padP (j + 1) n 0 := by
  unfold padP
  rw [List.take_zero, List.append_nil, List.append_nil, List.cons_append, ← List.replicate_succ']
theorem padP_snoc (j n k : Nat) (h : k < 8) : padP j n k ++ [UInt8.ofNat (8 * n / 2 ^ (8 * (7 - k)))] = padP j n (k + 1) := by
  unfold padP
  rw [be8_snoc _ _ h, List.cons_append, List.append_assoc]
theorem padP_end (n : Nat) : padP (padZ n) n 8 = padL n n := by
  unfold padP padL padZ
  rw [List.take_of_length_le (by simp [be8])]

set_option maxHeartbeats 1000000 in
theorem pad_any (n : Nat) (w : World) (hn : n ≤ 1125899906842624) :
    Calls Tryd.prog 51 #[.int .i64 (n : Int)] w fun e w' => Ans1 w.heap.size w' e (padL n n) (padL n n).length ∧ Below w.heap.size w w' := by
  have h0 := Ow.made1 w (base := w.heap.size) (Nat.le_refl _) 128
  have hb0 : Below w.heap.size w (w.alloc (.cells #[.int .u8 ((128 : UInt8).toNat : Int)] 5)) := (Below.refl _ _).alloc (Nat.le_refl _) _
  have H0 := Lib.hid h0
  have HB0 := Lib.hid hb0
  clear h0 hb0
  go_enter Tryd.func51, Tryd.ntmps51
  go_wp2
  go_loopw [3] (fun v wr => ∃ j : Nat, j ≤ padZ n ∧ Ow wr w.heap.size v (padP j n 0) ∧ Below w.heap.size w wr) (fun v _ => match v with | .slice _ m _ => 100 - m | _ => 0)
  case atStart => exact ⟨0, by omega, H0.out, HB0.out⟩
  case round =>
    obtain ⟨j, hj, hown, hbel⟩ := hrel
    clear H0 HB0
    have hz : padZ n < 64 := by unfold padZ; omega
    obtain ⟨A, c, rfl, hc1, hc2, hrd⟩ := hown.form
    have hlen := padP_length j n 0 (by omega)
    have HO := Lib.hid hown
    have HB := Lib.hid hbel
    have hsz := HB.out.size
    obtain ⟨m, hm⟩ : ∃ m, m = (padP j n 0).length := ⟨_, rfl⟩
    rw [← hm] at HO hc1 ⊢
    rw [← hm] at hlen
    have HM := Lib.hid hm
    have HL := Lib.hid hlen
    have hm64 : m ≤ 64 := by omega
    clear hown hbel hrd hm
    by_cases hlt : j < padZ n
    · have hne : (((n : Int) + (m : Int) + 8) % 64 != 0) = true := by
        unfold padZ at hlt; simp; omega
      have HN := Lib.hid (padP_zero j n)
      have HLt := Lib.hid hlt
      clear hlen hlt hj hz
      go_wp2_with (at_builtin; (refine wpList_app rfl _ (.tmp 14) (.tmp 15) rfl w.heap.size _ _ [0] rfl (by exact HO.out.alloc _) ⟨_, 0, none⟩ 1 _ rfl rfl (by exact news1 _ 0 (by omega) (by omega)) (by rw [← HM.out]; simp only [List.length_cons, List.length_nil]; omega) (by exact le_alloc hsz _) ?_); intro v2 w2 hown2 hgrow2; have HB2 := Lib.hid (Ow.below (w0 := w) (by exact HO.out.alloc _) (by exact HB.out.alloc hsz _) hgrow2 (by exact le_alloc hsz _)); rw [HN.out] at hown2; have HW2 := Lib.hid hown2; clear hgrow2 hown2)
      go_roundw
      case rel => exact ⟨j + 1, HLt.out, HW2.out, HB2.out⟩
      case measure =>
        obtain ⟨A2, c2, rfl, -, -, -⟩ := HW2.out.form
        have h1 := padP_length (j + 1) n 0 (by omega)
        have h2 := HL.out
        show 100 - (padP (j + 1) n 0).length < 100 - m
        omega
    · have hj2 : j = padZ n := by omega
      have hne : (((n : Int) + (m : Int) + 8) % 64 != 0) = false := by
        unfold padZ at hj2; simp; omega
      rw [hj2] at HO
      clear hlt hj hlen hj2 HM HL
      go_wp2
      go_loopw [3, 5] (fun v i wr => ∃ (k : Nat) (q : Int), k ≤ 8 ∧ i = .int .i64 q ∧ Hid (q = 56 - 8 * (k : Int)) ∧ -8 ≤ q ∧ q ≤ 56 ∧ Ow wr w.heap.size v (padP (padZ n) n k) ∧ Below w.heap.size w wr) (fun _ i _ => (intOf i + 8).toNat)
      case atStart => exact ⟨0, 56, by omega, rfl, Lib.hid (by omega), by omega, by omega, HO.out, HB.out⟩
      case round =>
        clear HO HB hc1 hc2 hsz hne hm64
        obtain ⟨k, q, hk, rfl, hq, hq1, hq2, hown, hbel⟩ := hrel
        have HO := Lib.hid hown
        have HB := Lib.hid hbel
        have hsz := HB.out.size
        clear hown hbel
        by_cases hlt : 0 ≤ q
        · obtain ⟨q, rfl⟩ := Int.eq_ofNat_of_zero_le hlt
          have hk8 : k < 8 := by have := hq.out; omega
          have HN := Lib.hid (padP_snoc (padZ n) n k hk8)
          have HLen := Lib.hid (padP_length (padZ n) n k hk)
          obtain ⟨X, hX⟩ : ∃ X : Nat, X = 8 * n / 2 ^ q := ⟨_, rfl⟩
          have HX := Lib.hid (show 8 * n / 2 ^ (8 * (7 - k)) = X by rw [hX]; congr 2; have := hq.out; omega)
          have hXi : (8 * (n : Int)) / 2 ^ q = (X : Int) := by rw [hX, Int.natCast_ediv, Int.natCast_mul, Int.natCast_pow]; rfl
          rw [HX.out] at HN
          have HX8 := Lib.hid (show UInt8.ofNat ((X : Int) % 256).toNat = UInt8.ofNat X by
            apply UInt8.toNat_inj.1
            rw [UInt8.toNat_ofNat', UInt8.toNat_ofNat']
            omega)
          have hb1 : 0 ≤ (X : Int) % 256 := by omega
          have hb2 : (X : Int) % 256 < 256 := by omega
          have hz : padZ n < 64 := by unfold padZ; omega
          have HZ := Lib.hid hz
          clear hX hz
          go_wp2_with (at_builtin; (refine wpList_app rfl _ (.tmp 23) (.tmp 29) rfl w.heap.size _ _ [UInt8.ofNat ((X : Int) % 256).toNat] rfl (by exact HO.out.alloc _) ⟨_, 0, none⟩ 1 _ rfl rfl (by exact news1 _ _ hb1 hb2) (by rw [HLen.out]; have := HZ.out; simp only [List.length_cons, List.length_nil]; omega) (by exact le_alloc hsz _) ?_); intro v2 w2 hown2 hgrow2; have HB2 := Lib.hid (Ow.below (w0 := w) (by exact HO.out.alloc _) (by exact HB.out.alloc hsz _) hgrow2 (by exact le_alloc hsz _)); rw [HX8.out, HN.out] at hown2; have HW2 := Lib.hid hown2; clear hgrow2 hown2)
          go_roundw
          case rel => exact ⟨k + 1, (q : Int) - 8, by omega, rfl, Lib.hid (by have := hq.out; omega), by omega, by omega, HW2.out, HB2.out⟩
          case measure => simp [intOf]; omega
        · have hk8 : k = 8 := by have := hq.out; omega
          rw [hk8, padP_end] at HO
          have hf := HO.out.fresh
          have HF := Lib.hid hf
          clear hf hk8
          go_wp2
          go_ret
          obtain ⟨A', c', e', h1, h2, h3, h4⟩ := HF.out
          exact ⟨⟨A', c', by rw [← e']; rfl, h1, h2, h3, fun p hp => ⟨(h4 p hp).1, (h4 p hp).2.1⟩⟩, HB.out⟩

set_option maxRecDepth 100000 in
theorem block_no (s : St) (A : Option Addr) (n c : Nat) (w : World) (hn : n ≠ 64) :
    Calls Tryd.prog 59 #[s.v, .slice A n c] w fun e w' => e = .returned (.tuple #[s.v, .int .i64 1]) ∧ Below w.heap.size w w' := by
  have hne : ((n : Int) != 64) = true := by simp; omega
  have q0 := alloc2 w (.cells s.cells 76) (.cells Z8 76)
  have hd : ∀ W', W' = (w.alloc (.cells s.cells 76)).alloc (.cells Z8 76) → W'.heap[w.heap.size]? = some (.cells s.cells 76 (0, 0)) ∧ W'.heap[w.heap.size + 1]? = some (.cells Z8 76 (0, 0)) ∧ Below w.heap.size w W' := by
    rintro W' rfl
    exact ⟨q0.1, q0.2.1, q0.2.2.2⟩
  obtain ⟨H1, H2, H3⟩ := hd _ rfl
  have G1 := Lib.hid H1
  have G2 := Lib.hid H2
  have G3 := Lib.hid H3
  clear hd q0 H1 H2 H3 hn
  show Calls Tryd.prog 59 #[.agg #[wv s.a, wv s.b, wv s.c, wv s.d, wv s.e, wv s.f, wv s.g, wv s.h], .slice A n c] w _
  go_enter Tryd.func59, Tryd.ntmps59
  go_wp2_with (first | (refine load8 ((w.alloc (.cells s.cells 76)).alloc (.cells Z8 76)) (.tmp 2) w.heap.size s G1.out rfl rfl rfl ?_) | (refine store8 ((w.alloc (.cells s.cells 76)).alloc (.cells Z8 76)) (.tmp 4) (.tmp 11) (w.heap.size + 1) s _ G2.out rfl rfl rfl rfl rfl ?_))
  (try simp only [Exit.inBlock, Exit.then])
  refine bodyPost_ret (ret8_2 rfl _ _ (w.heap.size + 1) s rfl (setRow_heap _ _ _ _ _ _ G2.out)) rfl ?_
  exact ⟨rfl, Below.setRow G3.out (Nat.le_succ _) _⟩

end Go.Proofs.YtcfncbbdlbdbnaaDoor
