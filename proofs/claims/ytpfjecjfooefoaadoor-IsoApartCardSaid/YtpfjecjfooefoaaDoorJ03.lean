
/- Same, dig.Value -/
import Derived.Test.YtpfjecjfooefoaaDoorJ02
import Derived.Deep.QuietTactic
import Derived.BigQuiet
namespace Go.Proofs.YtpfjecjfooefoaaDoor
open Go.RowKit

set_option maxRecDepth 100000 in
theorem same_any (A B : Option Addr) (la lb : List UInt8) (ca cb BA BB : Nat) (w : World) (ha : Rd w BA A la) (hb : Rd w BB B lb) :
    Calls Tryd.prog 17 #[.slice A la.length ca, .slice B lb.length cb] w fun e w' => e = .returned (.bool (decide (la = lb))) ∧ w = w' := by
  have h1 := run_str (P := Tryd.prog) ha ca _ _ _ Tryd.underlying27 Tryd.underlying5 Tryd.underlying9
  have h2 := run_str (P := Tryd.prog) hb cb _ _ _ Tryd.underlying27 Tryd.underlying5 Tryd.underlying9
  go_enter Tryd.func17, Tryd.ntmps17
  go_wp2
  go_ret
  refine ⟨?_, rfl⟩
  simp
  rw [Bool.eq_iff_iff]; simp

set_option maxRecDepth 100000 in
theorem same_sl (v1 v2 : Value) (la lb : List UInt8) (w : World) (ha : Sl w v1 la) (hb : Sl w v2 lb) :
    Calls Tryd.prog 17 #[v1, v2] w fun e w' => e = .returned (.bool (decide (la = lb))) ∧ w = w' := by
  obtain ⟨A, ca, rfl, _, _, h1⟩ := ha
  obtain ⟨B, cb, rfl, _, _, h2⟩ := hb
  exact same_any A B la lb ca cb _ _ w h1 h2

def isFig (c : UInt8) : Bool := decide (48 ≤ c.toNat) && decide (c.toNat ≤ 57)
def allFig (l : List UInt8) : Bool := l.all isFig
def val (l : List UInt8) : Nat := l.foldl (fun n c => 10 * n + (c.toNat - 48)) 0
set_option maxRecDepth 100000 in
theorem val_snoc (l : List UInt8) (c : UInt8) : val (l ++ [c]) = 10 * val l + (c.toNat - 48) := by simp [val]
set_option maxRecDepth 100000 in
theorem isFig_iff (c : UInt8) : isFig c = true ↔ 48 ≤ c.toNat ∧ c.toNat ≤ 57 := by simp [isFig]
set_option maxRecDepth 100000 in
theorem snoc_ind {α : Type} {motive : List α → Prop} (h0 : motive []) (h1 : ∀ l a, motive l → motive (l ++ [a])) (l : List α) : motive l := by
  have h : ∀ r : List α, motive r.reverse := by
    intro r
    induction r with
    | nil => exact h0
    | cons a r ih => rw [List.reverse_cons]; exact h1 _ _ ih
  have := h l.reverse
  rwa [List.reverse_reverse] at this
set_option maxRecDepth 100000 in
theorem val_lt (l : List UInt8) (h : allFig l = true) : val l < 10 ^ l.length := by
  induction l using snoc_ind with
  | h0 => simp [val]
  | h1 l a ih =>
    simp only [allFig, List.all_append, List.all_cons, List.all_nil, Bool.and_true, Bool.and_eq_true] at h
    have h2 := (isFig_iff a).1 h.2
    have h3 := ih h.1
    rw [val_snoc, List.length_append, List.length_cons, List.length_nil, Nat.pow_add]
    omega
def valR (l : List UInt8) : Nat × Nat := if 1 ≤ l.length ∧ l.length ≤ 18 ∧ allFig l = true then (val l, 0) else (0, 2)

set_option maxRecDepth 100000 in
theorem bytes_len (s : ByteArray) : s.data.toList.length = s.size := by rw [Array.length_toList]; rfl
set_option maxRecDepth 100000 in
theorem bytes_take (s : ByteArray) (k : Nat) (h : k < s.size) : s.data.toList.take (k + 1) = s.data.toList.take k ++ [s[k]] := by
  rw [List.take_succ_eq_append_getElem (by rw [bytes_len]; exact h)]; rfl

set_option maxRecDepth 100000 in
theorem value_bad_len (s : ByteArray) (w : World) (h : s.size < 1 ∨ 18 < s.size) (hs : s.size ≤ 9223372036854775807) :
    Calls Tryd.prog 86 #[.string s] w fun e w' => e = .returned (.tuple #[.int .i64 0, .int .i64 2]) ∧ Below w.heap.size w w' := by
  rcases h with h | h
  · go_enter Tryd.func86, Tryd.ntmps86
    go_wp2
    go_ret2
    exact ⟨rfl, Below.refl _ _⟩
  · have h1 : 1 ≤ s.size := by omega
    go_enter Tryd.func86, Tryd.ntmps86
    go_wp2
    go_ret2
    exact ⟨rfl, Below.refl _ _⟩

set_option maxRecDepth 100000 in
theorem all_snoc (l : List UInt8) (c : UInt8) : allFig (l ++ [c]) = (allFig l && isFig c) := by simp [allFig]
set_option maxRecDepth 100000 in
theorem all_not (l : List UInt8) (k : Nat) (h : k < l.length) (hn : isFig l[k] = false) : allFig l = false := by
  unfold allFig
  rw [List.all_eq_false]
  exact ⟨l[k], List.getElem_mem h, by simp [hn]⟩
set_option maxRecDepth 100000 in
theorem get_bytes (s : ByteArray) (k : Nat) (h : k < s.size) : s.data.toList[k]'(by rw [bytes_len]; exact h) = s[k] := rfl
set_option maxRecDepth 100000 in
/-- the rune that stands at a place where no figure stands is none -/
theorem rune_no (s : ByteArray) (k : Nat) (h : k < s.size) (hn : isFig s[k] = false) : ((Utf8.decode s k).1 : Int) < 48 ∨ 57 < ((Utf8.decode s k).1 : Int) := by
  by_cases ha : (s[k]'h).toNat < 128
  · rw [decode_ascii s k h ha]
    have : ¬ (48 ≤ s[k].toNat ∧ s[k].toNat ≤ 57) := by rw [← isFig_iff, hn]; simp
    simp only
    omega
  · have := (decode_high s k h (by omega)).1
    omega
set_option maxRecDepth 100000 in
theorem valR_ok (l : List UInt8) (h1 : 1 ≤ l.length) (h2 : l.length ≤ 18) (h : allFig l = true) : valR l = (val l, 0) := by rw [valR, if_pos ⟨h1, h2, h⟩]
set_option maxRecDepth 100000 in
theorem valR_no (l : List UInt8) (h : allFig l = false) : valR l = (0, 2) := by rw [valR, if_neg (by simp [h])]

set_option maxRecDepth 100000 in
theorem value_any (s : ByteArray) (w : World) (h1 : 1 ≤ s.size) (h2 : s.size ≤ 18) :
    Calls Tryd.prog 86 #[.string s] w fun e w' => e = .returned (.tuple #[.int .i64 (valR s.data.toList).1, .int .i64 (valR s.data.toList).2]) ∧ Below w.heap.size w w' := by
  have d1 : decide ((s.size : Int) < 1) = false := by simp; omega
  have d2 : decide (18 < (s.size : Int)) = false := by simp; omega
  go_enter Tryd.func86, Tryd.ntmps86
  go_wp2
  go_loopw [4] (fun n wr => ∃ k : Nat, k ≤ s.size ∧ wr = w.iter s k ∧ n = .int .i64 (val (s.data.toList.take k)) ∧ Hid (allFig (s.data.toList.take k) = true)) (fun _ wr => s.size - wr.iterPos w.heap.size)
  case atStart => exact ⟨0, Nat.zero_le _, rfl, rfl, Lib.hid rfl⟩
  case round =>
    obtain ⟨k, hk, rfl, rfl, hall⟩ := hrel
    by_cases hlt : k < s.size
    · cases hf : isFig s[k] with
      | true =>
        have hd := (isFig_iff _).1 hf
        have hv : val (s.data.toList.take k) < 100000000000000000 := by
          have a := val_lt _ hall.out
          have b : (s.data.toList.take k).length ≤ 17 := by rw [List.length_take]; omega
          have c : 10 ^ (s.data.toList.take k).length ≤ 10 ^ 17 := Nat.pow_le_pow_right (by omega) b
          omega
        have hnx : ∀ ty, (Instr.next (.pointer (some ⟨w.heap.size, 0, none⟩)) true ty).run Tryd.prog (w.iter s k) = _ := fun ty => run_next_ascii w s k ty hlt (by omega)
        have HF := Lib.hid hf
        have e1 := val_snoc (s.data.toList.take k) s[k]
        have e2 := all_snoc (s.data.toList.take k) s[k]
        rw [← bytes_take s k hlt] at e1 e2
        rw [hall.out, hf] at e2
        have E1 := Lib.hid e1
        have E2 := Lib.hid e2
        clear hf e1 e2
        have hd1 : (48 : Int) ≤ s[k].toNat := by omega
        have hd2 : (s[k].toNat : Int) ≤ 57 := by omega
        go_wp2_with (go_at_call 69; refine (figure_yes _ _ hd1 hd2).mono ?_; rintro e w' ⟨rfl, rfl⟩)
        go_roundw
        case rel => exact ⟨k + 1, by omega, rfl, by rw [E1.out]; go_num, Lib.hid E2.out⟩
        case measure => simp; omega
      | false =>
        have hno := rune_no s k hlt hf
        have hle := decode_le s k
        have hnx : ∀ ty, (Instr.next (.pointer (some ⟨w.heap.size, 0, none⟩)) true ty).run Tryd.prog (w.iter s k) = _ := fun ty => run_next_any w s k ty hlt
        have E := Lib.hid (valR_no s.data.toList (all_not _ k (by rw [bytes_len]; exact hlt) (by rw [get_bytes s k hlt]; exact hf)))
        clear hf
        go_wp2_with (go_at_call 69; refine (figure_no _ _ hno).mono ?_; rintro e w' ⟨rfl, rfl⟩)
        go_ret2
        exact ⟨by rw [E.out]; rfl, (Below.refl _ _).alloc (Nat.le_refl _) _⟩
    · have hkl : k = s.size := by omega
      have E := valR_ok s.data.toList (by rw [bytes_len]; exact h1) (by rw [bytes_len]; exact h2) (by
        have := hall.out
        rwa [List.take_of_length_le (by rw [bytes_len]; omega)] at this)
      have E2 : val (s.data.toList.take k) = val s.data.toList := by rw [List.take_of_length_le (by rw [bytes_len]; omega)]
      have E := Lib.hid E
      have E3 := Lib.hid E2
      clear E2 hkl hall
      have hnx : ∀ ty, (Instr.next (.pointer (some ⟨w.heap.size, 0, none⟩)) true ty).run Tryd.prog (w.iter s k) = _ := fun ty => run_next_end w s k ty hlt
      go_wp2
      go_ret2
      exact ⟨by rw [E.out, ← E3.out]; rfl, (Below.refl _ _).alloc (Nat.le_refl _) _⟩
end Go.Proofs.YtpfjecjfooefoaaDoor
/- The document's answers (iso), the first: Type, Class, Reply, Few, Get, Same. -/

namespace Go.Proofs.YtpfjecjfooefoaaDoor
open Go.RowKit

def typeF (n : Int) : Bool := decide (100 ≤ n) && decide (n ≤ 899) && decide (n / 10 % 10 ≤ 4) && decide (n % 10 ≤ 5)
def classF (n : Int) : Int := if typeF n = true then n / 100 else 0
def replyI (n : Int) : Int := if typeF n = true ∧ (n / 10 % 10 = 0 ∨ n / 10 % 10 = 2) then n + 10 else 0
def replyY (n : Int) : Bool := typeF n && (decide (n / 10 % 10 = 0) || decide (n / 10 % 10 = 2))
set_option maxRecDepth 100000 in
theorem typeF_bd {n : Int} (h : typeF n = true) : 100 ≤ n ∧ n ≤ 899 ∧ n / 10 % 10 ≤ 4 ∧ n % 10 ≤ 5 := by
  unfold typeF at h
  simp only [Bool.and_eq_true, decide_eq_true_eq] at h
  exact ⟨h.1.1.1, h.1.1.2, h.1.2, h.2⟩

set_option maxRecDepth 100000 in
theorem refType_any (n : Int) (hn : -9223372036854775808 ≤ n ∧ n ≤ 9223372036854775807) (W : World) :
    Calls Tryd.prog 23 #[.int .i64 n] W fun e W' => e = .returned (.bool (typeF n)) ∧ W = W' := by
  unfold typeF
  by_cases h1 : 100 ≤ n
  · rw [decide_eq_true h1]
    have d1 : decide (100 ≤ n) = true := decide_eq_true h1
    by_cases h2 : n ≤ 899
    · rw [decide_eq_true h2]
      have d2 : decide (n ≤ 899) = true := decide_eq_true h2
      by_cases h3 : n / 10 % 10 ≤ 4
      · have d3 : decide (n / 10 % 10 ≤ 4) = true := decide_eq_true h3
        by_cases h4 : n % 10 ≤ 5
        · have d4 : decide (n % 10 ≤ 5) = true := decide_eq_true h4
          rw [d3, d4]
          go_enter Tryd.func23, Tryd.ntmps23
          go_wp2
          go_ret
          exact ⟨rfl, rfl⟩
        · have d4 : decide (n % 10 ≤ 5) = false := decide_eq_false h4
          rw [d3, d4]
          go_enter Tryd.func23, Tryd.ntmps23
          go_wp2
          go_ret
          exact ⟨rfl, rfl⟩
      · have d3 : decide (n / 10 % 10 ≤ 4) = false := decide_eq_false h3
        rw [d3, Bool.and_false, Bool.false_and]
        go_enter Tryd.func23, Tryd.ntmps23
        go_wp2
        go_ret
        exact ⟨rfl, rfl⟩
    · rw [decide_eq_false h2, Bool.and_false, Bool.false_and, Bool.false_and]
      have d2 : decide (n ≤ 899) = false := decide_eq_false h2
      go_enter Tryd.func23, Tryd.ntmps23
      go_wp2
      go_ret
      exact ⟨rfl, rfl⟩
  · rw [decide_eq_false h1, Bool.false_and, Bool.false_and, Bool.false_and]
    have d1 : decide (100 ≤ n) = false := decide_eq_false h1
    go_enter Tryd.func23, Tryd.ntmps23
    go_wp2
    go_ret
    exact ⟨rfl, rfl⟩
set_option maxRecDepth 100000 in
theorem refClass_any (n : Int) (hn : -9223372036854775808 ≤ n ∧ n ≤ 9223372036854775807) (W : World) :
    Calls Tryd.prog 25 #[.int .i64 n] W fun e W' => e = .returned (.int .i64 (classF n)) ∧ W = W' := by
  have C := Lib.hid (fun w => refType_any n hn w)
  unfold classF
  cases h : typeF n with
  | false =>
    rw [h] at C
    rw [if_neg (by simp)]
    clear h
    go_enter Tryd.func25, Tryd.ntmps25
    go_wp2_with fail
    refine (C.out _).mono ?_
    rintro e w ⟨rfl, rfl⟩
    go_wp2
    go_ret
    exact ⟨rfl, rfl⟩
  | true =>
    rw [h] at C
    rw [if_pos rfl]
    have hb := typeF_bd h
    have h0 : 0 ≤ n := by omega
    clear h hb
    go_enter Tryd.func25, Tryd.ntmps25
    go_wp2_with fail
    refine (C.out _).mono ?_
    rintro e w ⟨rfl, rfl⟩
    go_wp2
    go_ret
    exact ⟨rfl, rfl⟩
set_option maxRecDepth 100000 in
theorem refReply_any (n : Int) (hn : -9223372036854775808 ≤ n ∧ n ≤ 9223372036854775807) (W : World) :
    Calls Tryd.prog 16 #[.int .i64 n] W fun e W' => e = .returned (.tuple #[.int .i64 (replyI n), .bool (replyY n)]) ∧ W = W' := by
  have C := Lib.hid (fun w => refType_any n hn w)
  unfold replyI replyY
  cases h : typeF n with
  | false =>
    rw [h] at C
    rw [if_neg (by simp), Bool.false_and]
    clear h
    go_enter Tryd.func16, Tryd.ntmps16
    go_wp2_with fail
    refine (C.out _).mono ?_
    rintro e w ⟨rfl, rfl⟩
    go_wp2
    go_ret2
    exact ⟨rfl, rfl⟩
  | true =>
    rw [h] at C
    rw [Bool.true_and]
    have hb := typeF_bd h
    have h0 : 0 ≤ n := by omega
    have h9 : n ≤ 899 := hb.2.1
    clear h hb
    by_cases h1 : n / 10 % 10 = 0
    · rw [if_pos ⟨rfl, .inl h1⟩, decide_eq_true h1]
      have d1 : (n / 10 % 10 != 0) = false := by rw [h1]; rfl
      have HN := Lib.hid h1
      clear h1
      go_enter Tryd.func16, Tryd.ntmps16
      go_wp2_with fail
      refine (C.out _).mono ?_
      rintro e w ⟨rfl, rfl⟩
      go_wp2
      go_ret2
      exact ⟨rfl, rfl⟩
    · have d1 : (n / 10 % 10 != 0) = true := by rw [bne_iff_ne]; exact h1
      rw [decide_eq_false h1]
      by_cases h2 : n / 10 % 10 = 2
      · rw [if_pos ⟨rfl, .inr h2⟩, decide_eq_true h2]
        have d2 : (n / 10 % 10 != 2) = false := by rw [h2]; rfl
        clear h1 h2
        go_enter Tryd.func16, Tryd.ntmps16
        go_wp2_with fail
        refine (C.out _).mono ?_
        rintro e w ⟨rfl, rfl⟩
        go_wp2
        go_ret2
        exact ⟨rfl, rfl⟩
      · rw [if_neg (by rintro ⟨-, h | h⟩; exact h1 h; exact h2 h), decide_eq_false h2]
        have d2 : (n / 10 % 10 != 2) = true := by rw [bne_iff_ne]; exact h2
        clear h1 h2
        go_enter Tryd.func16, Tryd.ntmps16
        go_wp2_with fail
        refine (C.out _).mono ?_
        rintro e w ⟨rfl, rfl⟩
        go_wp2
        go_ret2
        exact ⟨rfl, rfl⟩

/-! ### messages -/
def fewF (l : List Fl) : Bool := decide (l.length ≤ 40) && l.all fun x => decide (x.2.length ≤ 450)
set_option maxRecDepth 100000 in
theorem refFew_any (t : Int) (A : Option Addr) (l : List Fl) (c : Nat) (W : World) (hc : l.length ≤ c) (hcm : c ≤ 9223372036854775807) (hr : RdF W W.heap.size A l) :
    Calls Tryd.prog 12 #[.agg #[.int .i64 t, .slice A l.length c]] W fun e W' => e = .returned (.bool (fewF l)) ∧ Below W.heap.size W W' := by
  have hn9 : l.length ≤ 9223372036854775807 := by omega
  obtain ⟨R, hR⟩ : ∃ R, R = fewF l := ⟨_, rfl⟩
  rw [← hR]
  have HR := Lib.hid (show R = (decide (l.length ≤ 40) && l.all fun x => decide (x.2.length ≤ 450)) from hR)
  obtain ⟨n, hn⟩ : ∃ n, n = l.length := ⟨_, rfl⟩
  have HN := Lib.hid hn
  rw [← hn] at hn9 ⊢
  have hb := (Below.refl W.heap.size W).alloc (Nat.le_refl _) (.cells #[.int .i64 t, .slice A n c] 24)
  have hg := heap_alloc_new W (.cells #[.int .i64 t, .slice A n c] 24)
  have RF := Lib.hid (hr.below hb (Nat.le_refl _))
  obtain ⟨V, hV⟩ : ∃ V, V = W.alloc (.cells #[.int .i64 t, .slice A n c] 24) := ⟨_, rfl⟩
  rw [← hV] at hb hg RF
  obtain ⟨f0, f1⟩ := cG2 hg
  have HB := Lib.hid hb
  have HV := Lib.hid hV
  clear hR hn hb hg hr hc hcm
  by_cases h40 : 40 < n
  · have HRF := Lib.hid (show R = false by rw [HR.out, ← HN.out, decide_eq_false (by omega), Bool.false_and])
    have i0 : (40 : Int) < (n : Int) := by omega
    rw [hV] at f1
    clear hV f0
    go_enter Tryd.func12, Tryd.ntmps12
    go_wp2
    go_ret
    exact ⟨by rw [HRF.out]; rfl, by rw [← HV.out]; exact HB.out⟩
  · have i0 : ¬ (40 : Int) < (n : Int) := by omega
    have f1' := f1
    rw [hV] at f1'
    clear hV f0
    go_enter Tryd.func12, Tryd.ntmps12
    go_wp2
    rw [← HV.out]
    clear f1' HV
    obtain ⟨s, hs⟩ : ∃ s, s = W.heap.size := ⟨_, rfl⟩
    rw [← hs] at f1 ⊢
    clear hs
    go_loop [3] (fun i => ∃ k : Nat, k ≤ n ∧ i = .int .i64 k ∧ Hid (∀ j (h : j < l.length), j < k → l[j].2.length ≤ 450)) (fun i => n - (intOf i).toNat)
    case atStart => exact ⟨0, Nat.zero_le _, rfl, Lib.hid (fun j h hj => absurd hj (by omega))⟩
    case round =>
      obtain ⟨k, hk, rfl, HT⟩ := hrel
      by_cases hlt : k < n
      · have hkl : k < l.length := by rw [← HN.out]; exact hlt
        obtain ⟨b, o, A1, c1, rfl, hbb, k1, k2, h3, h4, h5⟩ := RF.out.at_ hkl
        have HT2 := Lib.hid (fun (h : l[k].2.length ≤ 450) => (show ∀ j (h : j < l.length), j < k + 1 → l[j].2.length ≤ 450 from fun j hj hj2 => by
          by_cases e : j = k
          · subst e; exact h
          · exact HT.out j hj (by omega)))
        have HF := Lib.hid (fun (h : ¬ l[k].2.length ≤ 450) => (show R = false by
          rw [HR.out, Bool.and_eq_false_iff, List.all_eq_false]
          exact .inr ⟨l[k], List.getElem_mem _, by simp; omega⟩))
        have hki : (k : Int) < (n : Int) := by omega
        generalize l[k].2.length = q at *
        have hq9 : q ≤ 9223372036854775807 := by omega
        clear h3 h4 h5 HT k1
        by_cases h45 : q ≤ 450
        · have i1 : ¬ (450 : Int) < (q : Int) := by omega
          have HT3 := Lib.hid (HT2.out h45)
          clear HF HT2
          go_wp2
          go_round
          case rel => exact ⟨k + 1, by omega, by go_num, HT3⟩
          case measure => simp [intOf]; omega
        · have i1 : (450 : Int) < (q : Int) := by omega
          have HF2 := Lib.hid (HF.out h45)
          clear HF HT2
          go_wp2
          go_ret
          exact ⟨by rw [HF2.out]; rfl, HB.out⟩
      · have HT3 := Lib.hid (show R = true by
          rw [HR.out, ← HN.out, decide_eq_true (by omega), Bool.true_and, List.all_eq_true]
          intro x hx
          obtain ⟨j, hj, rfl⟩ := List.getElem_of_mem hx
          exact decide_eq_true (HT.out j hj (by have := HN.out; omega)))
        have hki : ¬ (k : Int) < (n : Int) := by omega
        clear HT
        go_wp2
        go_ret
        exact ⟨by rw [HT3.out]; rfl, HB.out⟩

def getL : List Fl → Int → List UInt8
  | [], _ => []
  | x :: r, no => if x.1 = no then x.2 else getL r no
def getY (l : List Fl) (no : Int) : Bool := l.any fun x => decide (x.1 = no)
set_option maxRecDepth 100000 in
theorem getL_at : ∀ (l : List Fl) (no : Int) (k : Nat) (hk : k < l.length), l[k].1 = no → (∀ j (h : j < l.length), j < k → l[j].1 ≠ no) → getL l no = l[k].2
  | [], _, k, hk, _, _ => by simp at hk
  | x :: r, no, 0, _, h, _ => by unfold getL; rw [if_pos (by simpa using h)]; rfl
  | x :: r, no, k + 1, hk, h, h2 => by
    unfold getL
    rw [if_neg (by have := h2 0 (by simp) (by omega); simpa using this)]
    have := getL_at r no k (by simpa using hk) (by simpa using h) (fun j hj hjk => by have := h2 (j + 1) (by simpa using hj) (by omega); simpa using this)
    simpa using this
set_option maxRecDepth 100000 in
theorem getL_none : ∀ (l : List Fl) (no : Int), (∀ j (h : j < l.length), l[j].1 ≠ no) → getL l no = []
  | [], _, _ => rfl
  | x :: r, no, h => by
    unfold getL
    rw [if_neg (by have := h 0 (by simp); simpa using this)]
    exact getL_none r no (fun j hj => by have := h (j + 1) (by simpa using hj); simpa using this)
set_option maxRecDepth 100000 in
theorem refGet_any (t : Int) (A : Option Addr) (l : List Fl) (c : Nat) (no : Int) (W : World) (hc : l.length ≤ c) (hcm : c ≤ 9223372036854775807) (hr : RdF W W.heap.size A l) :
    Calls Tryd.prog 31 #[.agg #[.int .i64 t, .slice A l.length c], .int .i64 no] W fun e W' => Ans W' e (getL l no) (getL l no).length (.bool (getY l no)) ∧ Below W.heap.size W W' := by
  have hn9 : l.length ≤ 9223372036854775807 := by omega
  have HGA := Lib.hid (fun k hk h h2 => getL_at l no k hk h h2)
  have HGN := Lib.hid (fun h => getL_none l no h)
  have HY := Lib.hid (show getY l no = l.any fun x => decide (x.1 = no) from rfl)
  generalize getL l no = G at *
  generalize getY l no = Y at *
  obtain ⟨n, hn⟩ : ∃ n, n = l.length := ⟨_, rfl⟩
  have HN := Lib.hid hn
  rw [← hn] at hn9 ⊢
  have hb := (Below.refl W.heap.size W).alloc (Nat.le_refl _) (.cells #[.int .i64 t, .slice A n c] 24)
  have hg := heap_alloc_new W (.cells #[.int .i64 t, .slice A n c] 24)
  have RF := Lib.hid (hr.below hb (Nat.le_refl _))
  obtain ⟨V, hV⟩ : ∃ V, V = W.alloc (.cells #[.int .i64 t, .slice A n c] 24) := ⟨_, rfl⟩
  rw [← hV] at hb hg RF
  obtain ⟨f0, f1⟩ := cG2 hg
  have HB := Lib.hid hb
  have HV := Lib.hid hV
  clear hn hb hg hr hc hcm f0 hV
  go_enter Tryd.func31, Tryd.ntmps31
  go_wp2
  rw [← HV.out]
  clear HV
  obtain ⟨s, hs⟩ : ∃ s, s = W.heap.size := ⟨_, rfl⟩
  rw [← hs] at f1 RF ⊢
  have HS := Lib.hid (show s ≤ V.heap.size by rw [hs]; exact HB.out.size)
  have HBS := HB
  clear hs HB
  go_loop [6] (fun i => ∃ k : Nat, k ≤ n ∧ i = .int .i64 k ∧ Hid (∀ j (h : j < l.length), j < k → l[j].1 ≠ no)) (fun i => n - (intOf i).toNat)
  case atStart => exact ⟨0, Nat.zero_le _, rfl, Lib.hid (fun j h hj => absurd hj (by omega))⟩
  case round =>
    obtain ⟨k, hk, rfl, HT⟩ := hrel
    by_cases hlt : k < n
    · have hkl : k < l.length := by rw [← HN.out]; exact hlt
      obtain ⟨b, o, A1, c1, rfl, hbb, k1, k2, h3, h4, h5⟩ := RF.out.at_ hkl
      have HT2 := Lib.hid (fun (h : l[k].1 ≠ no) => (show ∀ j (h : j < l.length), j < k + 1 → l[j].1 ≠ no from fun j hj hj2 => by
        by_cases e : j = k
        · subst e; exact h
        · exact HT.out j hj (by omega)))
      have HF := Lib.hid (fun (h : l[k].1 = no) => (show G = l[k].2 ∧ Y = true from ⟨HGA.out k hkl h HT.out, by
        rw [HY.out, List.any_eq_true]
        exact ⟨l[k], List.getElem_mem _, decide_eq_true h⟩⟩))
      have hki : (k : Int) < (n : Int) := by omega
      have H5 := Lib.hid h5
      generalize l[k].1 = z at *
      obtain ⟨p, hp⟩ : ∃ p, p = l[k].2 := ⟨_, rfl⟩
      rw [← hp] at HF H5 h3 k2
      obtain ⟨q, hq⟩ : ∃ q, q = p.length := ⟨_, rfl⟩
      have HQ := Lib.hid hq
      rw [← hq] at h3 k2
      clear hp hq h5 HT hbb
      by_cases h45 : z = no
      · have HF2 := Lib.hid (HF.out h45)
        have i1 : (z == no) = true := beq_iff_eq.2 h45
        clear HF HT2 h45
        go_wp2
        go_ret2
        obtain ⟨e1, e2⟩ := HF2.out
        exact ⟨⟨A1, c1, by rw [e1, e2, ← HQ.out]; rfl, by rw [e1, ← HQ.out]; exact h3, h4, by rw [e1]; exact H5.out.more HS.out⟩, HBS.out⟩
      · have HT3 := Lib.hid (HT2.out h45)
        have i1 : (z == no) = false := beq_eq_false_iff_ne.2 h45
        clear HF HT2 h45
        go_wp2
        go_round
        case rel => exact ⟨k + 1, by omega, by go_num, HT3⟩
        case measure => simp [intOf]; omega
    · have HT3 := Lib.hid (show G = [] ∧ Y = false from ⟨HGN.out (fun j hj => HT.out j hj (by have := HN.out; omega)), by
        rw [HY.out, List.any_eq_false]
        intro x hx
        obtain ⟨j, hj, rfl⟩ := List.getElem_of_mem hx
        have := HT.out j hj (by have := HN.out; omega)
        simpa using this⟩)
      have hki : ¬ (k : Int) < (n : Int) := by omega
      clear HT
      go_wp2
      go_ret2
      obtain ⟨e1, e2⟩ := HT3.out
      exact ⟨by rw [e1, e2]; exact AnsG.none, HBS.out⟩
end Go.Proofs.YtpfjecjfooefoaaDoor
/- The document's answers (iso): Same. -/

namespace Go.Proofs.YtpfjecjfooefoaaDoor
open Go.RowKit

set_option maxRecDepth 100000 in
/-- two blocks, just made -/
theorem alloc2G (W : World) (x y : Obj) : ∃ V, V = (W.alloc x).alloc y ∧ Below W.heap.size W V ∧ V.heap[W.heap.size]? = (W.alloc x).heap[W.heap.size]? ∧ V.heap[W.heap.size + 1]? = ((W.alloc x).alloc y).heap[W.heap.size + 1]? :=
  ⟨_, rfl, ((Below.refl W.heap.size W).alloc (Nat.le_refl _) x).alloc (by rw [World.size_alloc]; omega) y, heap_alloc_old (W.alloc x) y (by rw [World.size_alloc]; omega), rfl⟩
set_option maxRecDepth 100000 in
theorem box2 (W : World) (x y : Array Value) (t u : TypeId) : ∃ V, V = (W.alloc (.cells x t)).alloc (.cells y u) ∧ Below W.heap.size W V ∧ V.heap[W.heap.size]? = some (.cells x t (0, 0)) ∧ V.heap[W.heap.size + 1]? = some (.cells y u (0, 0)) := by
  obtain ⟨V, hV, hb, h1, h2⟩ := alloc2G W (.cells x t) (.cells y u)
  refine ⟨V, hV, hb, h1.trans (heap_alloc_new W _), ?_⟩
  have h3 := heap_alloc_new (W.alloc (.cells x t)) (.cells y u)
  rw [World.size_alloc] at h3
  exact h2.trans h3

set_option maxRecDepth 100000 in
set_option maxHeartbeats 4000000 in
theorem refSameM_any (t1 t2 : Int) (A B : Option Addr) (l m : List Fl) (c d : Nat) (W : World) (hc : l.length ≤ c) (hcm : c ≤ 9223372036854775807) (hr : RdF W W.heap.size A l) (hs : RdF W W.heap.size B m) :
    Calls Tryd.prog 21 #[.agg #[.int .i64 t1, .slice A l.length c], .agg #[.int .i64 t2, .slice B m.length d]] W fun e W' => e = .returned (.bool (decide (t1 = t2 ∧ l = m))) ∧ Below W.heap.size W W' := by
  obtain ⟨V, hV, hb, g1, g2⟩ := box2 W #[.int .i64 t1, .slice A l.length c] #[.int .i64 t2, .slice B m.length d] 24 24
  obtain ⟨R, hR⟩ : ∃ R, R = decide (t1 = t2 ∧ l = m) := ⟨_, rfl⟩
  rw [← hR]
  have HR := Lib.hid hR
  have hn9 : l.length ≤ 9223372036854775807 := by omega
  obtain ⟨e0, e1⟩ := cG2 g1
  obtain ⟨k0, k1⟩ := cG2 g2
  have HB := Lib.hid hb
  have HV := Lib.hid hV
  by_cases htn : ¬ t1 = t2
  · have HF := Lib.hid (show R = false by rw [hR]; exact decide_eq_false (fun h => htn h.1))
    have hb1 : (t1 != t2) = true := by rw [bne_iff_ne]; exact htn
    rw [hV] at e0 e1 k0 k1
    clear hR HR hr hs g1 g2 hb hV htn
    generalize l.length = n at *
    generalize m.length = q at *
    go_enter Tryd.func21, Tryd.ntmps21
    go_wp2
    go_ret
    exact ⟨by rw [HF.out]; rfl, by rw [← HV.out]; exact HB.out⟩
  have ht : t1 = t2 := Classical.byContradiction htn
  have hb1 : (t1 != t2) = false := by rw [ht]; simp
  clear htn
  by_cases hlmn : ¬ l.length = m.length
  · have HF := Lib.hid (show R = false by rw [hR]; exact decide_eq_false (fun h => hlmn (by rw [h.2])))
    have hb2 : ((l.length : Int) != (m.length : Int)) = true := by rw [bne_iff_ne]; omega
    rw [hV] at e0 e1 k0 k1
    have HT := Lib.hid ht
    clear hR HR hr hs g1 g2 hb hV ht hlmn
    generalize l.length = n at *
    generalize m.length = q at *
    go_enter Tryd.func21, Tryd.ntmps21
    go_wp2
    go_ret
    exact ⟨by rw [HF.out]; rfl, by rw [← HV.out]; exact HB.out⟩
  have hlm : l.length = m.length := Classical.byContradiction hlmn
  clear hlmn
  rw [← hlm] at k1 g2 HV ⊢
  have HT := Lib.hid ht
  have HLM := Lib.hid hlm
  have RA := Lib.hid (fun w (h : Below W.heap.size W w) => hr.below h (Nat.le_refl _))
  have RB := Lib.hid (fun w (h : Below W.heap.size W w) => hs.below h (Nat.le_refl _))
  obtain ⟨n, hn⟩ : ∃ n, n = l.length := ⟨_, rfl⟩
  have HN := Lib.hid hn
  rw [← hn] at hn9 e1 k1 g1 g2 HV ⊢
  have G1 := Lib.hid g1
  have G2 := Lib.hid g2
  have hb2 : ((n : Int) != (n : Int)) = false := by simp
  clear hR hr hs hb hV hn g1 g2 ht hlm
  rw [HV.out] at e0 e1 k0 k1
  go_enter Tryd.func21, Tryd.ntmps21
  go_wp2
  rw [← HV.out]
  clear e0 e1 k0 k1 HV hb1 hb2
  go_loopw [5] (fun i wr => ∃ k : Nat, k ≤ n ∧ i = .int .i64 k ∧ Hid (l.take k = m.take k) ∧ Hid (Below V.heap.size V wr)) (fun i _ => n - (intOf i).toNat)
  case atStart => exact ⟨0, Nat.zero_le _, rfl, Lib.hid (by simp), Lib.hid (Below.refl _ _)⟩
  case round =>
    obtain ⟨k, hk, rfl, HTK, HBV⟩ := hrel
    have HBW := Lib.hid (belG HB.out HBV.out HB.out.size)
    obtain ⟨-, e1⟩ := cG2 (oldG G1.out HBV.out (Nat.le_refl _))
    obtain ⟨-, k1⟩ := cG2 (oldG G2.out HBV.out (Nat.le_refl _))
    obtain ⟨s, hs⟩ : ∃ s, s = W.heap.size := ⟨_, rfl⟩
    have HSS := Lib.hid hs
    by_cases hlt : k < n
    · have hk1 : k < l.length := by rw [← HN.out]; exact hlt
      have hk2 : k < m.length := by rw [← HLM.out, ← HN.out]; exact hlt
      obtain ⟨b1, o1, A1, c1, rfl, hb1, x1, y1, h13, h14, h15⟩ := (RA.out _ HBW.out).at_ hk1
      obtain ⟨b2, o2, A2, c2, rfl, hb2, x2, y2, h23, h24, h25⟩ := (RB.out _ HBW.out).at_ hk2
      have HTN := Lib.hid (show l[k] = m[k] → l.take (k + 1) = m.take (k + 1) from fun h => by
        rw [List.take_succ_eq_append_getElem hk1, List.take_succ_eq_append_getElem hk2, HTK.out, h])
      have HNE := Lib.hid (show ¬ l[k] = m[k] → R = false from fun hne => by
        rw [HR.out]
        refine decide_eq_false (fun h => hne ?_)
        obtain ⟨_, h⟩ := h
        subst h
        rfl)
      obtain ⟨p1, q1⟩ := (show ∃ p q, p = l[k].1 ∧ q = l[k].2 from ⟨_, _, rfl, rfl⟩)
      obtain ⟨q1, hp1, hq1⟩ := q1
      obtain ⟨p2, q2⟩ := (show ∃ p q, p = m[k].1 ∧ q = m[k].2 from ⟨_, _, rfl, rfl⟩)
      obtain ⟨q2, hp2, hq2⟩ := q2
      rw [← hp1] at x1
      rw [← hp2] at x2
      rw [← hq1] at y1 h15
      rw [← hq2] at y2 h25
      have HEQ := Lib.hid (show l[k] = m[k] ↔ p1 = p2 ∧ q1 = q2 from by rw [hp1, hp2, hq1, hq2]; exact Prod.ext_iff)
      have hki : (k : Int) < (n : Int) := by omega
      have hk0 : (0 : Int) ≤ (k : Int) := Int.natCast_nonneg _
      have CS := Lib.hid (fun q => same_any A1 A2 q1 q2 c1 c2 _ _ (wr.drewN q) (h15.below (below_drewN (Below.refl W.heap.size wr) q) (Nat.le_refl _)) (h25.below (below_drewN (Below.refl W.heap.size wr) q) (Nat.le_refl _)))
      clear hp1 hp2 hq1 hq2 h13 h14 h15 h23 h24 h25 HTK HSS hs
      generalize q1.length = z1 at *
      generalize q2.length = z2 at *
      by_cases hno : p1 = p2
      · have d1 : (p1 != p2) = false := by simp [hno]
        by_cases hby : q1 = q2
        · have HTQ := Lib.hid (HTN.out (HEQ.out.2 ⟨hno, hby⟩))
          rw [decide_eq_true hby] at CS
          clear HTN HNE HEQ hno hby HR
          go_wp2
          go_quiet ((go_at_call 17; with_reducible exact Calls.quiet_of_same ((CS.out _).mono fun _ _ h => ⟨h.1, h.2.symm⟩)))
          go_wp2
          go_roundw
          case rel => exact ⟨k + 1, by omega, by go_num, HTQ, Lib.hid (below_drewN HBV.out _)⟩
          case measure => simp [intOf]; omega
        · have HRF := Lib.hid (HNE.out (fun h => hby (HEQ.out.1 h).2))
          rw [decide_eq_false hby] at CS
          clear HTN HNE HEQ hno hby HR
          go_wp2
          go_quiet ((go_at_call 17; with_reducible exact Calls.quiet_of_same ((CS.out _).mono fun _ _ h => ⟨h.1, h.2.symm⟩)))
          go_wp2
          go_ret
          exact ⟨by rw [HRF.out]; rfl, below_drewN HBW.out _⟩
      · have d1 : (p1 != p2) = true := by rw [bne_iff_ne]; exact hno
        have HRF := Lib.hid (HNE.out (fun h => hno (HEQ.out.1 h).1))
        clear HTN HNE HEQ hno HR CS
        go_wp2
        go_quiet (fail)
        go_wp2
        go_ret
        exact ⟨by rw [HRF.out]; rfl, below_drewN HBW.out _⟩
    · have HRT := Lib.hid (show R = true by
        rw [HR.out]
        have h := HTK.out
        have e1 : l.take k = l := List.take_of_length_le (by have := HN.out; omega)
        have e2 : m.take k = m := List.take_of_length_le (by have := HN.out; have := HLM.out; omega)
        rw [e1, e2] at h
        exact decide_eq_true ⟨HT.out, h⟩)
      have hki : ¬ (k : Int) < (n : Int) := by omega
      clear HTK HR
      go_wp2
      go_ret
      exact ⟨by rw [HRT.out]; rfl, HBW.out⟩
end Go.Proofs.YtpfjecjfooefoaaDoor
