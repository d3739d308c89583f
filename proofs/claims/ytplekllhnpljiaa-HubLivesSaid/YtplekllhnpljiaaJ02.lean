
/- A stream of frames, plain. -/
import Derived.Test.YtplekllhnpljiaaJ01
import Derived.Deep.Matrix
namespace Go.Proofs.Ytplekllhnpljiaa
open Go.RowKit

/-- a feed -/
structure Fd where
  buf : List UInt8
  skip : Int
  bad : Int
set_option maxRecDepth 100000 in
theorem Fd.ext' {a b : Fd} (h1 : a.buf = b.buf) (h2 : a.skip = b.skip) (h3 : a.bad = b.bad) : a = b := by cases a; cases b; simp_all
def nF (b : List UInt8) : Nat := 256 * (b.getD 0 0).toNat + (b.getD 1 0).toNat
def inc64 (x : Int) : Int := wrap64 (x + 1)
def packW (b : List UInt8) : List UInt8 := if 1 ≤ b.length ∧ b.length ≤ 1024 then UInt8.ofNat (b.length / 256) :: UInt8.ofNat (b.length % 256) :: b else []
def packE (b : List UInt8) : Int := if 1 ≤ b.length ∧ b.length ≤ 1024 then 0 else 1
/-- one byte -/
def oneF (f : Fd) (c : UInt8) : Fd × List UInt8 :=
  if 0 < f.skip then (⟨f.buf, f.skip - 1, f.bad⟩, [])
  else if f.buf.length + 1 < 2 then (⟨f.buf ++ [c], f.skip, f.bad⟩, [])
  else if nF (f.buf ++ [c]) = 0 ∨ 1024 < nF (f.buf ++ [c]) then (⟨[], (nF (f.buf ++ [c]) : Nat), inc64 f.bad⟩, [])
  else if f.buf.length + 1 < nF (f.buf ++ [c]) + 2 then (⟨f.buf ++ [c], f.skip, f.bad⟩, [])
  else (⟨[], 0, f.bad⟩, (f.buf ++ [c]).drop 2)
def rowF (r : List UInt8) : List (List UInt8) := if r = [] then [] else [r]
def pushF (f : Fd) : List UInt8 → Fd × List (List UInt8)
  | [] => (f, [])
  | c :: r => ((pushF (oneF f c).1 r).1, rowF (oneF f c).2 ++ (pushF (oneF f c).1 r).2)
set_option maxRecDepth 100000 in
theorem pushF_append : ∀ (a b : List UInt8) (f : Fd), pushF f (a ++ b) = ((pushF (pushF f a).1 b).1, (pushF f a).2 ++ (pushF (pushF f a).1 b).2)
  | [], b, f => by simp [pushF]
  | c :: a, b, f => by
    have ih := pushF_append a b (oneF f c).1
    show ((pushF (oneF f c).1 (a ++ b)).1, rowF (oneF f c).2 ++ (pushF (oneF f c).1 (a ++ b)).2) = _
    rw [ih]
    show _ = ((pushF (pushF (oneF f c).1 a).1 b).1, (rowF (oneF f c).2 ++ (pushF (oneF f c).1 a).2) ++ _)
    rw [List.append_assoc]
    rfl
set_option maxRecDepth 100000 in
theorem pushF_snoc (l : List UInt8) (k : Nat) (h : k < l.length) (f : Fd) : pushF f (l.take (k + 1)) = ((oneF (pushF f (l.take k)).1 l[k]).1, (pushF f (l.take k)).2 ++ rowF (oneF (pushF f (l.take k)).1 l[k]).2) := by
  rw [List.take_succ_eq_append_getElem h, pushF_append]
  simp [pushF]

def RightFd (f : Fd) : Prop := 0 ≤ f.skip ∧ f.skip ≤ 65535 ∧ (0 < f.skip → f.buf.length = 0) ∧ (f.buf.length < 2 ∨ (1 ≤ nF f.buf ∧ nF f.buf ≤ 1024 ∧ f.buf.length < nF f.buf + 2))
instance (f : Fd) : Decidable (RightFd f) := inferInstanceAs (Decidable (_ ∧ _ ∧ _ ∧ _))
set_option maxRecDepth 100000 in
theorem nF_lt (b : List UInt8) : nF b ≤ 65535 := by
  unfold nF
  have h1 := (b.getD 0 0).toNat_lt
  have h2 := (b.getD 1 0).toNat_lt
  omega
set_option maxRecDepth 100000 in
theorem RightFd.short {f : Fd} (h : RightFd f) : f.buf.length < 1026 := by
  obtain ⟨_, _, _, h4 | ⟨h5, h6, h7⟩⟩ := h <;> omega
set_option maxRecDepth 100000 in
theorem right_one {f : Fd} (h : RightFd f) (c : UInt8) : RightFd (oneF f c).1 := by
  obtain ⟨h1, h2, h3, h4⟩ := h
  unfold oneF
  split
  · rename_i hs
    exact ⟨by show 0 ≤ f.skip - 1; omega, by show f.skip - 1 ≤ _; omega, fun _ => h3 hs, h4⟩
  · rename_i hs
    have h0 : f.skip = 0 := by omega
    split
    · rename_i hb
      exact ⟨h1, h2, fun h => by simp only at h; omega, .inl (by simp; omega)⟩
    · rename_i hb
      split
      · have := nF_lt (f.buf ++ [c])
        exact ⟨by simp, by simp only; omega, fun _ => rfl, .inl (by simp)⟩
      · rename_i hn
        split
        · rename_i hl
          exact ⟨h1, h2, fun h => by simp only at h; omega, .inr ⟨by simp only; omega, by simp only; omega, by simp; omega⟩⟩
        · exact ⟨by simp, by simp, fun _ => rfl, .inl (by simp)⟩
set_option maxRecDepth 100000 in
theorem right_push : ∀ (b : List UInt8) {f : Fd}, RightFd f → RightFd (pushF f b).1
  | [], _, h => h
  | c :: r, _, h => right_push r (right_one h c)
set_option maxRecDepth 100000 in
/-- a row that came out has from 1 to 1024 bytes -/
theorem one_row {f : Fd} (c : UInt8) (h : RightFd f) (h0 : (oneF f c).2 ≠ []) : 1 ≤ (oneF f c).2.length ∧ (oneF f c).2.length ≤ 1024 := by
  have hs := h.short
  obtain ⟨h1, h2, h3, h4⟩ := h
  revert h0
  unfold oneF
  split
  · intro h; exact absurd rfl h
  · split
    · intro h; exact absurd rfl h
    · split
      · intro h; exact absurd rfl h
      · split
        · intro h; exact absurd rfl h
        · rename_i a1 a2 a3 a4
          intro _
          show 1 ≤ ((f.buf ++ [c]).drop 2).length ∧ ((f.buf ++ [c]).drop 2).length ≤ 1024
          rw [List.length_drop, List.length_append]
          simp only [List.length_cons, List.length_nil]
          omega
set_option maxRecDepth 100000 in
theorem push_rows : ∀ (b : List UInt8) {f : Fd}, RightFd f → ∀ r ∈ (pushF f b).2, 1 ≤ r.length ∧ r.length ≤ 1024
  | [], _, _, r, hr => absurd hr (by simp [pushF])
  | c :: b, f, h, r, hr => by
    rcases List.mem_append.1 hr with h1 | h1
    · unfold rowF at h1
      split at h1
      · simp at h1
      · rename_i h0
        have : r = (oneF f c).2 := by simpa using h1
        rw [this]
        exact one_row c h h0
    · exact push_rows b (right_one h c) r h1
set_option maxRecDepth 100000 in
theorem push_len : ∀ (b : List UInt8) (f : Fd), (pushF f b).2.length ≤ b.length
  | [], _ => Nat.le_refl _
  | c :: b, f => by
    have := push_len b (oneF f c).1
    show (rowF _ ++ _).length ≤ _
    rw [List.length_append]
    have : (rowF (oneF f c).2).length ≤ 1 := by unfold rowF; split <;> simp
    simp only [List.length_cons]
    omega

/-! ### what is packed comes out -/
set_option maxRecDepth 100000 in
theorem pack_len {b : List UInt8} (h : 1 ≤ b.length ∧ b.length ≤ 1024) : packW b = UInt8.ofNat (b.length / 256) :: UInt8.ofNat (b.length % 256) :: b ∧ (packW b).length = b.length + 2 := by
  unfold packW
  rw [if_pos h]
  exact ⟨rfl, by simp⟩
set_option maxRecDepth 100000 in
theorem pack_nF {b : List UInt8} (h : 1 ≤ b.length ∧ b.length ≤ 1024) (p q : List UInt8) (hp : packW b = p ++ q) (h2 : 2 ≤ p.length) : nF p = b.length := by
  rw [(pack_len h).1] at hp
  match p, h2 with
  | x :: y :: r, _ =>
    simp only [List.cons_append, List.cons.injEq] at hp
    obtain ⟨rfl, rfl, -⟩ := hp
    unfold nF
    simp only [List.getD_cons_zero, List.getD_cons_succ, UInt8.toNat_ofNat']
    omega
set_option maxRecDepth 100000 in
theorem push_part {b : List UInt8} (h : 1 ≤ b.length ∧ b.length ≤ 1024) (bad : Int) : ∀ (q p s : List UInt8), packW b = p ++ q ++ s → s ≠ [] → pushF ⟨p, 0, bad⟩ q = (⟨p ++ q, 0, bad⟩, [])
  | [], p, s, _, _ => by simp [pushF]
  | c :: r, p, s, hp, hs => by
    have hl := (pack_len h).2
    have hsl : 0 < s.length := List.length_pos_iff.2 hs
    have hlen : p.length + (r.length + 1) + s.length = b.length + 2 := by
      rw [← hl, hp]; simp; omega
    have ho : oneF ⟨p, 0, bad⟩ c = (⟨p ++ [c], 0, bad⟩, []) := by
      unfold oneF
      rw [if_neg (by simp)]
      by_cases h2 : p.length + 1 < 2
      · rw [if_pos h2]
      · rw [if_neg h2]
        have hn : nF (p ++ [c]) = b.length := pack_nF h (p ++ [c]) (r ++ s) (by rw [hp]; simp) (by simp; omega)
        simp only [hn]
        rw [if_neg (by omega), if_pos (by omega)]
    show ((pushF (oneF ⟨p, 0, bad⟩ c).1 r).1, rowF (oneF ⟨p, 0, bad⟩ c).2 ++ (pushF (oneF ⟨p, 0, bad⟩ c).1 r).2) = _
    rw [ho, push_part h bad r (p ++ [c]) s (by rw [hp]; simp) hs]
    simp [rowF]
set_option maxRecDepth 100000 in
theorem push_whole {b : List UInt8} (h : 1 ≤ b.length ∧ b.length ≤ 1024) (bad : Int) : pushF ⟨[], 0, bad⟩ (packW b) = (⟨[], 0, bad⟩, [b]) := by
  have hl := pack_len h
  obtain ⟨q, c, hq⟩ : ∃ q c, packW b = q ++ [c] := by
    rcases List.eq_nil_or_concat (packW b) with e | ⟨q, c, e⟩
    · rw [e] at hl; simp at hl
    · exact ⟨q, c, by rw [e, List.concat_eq_append]⟩
  have h1 := push_part h bad q [] [c] (by rw [hq]; simp) (by simp)
  rw [hq, pushF_append, h1]
  have hql : q.length + 1 = b.length + 2 := by rw [← hl.2, hq]; simp
  have hn : nF (q ++ [c]) = b.length := pack_nF h (q ++ [c]) [] (by rw [hq]; simp) (by simp; omega)
  have ho : oneF ⟨q, 0, bad⟩ c = (⟨[], 0, bad⟩, b) := by
    unfold oneF
    rw [if_neg (by simp), if_neg (by show ¬ q.length + 1 < 2; omega)]
    simp only [hn]
    rw [if_neg (by omega), if_neg (by show ¬ q.length + 1 < _; omega), ← hq, hl.1]
    rfl
  have hb : b ≠ [] := fun e => by rw [e] at h; simp at h
  show ((oneF ⟨[] ++ q, 0, bad⟩ c).1, [] ++ (rowF (oneF ⟨[] ++ q, 0, bad⟩ c).2 ++ [])) = _
  rw [List.nil_append, ho]
  simp [rowF, hb]
/-- rows, packed one behind the other -/
def packs (l : List (List UInt8)) : List UInt8 := l.flatMap packW
def okR (l : List (List UInt8)) : List (List UInt8) := l.filter fun b => decide (1 ≤ b.length ∧ b.length ≤ 1024)
set_option maxRecDepth 100000 in
theorem push_packs : ∀ (l : List (List UInt8)), pushF ⟨[], 0, 0⟩ (packs l) = (⟨[], 0, 0⟩, okR l)
  | [] => rfl
  | b :: l => by
    have ih := push_packs l
    show pushF _ (packW b ++ packs l) = _
    by_cases h : 1 ≤ b.length ∧ b.length ≤ 1024
    · rw [pushF_append, push_whole h 0, ih]
      unfold okR
      rw [List.filter_cons_of_pos (by simpa using h)]
      rfl
    · rw [show packW b = [] from if_neg h, List.nil_append, ih]
      unfold okR
      rw [List.filter_cons_of_neg (by simpa using h)]
/-- how many bytes frames take that hold rows -/
def packN (l : List (List UInt8)) : Nat := (l.map fun r => r.length + 2).sum
set_option maxRecDepth 100000 in
theorem packN_append (a b : List (List UInt8)) : packN (a ++ b) = packN a + packN b := by simp [packN]
set_option maxRecDepth 100000 in
/-- ahead of the end of a stream of packed rows nothing is passed over -/
theorem push_prefix : ∀ (l : List (List UInt8)) (k : Nat), k ≤ (packs l).length → (pushF ⟨[], 0, 0⟩ ((packs l).take k)).1.buf.length + packN (pushF ⟨[], 0, 0⟩ ((packs l).take k)).2 = k ∧ (pushF ⟨[], 0, 0⟩ ((packs l).take k)).1.skip = 0 ∧ (pushF ⟨[], 0, 0⟩ ((packs l).take k)).1.bad = 0
  | [], k, h => by
    have : k = 0 := by simpa [packs] using h
    subst this
    simp [pushF, packN]
  | b :: l, k, h => by
    have e : packs (b :: l) = packW b ++ packs l := rfl
    rw [e] at h ⊢
    by_cases hb : 1 ≤ b.length ∧ b.length ≤ 1024
    · have hl := (pack_len hb).2
      by_cases hk : k < (packW b).length
      · have h1 := push_part hb 0 ((packW b).take k) [] ((packW b).drop k) (by simp) (by intro e; have := congrArg List.length e; rw [List.length_drop] at this; simp at this; omega)
        rw [List.take_append_of_le_length (by omega), h1]
        simp [packN]
        omega
      · have h2 := push_prefix l (k - (packW b).length) (by rw [List.length_append] at h; omega)
        rw [List.take_append, List.take_of_length_le (by omega), pushF_append, push_whole hb 0]
        refine ⟨?_, h2.2.1, h2.2.2⟩
        have h3 := h2.1
        show _ + packN ([b] ++ _) = _
        rw [packN_append, show packN [b] = b.length + 2 by simp [packN]]
        show (pushF ⟨[], 0, 0⟩ ((packs l).take (k - (packW b).length))).1.buf.length + (b.length + 2 + packN (pushF ⟨[], 0, 0⟩ ((packs l).take (k - (packW b).length))).2) = k
        omega
    · rw [show packW b = [] from if_neg hb, List.nil_append] at h ⊢
      exact push_prefix l k h

/-! ### each byte is counted -/
def incN : Nat → Int → Int
  | 0, x => x
  | n + 1, x => incN n (inc64 x)
set_option maxRecDepth 100000 in
theorem push_counts : ∀ (b : List UInt8) (f : Fd), RightFd f → ∃ k S : Nat, k ≤ b.length ∧ (pushF f b).1.bad = incN k f.bad ∧ (k = 0 → S = 0) ∧
    (f.buf.length : Int) + b.length + (pushF f b).1.skip = packN (pushF f b).2 + (pushF f b).1.buf.length + f.skip + 2 * k + S ∧ packN (pushF f b).2 + (pushF f b).1.buf.length ≤ f.buf.length + b.length
  | [], f, h => ⟨0, 0, Nat.le_refl _, rfl, fun _ => rfl, by simp [pushF, packN], by simp [pushF, packN]⟩
  | c :: r, f, h => by
    obtain ⟨k, S, h1, h2, h3, h4, h5⟩ := push_counts r (oneF f c).1 (right_one h c)
    obtain ⟨r1, r2, r3, r4⟩ := h
    have hp : ∀ x, packN (rowF x ++ (pushF (oneF f c).1 r).2) = packN (rowF x) + packN (pushF (oneF f c).1 r).2 := fun x => packN_append _ _
    show ∃ k S : Nat, k ≤ r.length + 1 ∧ (pushF (oneF f c).1 r).1.bad = incN k f.bad ∧ (k = 0 → S = 0) ∧ (f.buf.length : Int) + (r.length + 1 : Nat) + (pushF (oneF f c).1 r).1.skip = packN (rowF (oneF f c).2 ++ (pushF (oneF f c).1 r).2) + (pushF (oneF f c).1 r).1.buf.length + f.skip + 2 * k + S ∧ packN (rowF (oneF f c).2 ++ (pushF (oneF f c).1 r).2) + (pushF (oneF f c).1 r).1.buf.length ≤ f.buf.length + (r.length + 1)
    rw [hp]
    have key : (∃ n : Nat, oneF f c = (⟨[], n, inc64 f.bad⟩, []) ∧ f.buf.length + 1 = 2 ∧ f.skip = 0) ∨ ((oneF f c).1.bad = f.bad ∧ (f.buf.length : Int) + 1 + (oneF f c).1.skip = packN (rowF (oneF f c).2) + (oneF f c).1.buf.length + f.skip ∧ packN (rowF (oneF f c).2) + (oneF f c).1.buf.length ≤ f.buf.length + 1) := by
      unfold oneF
      split
      · rename_i hs
        exact .inr ⟨rfl, by simp [rowF, packN]; omega, by simp [rowF, packN]⟩
      · rename_i hs
        split
        · exact .inr ⟨rfl, by simp [rowF, packN], by simp [rowF, packN]⟩
        · rename_i hb
          split
          · rename_i hn
            refine .inl ⟨_, rfl, ?_, by omega⟩
            by_cases hl2 : f.buf.length < 2
            · omega
            · exfalso
              rcases r4 with r4 | ⟨r5, r6, r7⟩
              · omega
              · have : nF (f.buf ++ [c]) = nF f.buf := by
                  unfold nF
                  match hf : f.buf, (show 2 ≤ f.buf.length by omega) with
                  | x :: y :: t, _ => rfl
                omega
          · rename_i hn
            split
            · exact .inr ⟨rfl, by simp [rowF, packN], by simp [rowF, packN]⟩
            · rename_i hl
              refine .inr ⟨rfl, ?_, ?_⟩
              · have hne : (f.buf ++ [c]).drop 2 ≠ [] := fun e => by
                  have := congrArg List.length e
                  simp at this
                  omega
                show _ = ((packN (rowF ((f.buf ++ [c]).drop 2)) : Nat) : Int) + _ + _
                unfold rowF
                rw [if_neg hne]
                simp [packN]
                omega
              · show packN (rowF ((f.buf ++ [c]).drop 2)) + 0 ≤ _
                unfold rowF
                split <;> simp [packN] <;> omega
    rcases key with ⟨n, e, e1, e2⟩ | ⟨e1, e2, e3⟩
    · rw [e] at h2 h4 h5 ⊢
      have hz : packN (rowF ([] : List UInt8)) = 0 := rfl
      simp only [List.length_nil] at h4 h5
      refine ⟨k + 1, S + n, by omega, h2, fun h => by omega, ?_, ?_⟩
      · simp only [hz]; push_cast; omega
      · simp only [hz]; omega
    · refine ⟨k, S, by omega, by rw [h2, e1], h3, ?_, ?_⟩
      · push_cast; omega
      · omega

/-! ### what is no frame is passed over -/
set_option maxRecDepth 100000 in
theorem push_skip (x : UInt8) (bad : Int) : ∀ n : Nat, pushF ⟨[], (n : Nat), bad⟩ (List.replicate n x) = (⟨[], 0, bad⟩, [])
  | 0 => rfl
  | n + 1 => by
    have ih := push_skip x bad n
    show ((pushF (oneF ⟨[], ((n + 1 : Nat) : Int), bad⟩ x).1 (List.replicate n x)).1, rowF (oneF ⟨[], ((n + 1 : Nat) : Int), bad⟩ x).2 ++ (pushF (oneF ⟨[], ((n + 1 : Nat) : Int), bad⟩ x).1 (List.replicate n x)).2) = _
    have ho : oneF ⟨[], ((n + 1 : Nat) : Int), bad⟩ x = (⟨[], (n : Nat), bad⟩, []) := by
      unfold oneF
      rw [if_pos (by show (0 : Int) < ((n + 1 : Nat) : Int); omega)]
      rw [show ((n + 1 : Nat) : Int) - 1 = (n : Int) by omega]
    rw [ho, ih]
    rfl
set_option maxRecDepth 100000 in
theorem push_bad (n : Nat) (h : n = 0 ∨ 1024 < n) (hn : n ≤ 65535) : pushF ⟨[], 0, 0⟩ [UInt8.ofNat (n / 256), UInt8.ofNat (n % 256)] = (⟨[], (n : Nat), 1⟩, []) := by
  have hnF : nF ([UInt8.ofNat (n / 256)] ++ [UInt8.ofNat (n % 256)]) = n := by
    unfold nF
    simp only [List.cons_append, List.nil_append, List.getD_cons_zero, List.getD_cons_succ, UInt8.toNat_ofNat']
    omega
  have h1 : oneF ⟨[], 0, 0⟩ (UInt8.ofNat (n / 256)) = (⟨[UInt8.ofNat (n / 256)], 0, 0⟩, []) := by
    unfold oneF
    rw [if_neg (by simp), if_pos (by simp)]
    rfl
  have h2 : oneF ⟨[UInt8.ofNat (n / 256)], 0, 0⟩ (UInt8.ofNat (n % 256)) = (⟨[], (n : Nat), 1⟩, []) := by
    unfold oneF
    rw [if_neg (by simp), if_neg (by simp)]
    simp only [hnF]
    rw [if_pos h, show inc64 0 = 1 by unfold inc64 wrap64; decide]
  show ((oneF (oneF ⟨[], 0, 0⟩ (UInt8.ofNat (n / 256))).1 (UInt8.ofNat (n % 256))).1, rowF (oneF ⟨[], 0, 0⟩ (UInt8.ofNat (n / 256))).2 ++ (rowF (oneF (oneF ⟨[], 0, 0⟩ (UInt8.ofNat (n / 256))).1 (UInt8.ofNat (n % 256))).2 ++ [])) = _
  rw [h1, h2]
  rfl
end Go.Proofs.Ytplekllhnpljiaa
/- A slice of slices of bytes that came in, read as a list of lists; yettref01.Long. -/

namespace Go.Proofs.Ytplekllhnpljiaa
open Go.ChangeShapes Go.WideShapes Go.ChangeAt Go.RowKit

/-- the slice at the address A reads as the rows ls, below block B -/
def Mat (w : World) (B : Nat) (A : Option Addr) (ls : List (List UInt8)) : Prop :=
  0 < ls.length → ∃ b o, A = some ⟨b, o, none⟩ ∧ b < B ∧ ∀ j (h : j < ls.length), ∃ A' c', w.cell? ⟨b, o + j, none⟩ = some (.slice A' ls[j].length c') ∧ ls[j].length ≤ c' ∧ c' ≤ 9223372036854775807 ∧ Rd w B A' ls[j]
set_option maxRecDepth 100000 in
theorem Mat.below {w w' : World} {B B' : Nat} {A : Option Addr} {ls : List (List UInt8)} (h : Mat w B A ls) (hb : Below B' w w') (hB : B ≤ B') : Mat w' B A ls := by
  intro h0
  obtain ⟨b, o, e, h1, h2⟩ := h h0
  refine ⟨b, o, e, h1, fun j hj => ?_⟩
  obtain ⟨A', c', f1, f2, f3, f4⟩ := h2 j hj
  exact ⟨A', c', (hb.cell (p := ⟨b, o + j, none⟩) (by show b < B'; omega)).trans f1, f2, f3, f4.below hb hB⟩
set_option maxRecDepth 100000 in
theorem Mat.more {w : World} {B B' : Nat} {A : Option Addr} {ls : List (List UInt8)} (h : Mat w B A ls) (hB : B ≤ B') : Mat w B' A ls := by
  intro h0
  obtain ⟨b, o, e, h1, h2⟩ := h h0
  refine ⟨b, o, e, by omega, fun j hj => ?_⟩
  obtain ⟨A', c', f1, f2, f3, f4⟩ := h2 j hj
  exact ⟨A', c', f1, f2, f3, f4.more hB⟩

set_option maxRecDepth 100000 in
theorem mat_in {H : Type} {enc : TypeId × Value → H} {W : World} {base fuel : Nat} {held : Bool} {a : Option Addr} {n c : Nat} {y : DataW H × List MemPlace}
    (hf : DataW.trod enc Try.prog W base (fun _ => true) held fuel 42 [.slice a n c] = some y) : ∃ ls : List (List UInt8), n = ls.length ∧ ls.length ≤ c ∧ c ≤ 9223372036854775807 ∧ Mat W W.heap.size a ls := by
  rcases Go.Deep.open_int_rows Try.underlying42 Try.underlying23 Try.underlying5 (by kernel_rfl) (by kernel_rfl) hf with ⟨hcs, _⟩ | ⟨x, len, cap, A, L, C, Z, hcs, hb, hl, hm, _, hrow⟩
  · simp at hcs
    obtain ⟨rfl, rfl, rfl⟩ := hcs
    exact ⟨[], rfl, by simp, by omega, fun h => absurd h (by simp)⟩
  · simp at hcs
    obtain ⟨rfl, rfl, rfl⟩ := hcs
    refine ⟨(List.range n).map fun r => ((Z r).take (L r)).map fun z => UInt8.ofNat z.toNat, by simp, by simpa using hl, by simpa [maxLen] using hm, fun h0 => ?_⟩
    have h0' : 0 < n := by simpa using h0
    obtain ⟨b, o, spot⟩ := x
    have hc0 := (hrow 0 (by omega)).1
    have hspot : spot = none := by simpa [Addr.add] using World.cell?_spot hc0
    subst hspot
    refine ⟨b, o, rfl, World.block_lt_of_cell? W ⟨b, o, none⟩ (by simpa [Addr.add] using hc0), fun j hj => ?_⟩
    have hj' : j < n := by simpa using hj
    obtain ⟨hc, hLC, hCm, hZ, hwz, _, hcells⟩ := hrow j (by omega)
    rw [Addr.add_lit] at hc
    have hlen : ((List.range n).map fun r => ((Z r).take (L r)).map fun z => UInt8.ofNat z.toNat)[j] = ((Z j).take (L j)).map fun z => UInt8.ofNat z.toNat := by simp
    rw [hlen]
    have hl2 : (((Z j).take (L j)).map fun z => UInt8.ofNat z.toNat).length = L j := by simp; omega
    refine ⟨A j, C j, by rw [hl2]; exact hc, by rw [hl2]; exact hLC, by simpa [maxLen] using hCm, fun hr0 => ?_⟩
    rw [hl2] at hr0
    cases hA : A j with
    | none => 
      have := (hrow j (by omega)).2.2.2.2.2.1 hA
      omega
    | some a' =>
      obtain ⟨_, hcell⟩ := hcells a' hA
      obtain ⟨b', o', spot'⟩ := a'
      have hd0 := hcell 0 (by omega)
      have hspot : spot' = none := by simpa [Addr.add] using World.cell?_spot hd0
      subst hspot
      refine ⟨b', o', rfl, World.block_lt_of_cell? W ⟨b', o', none⟩ (by simpa [Addr.add] using hd0), fun i hi => ?_⟩
      have hi' : i < L j := by rw [← hl2]; exact hi
      have hd := hcell i (by omega)
      rw [Addr.add_lit] at hd
      rw [hd]
      have hzi : i < (Z j).length := by omega
      have hw := u8_bd (hwz (Z j)[i] (List.getElem_mem hzi))
      have e : (Z j).getD i 0 = (Z j)[i] := by simp [List.getD, hzi]
      rw [e]
      simp only [List.getElem_map, List.getElem_take, UInt8.toNat_ofNat']
      congr 2
      omega

def tot (ls : List (List UInt8)) (k : Nat) : Nat := ((ls.take k).map List.length).sum
set_option maxRecDepth 100000 in
theorem tot_succ (ls : List (List UInt8)) (k : Nat) (h : k < ls.length) : tot ls (k + 1) = tot ls k + ls[k].length := by
  unfold tot
  rw [List.take_succ_eq_append_getElem h, List.map_append, List.sum_append]
  simp only [List.map_cons, List.map_nil, List.sum_cons, List.sum_nil, Nat.add_zero]
set_option maxRecDepth 100000 in
theorem tot_flat (ls : List (List UInt8)) (k : Nat) : ((ls.take k).flatten).length = tot ls k := by
  unfold tot
  rw [List.length_flatten]
set_option maxRecDepth 100000 in
theorem tot_mono (ls : List (List UInt8)) (k : Nat) (_h : k ≤ ls.length) : tot ls k ≤ tot ls ls.length := by
  have h2 := List.take_append_drop k ls
  have : tot ls ls.length = tot ls k + ((ls.drop k).map List.length).sum := by
    unfold tot
    rw [List.take_of_length_le (Nat.le_refl _)]
    conv => lhs; rw [← h2]
    rw [List.map_append, List.sum_append]
  omega
/-- what Long tells at 1000 -/
def LongIs (ls : List (List UInt8)) (e : Ending) : Prop := ∃ r : Int, e = .returned (.int .i64 r) ∧ (r ≤ 1000 → ls.length + tot ls ls.length ≤ 1000)
set_option maxRecDepth 100000 in
theorem LongIs.big {ls : List (List UInt8)} : LongIs ls (.returned (.int .i64 1001)) := ⟨1001, rfl, fun h => by omega⟩

end Go.Proofs.Ytplekllhnpljiaa
/- Cells that are no bytes. -/

namespace Go.Proofs.Ytplekllhnpljiaa
open Go.RowKit

/-- a cell that is no byte -/
def NoB : Value → Bool
  | .int .u8 _ => false
  | _ => true
set_option maxRecDepth 100000 in
/-- bytes never lie in such a row -/
theorem Rd.notF {w : World} {B g : Nat} {A : Option Addr} {l : List UInt8} {cur : Array Value} {t : TypeId} {fr : Nat × Nat} (h : Rd w B A l) (hg : w.heap[g]? = some (.cells cur t fr)) (hn : ∀ x ∈ cur.toList, NoB x = true) (h0 : 0 < l.length) : ∀ p, A = some p → p.block ≠ g := by
  intro p hp e
  obtain ⟨b, o, rfl, hb, hc⟩ := h h0
  cases hp
  have hbg : b = g := e
  subst hbg
  have h1 := hc 0 h0
  rw [Nat.add_zero, cell_of_row _ _ _ _ _ _ hg] at h1
  have hm : Value.int .u8 (l[0].toNat : Int) ∈ cur.toList := by
    obtain ⟨hlt, he⟩ := Array.getElem?_eq_some_iff.1 h1
    rw [← he]
    exact Array.getElem_mem_toList hlt
  have := hn _ hm
  exact absurd this (by simp [NoB])
end Go.Proofs.Ytplekllhnpljiaa
