
/- Package iso: takeType, takeList, takeValues, Read. -/
import Derived.Test.YtpfjecjfooefoaaDoorJ33
import Derived.Test.YtpfjecjfooefoaaDoorJ25
import Derived.Test.YtpfjecjfooefoaaDoorJ34
import Derived.Test.YtpfjecjfooefoaaDoorJ36
namespace Go.Proofs.YtpfjecjfooefoaaDoor
open Go.ChangeShapes Go.WideShapes Go.ChangeAt Go.RowKit

def ttF (b : List UInt8) : Int × Int × Int :=
  if b.length < 2 then (0, 0, 3) else if ¬ ((tbS b 0 4).2.2 = 0 ∧ typeF (rdN b : Int) = true) then (0, 0, 2) else ((rdN b : Int), 2, 0)
set_option maxRecDepth 100000 in
set_option maxHeartbeats 1000000 in
theorem takeType_any (A : Option Addr) (b : List UInt8) (c : Nat) (W : World) (hl : b.length ≤ 50000) (hc : b.length ≤ c) (hr : Rd W W.heap.size A b) :
    Calls Tryd.prog 53 #[.slice A b.length c] W fun e W' => e = .returned (.tuple #[.int .i64 (ttF b).1, .int .i64 (ttF b).2.1, .int .i64 (ttF b).2.2]) ∧ Below W.heap.size W W' := by
  have CT := Lib.hid (takeBcd_all A b c 0 4 W (by omega) hc hr)
  have CV := Lib.hid (fun w => (show Calls Tryd.prog 86 #[.string ⟨(tbS b 0 4).1.toArray⟩] w fun e W' => e = .returned (.tuple #[.int .i64 ((rdN b : Nat) : Int), .int .i64 (valR (tbS b 0 4).1).2]) ∧ Below w.heap.size w W' from value_all ⟨(tbS b 0 4).1.toArray⟩ w (by have := tbS_short b; simp [ByteArray.size]; omega)))
  have CY := Lib.hid (fun w => iType_is (rdN b : Int) (by have := valR_le (tbS b 0 4).1; have e : rdN b = (valR (tbS b 0 4).1).1 := rfl; unfold I64b; omega) w)
  have hte := tbS_err b 0 4 (by omega) (Nat.zero_le _)
  have hto := tbS_ok b 0 4
  obtain ⟨R, hR⟩ : ∃ R, R = ttF b := ⟨_, rfl⟩
  rw [← hR]
  unfold ttF at hR
  have h2 : b.length < 2 → (tbS b 0 4).2.2 = 3 := fun h => hte.1 (by omega)
  have h3 : (tbS b 0 4).2.2 = 0 → 2 ≤ b.length ∧ (tbS b 0 4).2.1 = 2 := fun h => ⟨by have := (hto h).1; omega, (hto h).2.1⟩
  have h4 : ¬ b.length < 2 → (tbS b 0 4).2.2 ≠ 3 := by
    intro h h5
    unfold tbS at h5
    rw [if_neg (by omega)] at h5
    simp only [show (0 : Int).toNat = 0 from rfl, show (4 : Int).toNat = 4 from rfl] at h5
    rw [if_neg (by omega)] at h5
    split at h5 <;> simp at h5
  have h5 := hte.2
  have HR := Lib.hid hR
  obtain ⟨q, hq⟩ : ∃ q, q = tbS b 0 4 := ⟨_, rfl⟩
  simp only [show ((0 : Nat) : Int) = 0 from rfl, show ((4 : Nat) : Int) = 4 from rfl] at h5
  rw [← hq] at CT CV HR h2 h3 h4 h5
  have H2 := Lib.hid h2
  have H3 := Lib.hid h3
  have H4 := Lib.hid h4
  clear hR hr hc hte hto hq h2 h3 h4
  generalize (valR q.1).2 = VE at *
  generalize rdN b = N at *
  generalize q.1 = S at *
  by_cases e0 : ¬ q.2.2 = 0
  · have HRE := Lib.hid (show R = (0, 0, q.2.2) by
      rw [HR.out]
      by_cases h : b.length < 2
      · rw [if_pos h, H2.out h]
      · rw [if_neg h, if_pos (fun h1 => e0 h1.1)]
        have : q.2.2 = 2 := by
          rcases h5 with h5 | h5 | h5
          · exact absurd h5 e0
          · exact h5
          · exact absurd h5 (H4.out h)
        rw [this])
    have i2 : (q.2.2 != 0) = true := by simpa using e0
    clear HR H2 H3 H4 h5 e0 CV CY
    generalize q.2.2 = x at *
    generalize q.2.1 = y at *
    generalize b.length = M at *
    go_enter Tryd.func53, Tryd.ntmps53
    go_wp2_with fail
    refine CT.out.mono ?_
    rintro e w1 ⟨rfl, hb⟩
    have HB := Lib.hid hb
    clear hb CT
    go_wp2
    go_ret3
    exact ⟨by rw [HRE.out]; rfl, HB.out⟩
  have e0 : q.2.2 = 0 := Classical.byContradiction e0
  have i2 : (q.2.2 != 0) = false := by rw [e0]; rfl
  obtain ⟨hm2, hy⟩ := H3.out e0
  have HRA := Lib.hid (show R = if typeF (N : Int) = true then ((N : Int), 2, 0) else (0, 0, 2) by
    rw [HR.out, if_neg (by omega)]
    by_cases h : typeF (N : Int) = true
    · rw [if_neg (fun h1 => h1 ⟨e0, h⟩), if_pos h]
    · rw [if_pos (fun h1 => h h1.2), if_neg h])
  rw [hy] at CT
  clear HR H2 H3 H4 h5 e0 hy
  generalize q.2.2 = x at *
  generalize b.length = M at *
  cases hty : typeF (N : Int) with
  | false =>
    have HRE := Lib.hid (show R = (0, 0, 2) by rw [HRA.out, if_neg (by rw [hty]; decide)])
    rw [hty] at CY
    clear hty HRA
    go_enter Tryd.func53, Tryd.ntmps53
    go_wp2_with fail
    refine CT.out.mono ?_
    rintro e w1 ⟨rfl, hb⟩
    have HB := Lib.hid hb
    clear hb CT
    go_wp2_with fail
    refine (CV.out _).mono ?_
    rintro e w2 ⟨rfl, hb⟩
    have HB2 := Lib.hid (belG HB.out hb HB.out.size)
    clear hb CV
    go_wp2_with fail
    refine (CY.out _).mono ?_
    rintro e w3 ⟨rfl, rfl⟩
    go_wp2
    go_ret3
    exact ⟨by rw [HRE.out]; rfl, HB2.out⟩
  | true =>
    have HRE := Lib.hid (show R = ((N : Int), 2, 0) by rw [HRA.out, if_pos hty])
    rw [hty] at CY
    clear hty HRA
    go_enter Tryd.func53, Tryd.ntmps53
    go_wp2_with fail
    refine CT.out.mono ?_
    rintro e w1 ⟨rfl, hb⟩
    have HB := Lib.hid hb
    clear hb CT
    go_wp2_with fail
    refine (CV.out _).mono ?_
    rintro e w2 ⟨rfl, hb⟩
    have HB2 := Lib.hid (belG HB.out hb HB.out.size)
    clear hb CV
    go_wp2_with fail
    refine (CY.out _).mono ?_
    rintro e w3 ⟨rfl, rfl⟩
    go_wp2
    go_ret3
    exact ⟨by rw [HRE.out]; rfl, HB2.out⟩
def tlF (b : List UInt8) (p : Int) : List Int × Int × Int :=
  if (readM b p).2.2 ≠ 0 then ([], 0, (readM b p).2.2) else if ¬ ∀ x ∈ (readM b p).1, fk x ≠ 0 then ([], 0, 2) else ((readM b p).1, (readM b p).2.1, 0)
set_option maxRecDepth 100000 in
set_option maxHeartbeats 2000000 in
theorem takeList_any (A : Option Addr) (b : List UInt8) (c : Nat) (p : Int) (W : World) (hl : b.length ≤ 50000) (hc : b.length ≤ c) (hcm : c ≤ 9223372036854775807) (hp : I64b p) (hr : Rd W W.heap.size A b) (hT : Tb W) :
    Calls Tryd.prog 54 #[.slice A b.length c, .int .i64 p] W fun e W' => AnsI3 W' e (tlF b p).1 (tlF b p).1.length (tlF b p).2.1 (tlF b p).2.2 ∧ Below W.heap.size W W' := by
  have CM := Lib.hid (bRead_any A b c p W (by omega) hc hcm hp hr)
  have CO := Lib.hid (fun no w (h : Below W.heap.size W w) => fOf_any no w (hT.below h))
  have HQL := Lib.hid (Nat.le_trans (readM_len b p) (show 130 ≤ 200 by omega))
  obtain ⟨R, hR⟩ : ∃ R, R = tlF b p := ⟨_, rfl⟩
  rw [← hR]
  unfold tlF at hR
  obtain ⟨Q, hQ⟩ : ∃ Q, Q = readM b p := ⟨_, rfl⟩
  rw [← hQ] at CM HQL hR
  have HR := Lib.hid hR
  clear hR hr hc hcm hp hT hQ
  generalize b.length = M at *
  go_enter Tryd.func54, Tryd.ntmps54
  go_wp2_with fail
  refine CM.out.mono ?_
  rintro e w3 ⟨⟨AL, cL, rfl, p1, p2, p3⟩, hb⟩
  have HB3 := Lib.hid hb
  have RL := Lib.hid (fun w (h : Below w3.heap.size w3 w) => p3.go h)
  have HP := Lib.hid (show Q.1.length ≤ cL ∧ cL ≤ 9223372036854775807 from ⟨p1, p2⟩)
  clear hb CM p1 p2 p3
  by_cases h4 : Q.2.2 ≠ 0
  · have HR1 := Lib.hid (show R = ([], 0, Q.2.2) from by rw [HR.out, if_pos h4])
    have i4 : (Q.2.2 != 0) = true := by simpa using h4
    clear HR CO HQL h4 RL HP
    generalize Q.2.2 = x at *
    generalize Q.2.1 = y at *
    generalize Q.1.length = z at *
    go_wp2
    go_ret3
    exact ⟨by rw [HR1.out]; exact AnsI3.none, HB3.out⟩
  have i4 : (Q.2.2 != 0) = false := by simpa using h4
  replace HR := Lib.hid (HR.out.trans (if_neg h4))
  clear h4
  obtain ⟨L, hL⟩ : ∃ L, L = Q.1 := ⟨_, rfl⟩
  rw [← hL] at HR RL HQL HP ⊢
  generalize Q.2.2 = QE at *
  generalize Q.2.1 = a0 at *
  clear hL
  obtain ⟨n, hn⟩ : ∃ n, n = L.length := ⟨_, rfl⟩
  have HN := Lib.hid hn
  have hn200 : n ≤ 200 := by rw [hn]; exact HQL.out
  rw [← hn] at HP ⊢
  clear hn
  go_wp2_with fail
  go_loopw [25] (fun i wr => ∃ k : Nat, k ≤ n ∧ i = .int .i64 k ∧ Hid (∀ j (h : j < L.length), j < k → fk L[j] ≠ 0) ∧ Hid (Below w3.heap.size w3 wr)) (fun i _ => n - (intOf i).toNat)
  case atStart => exact ⟨0, Nat.zero_le _, rfl, Lib.hid (fun j h hj => absurd hj (by omega)), Lib.hid (Below.refl _ _)⟩
  case round =>
    obtain ⟨k, hk, rfl, HT, HBV⟩ := hrel
    have HBW := Lib.hid (belG HB3.out HBV.out HB3.out.size)
    by_cases hlt : k < n
    · have hk1 : k < L.length := by rw [← HN.out]; exact hlt
      obtain ⟨bL, oL, rfl, hbL, x1⟩ := (RL.out _ HBV.out).at_ hk1
      have hki : (k : Int) < (n : Int) := by omega
      have hk0 : (0 : Int) ≤ (k : Int) := Int.natCast_nonneg _
      obtain ⟨xk, hxk⟩ : ∃ x, x = L[k] := ⟨_, rfl⟩
      rw [← hxk] at x1
      have HXK := Lib.hid hxk
      have CK := Lib.hid (CO.out xk wr HBW.out)
      clear hxk hbL
      by_cases h5 : fk xk = 0
      · have HR1 := Lib.hid (show R = ([], 0, 2) from by rw [HR.out, if_pos (fun h => h L[k] (List.getElem_mem hk1) (by rw [← HXK.out]; exact h5))])
        rw [decide_eq_false (show ¬ fk xk ≠ 0 by omega)] at CK
        generalize fk xk = kk at *
        generalize fl xk = nn at *
        clear HR CO HQL HT RL HN h5
        go_wp2_with fail
        refine CK.out.mono ?_
        rintro e w4 ⟨rfl, hb⟩
        have HB5 := Lib.hid (belG HBW.out (hb.alloc hb.size (.cells #[.int .i64 (kk : Int), .int .i64 (nn : Int)] 95)) HBW.out.size)
        clear hb CK x1
        go_wp2
        go_ret3
        exact ⟨by rw [HR1.out]; exact AnsI3.none, HB5.out⟩
      · have HTN := Lib.hid (show ∀ j (h : j < L.length), j < k + 1 → fk L[j] ≠ 0 from fun j h hj => by
          by_cases e : j = k
          · subst e; rw [← HXK.out]; exact h5
          · exact HT.out j h (by omega))
        rw [decide_eq_true (show fk xk ≠ 0 from h5)] at CK
        generalize fk xk = kk at *
        generalize fl xk = nn at *
        clear h5
        go_wp2_with fail
        refine CK.out.mono ?_
        rintro e w4 ⟨rfl, hb⟩
        have HB5 := Lib.hid (belG HBV.out (hb.alloc hb.size (.cells #[.int .i64 (kk : Int), .int .i64 (nn : Int)] 95)) HBV.out.size)
        clear hb CK x1
        go_wp2
        go_roundw
        case rel => exact ⟨k + 1, by omega, by go_num, HTN, HB5⟩
        case measure => simp [intOf]; omega
    · have hki : ¬ (k : Int) < (n : Int) := by omega
      have HR5 := Lib.hid (HR.out.trans (if_neg (fun h => h fun x hx => by
        obtain ⟨j, hj, rfl⟩ := List.getElem_of_mem hx
        exact HT.out j hj (by have := HN.out; omega))))
      clear HR HT
      go_wp2
      go_ret3
      exact ⟨by rw [HR5.out]; exact ⟨AL, cL, by rw [← HN.out]; rfl, by rw [← HN.out]; exact HP.out.1, HP.out.2, RL.out _ HBV.out⟩, HBW.out⟩

def tvF (b : List UInt8) (L : List Int) (a : Int) : List Fl × Int × Int :=
  if rdQ b L a ≠ 0 then ([], 0, rdQ b L a) else ((rdS b L a L.length).1, (rdS b L a L.length).2, 0)
/-- an answer: fields, in a row of the call's own (from block B on), and two numbers -/
def AnsV3 (B : Nat) (W' : World) (e : Ending) (l : List Fl) (n : Nat) (i x : Int) : Prop := ∃ A c us, e = .returned (.tuple #[.slice A n c, .int .i64 i, .int .i64 x]) ∧ n ≤ c ∧ c ≤ 9223372036854775807 ∧ OwF W' B (.slice A n c) us ∧ FEs W' us l
set_option maxRecDepth 100000 in
theorem ansV3_none {B : Nat} {W' : World} {x : Int} : AnsV3 B W' (.returned (.tuple #[.slice none 0 0, .int .i64 0, .int .i64 x])) [] 0 0 x := ⟨none, 0, [], rfl, Nat.le_refl _, by omega, OwF.nil, FEs.nil⟩

set_option maxRecDepth 100000 in
set_option maxHeartbeats 4000000 in
theorem takeValues_any (AL : Option Addr) (L : List Int) (cL : Nat) (A : Option Addr) (b : List UInt8) (c : Nat) (a0 : Int) (W : World) (hL : L.length ≤ 200) (hs : RdI W W.heap.size AL L) (hl : b.length ≤ 50000) (hc : b.length ≤ c) (hcm : c ≤ 9223372036854775807) (hr : Rd W W.heap.size A b) (hT : Tb W) :
    Calls Tryd.prog 55 #[.slice AL L.length cL, .slice A b.length c, .int .i64 a0] W fun e W' => AnsV3 W.heap.size W' e (tvF b L a0).1 (tvF b L a0).1.length (tvF b L a0).2.1 (tvF b L a0).2.2 ∧ Below W.heap.size W W' := by
  have CR := Lib.hid (fun no a w (h : Below W.heap.size W w) => fRead_any no A b c a w (by omega) hc hcm (hr.go h) (hT.below h))
  have RL := Lib.hid (fun w (h : Below W.heap.size W w) => hs.go h)
  obtain ⟨R, hR⟩ : ∃ R, R = tvF b L a0 := ⟨_, rfl⟩
  rw [← hR]
  unfold tvF at hR
  have HR := Lib.hid hR
  have HRL := Lib.hid (rdS_length b L a0 L.length)
  obtain ⟨n, hn⟩ : ∃ n, n = L.length := ⟨_, rfl⟩
  have HN := Lib.hid hn
  rw [← hn] at HR HRL hL ⊢
  obtain ⟨M, hM⟩ : ∃ M, M = b.length := ⟨_, rfl⟩
  rw [← hM] at CR ⊢
  clear hR hr hc hcm hT hs hn hl hM
  go_enter Tryd.func55, Tryd.ntmps55
  go_wp2
  go_loopw [17, 9, 2] (fun i vF a w => ∃ k : Nat, ∃ us : List V2f, k ≤ n ∧ i = .int .i64 k ∧ a = .int .i64 (rdS b L a0 k).2 ∧ Hid (OwF w W.heap.size vF us) ∧ Hid (FEs w us (rdS b L a0 k).1) ∧ Hid (∀ j, j < k → rdX b L a0 j = 0) ∧ Hid (Below W.heap.size W w)) (fun i _ _ _ => n - (intOf i).toNat)
  case atStart => exact ⟨0, [], Nat.zero_le _, rfl, rfl, Lib.hid OwF.nil, Lib.hid FEs.nil, Lib.hid (fun j hj => absurd hj (by omega)), Lib.hid (Below.refl _ _)⟩
  case round =>
    obtain ⟨k, us, hk, rfl, rfl, HO, HF, HE, HBV⟩ := hrel
    have HUL := Lib.hid (show us.length = k by rw [HF.out.1, rdS_length])
    by_cases hlt : k < n
    · have hk1 : k < L.length := by rw [← HN.out]; exact hlt
      obtain ⟨bL, oL, rfl, hbL, x1⟩ := (RL.out _ HBV.out).at_ hk1
      have hki : (k : Int) < (n : Int) := by omega
      have hk0 : (0 : Int) ≤ (k : Int) := Int.natCast_nonneg _
      have hgd : L.getD k 0 = L[k] := by rw [List.getD_eq_getElem?_getD, List.getElem?_eq_getElem hk1]; rfl
      have hnx : rdS b L a0 (k + 1) = ((rdS b L a0 k).1 ++ [(L[k], (readF L[k] b (rdS b L a0 k).2).1)], (readF L[k] b (rdS b L a0 k).2).2.1) := by
        show ((rdS b L a0 k).1 ++ [(L.getD k 0, (readF (L.getD k 0) b (rdS b L a0 k).2).1)], (readF (L.getD k 0) b (rdS b L a0 k).2).2.1) = _
        rw [hgd]
      have hxx : rdX b L a0 k = (readF L[k] b (rdS b L a0 k).2).2.2 := by unfold rdX; rw [hgd]
      obtain ⟨fs, hfs⟩ : ∃ x, x = (rdS b L a0 k).1 := ⟨_, rfl⟩
      rw [← hfs] at HF hnx
      obtain ⟨ak, hak⟩ : ∃ x, x = (rdS b L a0 k).2 := ⟨_, rfl⟩
      rw [← hak] at hnx hxx ⊢
      obtain ⟨xk, hxk⟩ : ∃ x, x = L[k] := ⟨_, rfl⟩
      rw [← hxk] at x1 hnx hxx
      have CRk := Lib.hid (CR.out xk ak _ HBV.out)
      obtain ⟨QQ, hqq⟩ : ∃ x, x = readF xk b ak := ⟨_, rfl⟩
      rw [← hqq] at CRk hnx hxx
      have HNX := Lib.hid hnx
      have HXX := Lib.hid hxx
      clear hfs hak hxk hqq hnx hxx hgd hbL
      go_wp2_with fail
      refine CRk.out.mono ?_
      rintro e w2 ⟨⟨A2, c2, rfl, q1, q2, q3⟩, hb⟩
      have HBV2 := Lib.hid (belG HBV.out hb HBV.out.size)
      have HO2 := Lib.hid (HO.out.call hb)
      have HF2 := Lib.hid (HF.out.go hb)
      have HFE := Lib.hid (show FE w2 w2.heap.size (.int .i64 xk, .slice A2 QQ.1.length c2) (xk, QQ.1) from ⟨A2, c2, rfl, q1, q2, q3⟩)
      clear hb CRk HBV HO HF x1 q1 q2 q3
      by_cases h6 : QQ.2.2 ≠ 0
      · have HR1 := Lib.hid (show R = ([], 0, QQ.2.2) from by
          have hq := rdQ_at hk1 HE.out (by rw [HXX.out]; exact h6)
          rw [HXX.out] at hq
          rw [HR.out, hq, if_pos h6])
        have i6 : (QQ.2.2 != 0) = true := by simpa using h6
        clear HR CR h6 RL HO2 HF2 HFE HE HNX HXX HUL HN
        generalize QQ.2.2 = x at *
        generalize QQ.2.1 = y at *
        generalize QQ.1.length = z at *
        go_wp2
        go_ret3
        exact ⟨by rw [HR1.out]; exact ansV3_none, HBV2.out⟩
      · have i6 : (QQ.2.2 != 0) = false := by simpa using h6
        have HEN := Lib.hid (show ∀ j, j < k + 1 → rdX b L a0 j = 0 from fun j hj => by
          by_cases e : j = k
          · subst e; rw [HXX.out]; exact Classical.byContradiction h6
          · exact HE.out j (by omega))
        have HU9 := Lib.hid (show us.length ≤ 1000000 by have := HUL.out; omega)
        have HAK := Lib.hid (show (rdS b L a0 (k + 1)).2 = QQ.2.1 by rw [HNX.out])
        have HFK := Lib.hid (show (rdS b L a0 (k + 1)).1 = fs ++ [(xk, QQ.1)] by rw [HNX.out])
        clear HXX HE HNX h6
        generalize QQ.2.2 = x at *
        generalize QQ.2.1 = y at *
        obtain ⟨z, hz⟩ : ∃ z, z = QQ.1.length := ⟨_, rfl⟩
        rw [← hz] at HFE
        rw [← hz]
        clear hz
        go_wp2_with (at_builtin; refine wpList_appF _ rfl (.tmp 32) (.tmp 36) rfl W.heap.size _ us rfl (by exact HO2.out.alloc _) w2.heap.size 1 rfl xk A2 z c2 (by exact (cG2 (heap_alloc_new w2 _)).1) (by exact (cG2 (heap_alloc_new w2 _)).2) HU9.out (by exact le_alloc HBV2.out.size _) ?_; intro v3 w3 hown3 hgrow3; have hb3 := OwF.below (w0 := W) (by exact HO2.out.alloc _) (by exact HBV2.out.alloc HBV2.out.size _) hgrow3 (by exact le_alloc HBV2.out.size _); have HB3 := Lib.hid hb3; have hal := (Below.refl w2.heap.size w2).alloc (Nat.le_refl _) (.cells #[.int .i64 xk, .slice A2 z c2] 60); have HF3 := Lib.hid (((HF2.out.snoc HFE.out).go hal).keep (fun _ _ hr => Rd.grownF hr (HO2.out.alloc _) hgrow3)); have HO3 := Lib.hid hown3; clear hown3 hgrow3 hb3 hal)
        go_roundw
        case rel => exact ⟨k + 1, _, by omega, by go_num, by rw [HAK.out], HO3, Lib.hid (by rw [HFK.out]; exact HF3.out), HEN, HB3⟩
        case measure => simp [intOf]; omega
    · have hki : ¬ (k : Int) < (n : Int) := by omega
      have hkn : k = n := by omega
      have HR1 := Lib.hid (show R = ((rdS b L a0 n).1, (rdS b L a0 n).2, 0) from by
        rw [HR.out, if_neg (fun h => h (rdQ_none (fun j hj => HE.out j (by rw [hkn, HN.out]; exact hj))))])
      rw [hkn] at HF ⊢
      obtain ⟨A9, c9, e9, q1, q2⟩ := HO.out.form
      subst e9
      have HQ := Lib.hid (show us.length ≤ c9 ∧ c9 ≤ 9223372036854775807 from ⟨q1, q2⟩)
      have HUN := Lib.hid (show us.length = (rdS b L a0 n).1.length from HF.out.1)
      clear q1 q2 HR HE hkn
      go_wp2
      go_ret3
      exact ⟨by rw [HR1.out, ← HUN.out]; exact ⟨A9, c9, us, rfl, HQ.out.1, HQ.out.2, HO.out, HF.out⟩, HBV.out⟩
set_option maxRecDepth 100000 in
theorem readMg_parts (b : List UInt8) : readMg b = if (ttF b).2.2 ≠ 0 then (0, [], (ttF b).2.2) else if (tlF b 2).2.2 ≠ 0 then (0, [], (tlF b 2).2.2)
    else if (tvF b (tlF b 2).1 (tlF b 2).2.1).2.2 ≠ 0 then (0, [], (tvF b (tlF b 2).1 (tlF b 2).2.1).2.2) else if (tvF b (tlF b 2).1 (tlF b 2).2.1).2.1 < (b.length : Int) then (0, [], 4)
    else ((ttF b).1, (tvF b (tlF b 2).1 (tlF b 2).2.1).1, 0) := by
  unfold readMg
  by_cases h1 : b.length < 2
  · have e : ttF b = (0, 0, 3) := by unfold ttF; rw [if_pos h1]
    rw [if_pos h1, e, if_pos (by decide)]
  rw [if_neg h1]
  by_cases h2 : ¬ ((tbS b 0 4).2.2 = 0 ∧ typeF (rdN b : Int) = true)
  · have e : ttF b = (0, 0, 2) := by unfold ttF; rw [if_neg h1, if_pos h2]
    rw [if_pos h2, e, if_pos (by decide)]
  have e : ttF b = ((rdN b : Int), 2, 0) := by unfold ttF; rw [if_neg h1, if_neg h2]
  rw [if_neg h2, e]
  refine Eq.trans ?_ (if_neg (show ¬ (((rdN b : Int), (2 : Int), (0 : Int)).2.2 ≠ 0) by simp)).symm
  by_cases h3 : (readM b 2).2.2 ≠ 0
  · have e2 : tlF b 2 = ([], 0, (readM b 2).2.2) := by unfold tlF; rw [if_pos h3]
    rw [if_pos h3, e2, if_pos h3]
  rw [if_neg h3]
  by_cases h4 : ¬ ∀ x ∈ (readM b 2).1, fk x ≠ 0
  · have e2 : tlF b 2 = ([], 0, 2) := by unfold tlF; rw [if_neg h3, if_pos h4]
    rw [if_pos h4, e2, if_pos (by decide)]
  have e2 : tlF b 2 = ((readM b 2).1, (readM b 2).2.1, 0) := by unfold tlF; rw [if_neg h3, if_neg h4]
  rw [if_neg h4, e2]
  refine Eq.trans ?_ (if_neg (show ¬ (((readM b 2).1, (readM b 2).2.1, (0 : Int)).2.2 ≠ 0) by simp)).symm
  by_cases h5 : rdQ b (readM b 2).1 (readM b 2).2.1 ≠ 0
  · have e3 : tvF b (readM b 2).1 (readM b 2).2.1 = ([], 0, rdQ b (readM b 2).1 (readM b 2).2.1) := by unfold tvF; rw [if_pos h5]
    rw [if_pos h5, e3, if_pos h5]
  have e3 : tvF b (readM b 2).1 (readM b 2).2.1 = ((rdS b (readM b 2).1 (readM b 2).2.1 (readM b 2).1.length).1, (rdS b (readM b 2).1 (readM b 2).2.1 (readM b 2).1.length).2, 0) := by unfold tvF; rw [if_neg h5]
  rw [if_neg h5, e3]
  exact (if_neg (show ¬ (((rdS b (readM b 2).1 (readM b 2).2.1 (readM b 2).1.length).1, (rdS b (readM b 2).1 (readM b 2).2.1 (readM b 2).1.length).2, (0 : Int)).2.2 ≠ 0) by simp)).symm
set_option maxRecDepth 100000 in
theorem tlF_len (b : List UInt8) (p : Int) : (tlF b p).1.length ≤ 200 := by
  unfold tlF
  split
  · simp
  · split
    · simp
    · exact Nat.le_trans (readM_len b p) (by omega)
set_option maxRecDepth 100000 in
theorem ttF_at (b : List UInt8) (h : (ttF b).2.2 = 0) : (ttF b).2.1 = 2 := by
  unfold ttF at h ⊢
  split at h
  · exact absurd h (by decide)
  · split at h
    · exact absurd h (by decide)
    · rename_i h1 h2
      rw [if_neg h1, if_neg h2]

set_option maxRecDepth 100000 in
set_option maxHeartbeats 4000000 in
theorem iRead_any (A : Option Addr) (b : List UInt8) (c : Nat) (W : World) (hl : b.length ≤ 50000) (hc : b.length ≤ c) (hcm : c ≤ 9223372036854775807) (hr : Rd W W.heap.size A b) (hT : Tb W) :
    Calls Tryd.prog 26 #[.slice A b.length c] W fun e W' => AnsMx W' e (readMg b).1 (readMg b).2.1 (readMg b).2.2 ∧ Below W.heap.size W W' := by
  have hb := (Below.refl W.heap.size W).alloc (Nat.le_refl _) (.cells #[.int .i64 0, .slice none 0 0] 24)
  have hg := heap_alloc_new W (.cells #[.int .i64 0, .slice none 0 0] 24)
  obtain ⟨V, hV⟩ : ∃ V, V = W.alloc (.cells #[.int .i64 0, .slice none 0 0] 24) := ⟨_, rfl⟩
  rw [← hV] at hb hg
  have RB := Lib.hid (fun w (h : Below V.heap.size V w) => (hr.go hb).go h)
  have TB := Lib.hid (fun w (h : Below V.heap.size V w) => (hT.below hb).below h)
  have CT := Lib.hid (takeType_any A b c V hl hc (hr.go hb))
  have CL := Lib.hid (fun w (h : Below V.heap.size V w) => takeList_any A b c 2 w hl hc hcm (by unfold I64b; omega) (RB.out w h) (TB.out w h))
  have CV := Lib.hid (fun AL cL w (h : Below V.heap.size V w) h1 => takeValues_any AL (tlF b 2).1 cL A b c (tlF b 2).2.1 w (tlF_len b 2) h1 hl hc hcm (RB.out w h) (TB.out w h))
  have HAT := Lib.hid (ttF_at b)
  obtain ⟨R, hR⟩ : ∃ R, R = readMg b := ⟨_, rfl⟩
  rw [← hR]
  rw [readMg_parts] at hR
  obtain ⟨X, hX⟩ : ∃ X, X = ttF b := ⟨_, rfl⟩
  obtain ⟨Y, hY⟩ : ∃ Y, Y = tlF b 2 := ⟨_, rfl⟩
  rw [← hX, ← hY] at hR
  rw [← hX] at CT HAT
  rw [← hY] at CL CV
  obtain ⟨Z, hZ⟩ : ∃ Z, Z = tvF b Y.1 Y.2.1 := ⟨_, rfl⟩
  rw [← hZ] at hR CV
  have HR := Lib.hid hR
  have HB := Lib.hid hb
  have HG := Lib.hid hg
  have HV := Lib.hid hV
  obtain ⟨M, hM⟩ : ∃ M, M = b.length := ⟨_, rfl⟩
  rw [← hM] at CT CL CV HR ⊢
  clear hR hX hY hZ hM hb hg hV hr hc hcm hT RB TB
  go_enter Tryd.func26, Tryd.ntmps26
  go_wp2_with fail
  rw [← HV.out]
  clear HV
  refine CT.out.mono ?_
  rintro e w1 ⟨rfl, hb⟩
  have HB1 := Lib.hid hb
  have HG1 := Lib.hid (oldG HG.out hb (Nat.le_refl _))
  clear hb CT
  by_cases h1 : X.2.2 ≠ 0
  · have HR1 := Lib.hid (show R = (0, [], X.2.2) from by rw [HR.out, if_pos h1])
    have i1 : (X.2.2 != 0) = true := by simpa using h1
    have HBE := Lib.hid (belG HB.out HB1.out HB.out.size)
    clear HR CL CV HAT h1
    generalize X.2.2 = x at *
    generalize X.2.1 = y at *
    generalize X.1 = z at *
    obtain ⟨y0, y1⟩ := cG2 HG1.out
    have z0 := fG HG1.out 0
    have z1 := fG HG1.out 1
    go_wp2
    (try simp only [Exit.inBlock, Exit.then])
    refine bodyPost_ret (retM2 rfl _ (set2G w1 W.heap.size (.int .i64 0) (.slice none 0 0)) W.heap.size _ _ _ rfl rfl (set2G_same _ _ HG1.out)) rfl ?_
    exact ⟨by rw [HR1.out]; exact ⟨none, 0, rfl, Nat.le_refl _, by omega, RdF.nil⟩, Below.set2G HBE.out (Nat.le_refl _) _ _⟩
  have i1 : (X.2.2 != 0) = false := by simpa using h1
  have HX2 := Lib.hid (HAT.out (Classical.byContradiction h1))
  replace HR := Lib.hid (HR.out.trans (if_neg h1))
  rw [HX2.out]
  clear h1 HAT HX2
  generalize X.2.2 = x at *
  generalize X.1 = N at *
  go_wp2_with fail
  refine (CL.out _ HB1.out).mono ?_
  rintro e w2 ⟨⟨AL, cL, rfl, p1, p2, p3⟩, hb⟩
  have HB2 := Lib.hid (belG HB1.out hb HB1.out.size)
  have HG2 := Lib.hid (oldG HG1.out hb (Nat.le_refl _))
  have RL := Lib.hid p3
  clear hb CL p1 p2 p3 HB1 HG1
  by_cases h2 : Y.2.2 ≠ 0
  · have HR1 := Lib.hid (show R = (0, [], Y.2.2) from by rw [HR.out, if_pos h2])
    have i2 : (Y.2.2 != 0) = true := by simpa using h2
    have HBE := Lib.hid (belG HB.out HB2.out HB.out.size)
    clear HR CV h2 RL
    generalize Y.2.2 = x2 at *
    generalize Y.2.1 = y2 at *
    generalize Y.1.length = z2 at *
    obtain ⟨y0, y1⟩ := cG2 HG2.out
    have z0 := fG HG2.out 0
    have z1 := fG HG2.out 1
    go_wp2
    (try simp only [Exit.inBlock, Exit.then])
    refine bodyPost_ret (retM2 rfl _ (set2G w2 W.heap.size (.int .i64 0) (.slice none 0 0)) W.heap.size _ _ _ rfl rfl (set2G_same _ _ HG2.out)) rfl ?_
    exact ⟨by rw [HR1.out]; exact ⟨none, 0, rfl, Nat.le_refl _, by omega, RdF.nil⟩, Below.set2G HBE.out (Nat.le_refl _) _ _⟩
  have i2 : (Y.2.2 != 0) = false := by simpa using h2
  replace HR := Lib.hid (HR.out.trans (if_neg h2))
  clear h2
  generalize Y.2.2 = x2 at *
  generalize Y.2.1 = y2 at *
  generalize Y.1 = L at *
  generalize L.length = n at *
  go_wp2_with fail
  refine (CV.out AL cL _ HB2.out RL.out).mono ?_
  rintro e w3 ⟨⟨A9, c9, us, rfl, p1, p2, ho, hf⟩, hb⟩
  have HB3 := Lib.hid (belG HB2.out hb HB2.out.size)
  have HG3 := Lib.hid (oldG HG2.out hb (Nat.le_refl _))
  have HO := Lib.hid ho
  have HF := Lib.hid hf
  have HP := Lib.hid (show Z.1.length ≤ c9 ∧ c9 ≤ 9223372036854775807 from ⟨p1, p2⟩)
  have HSB := Lib.hid (show W.heap.size < w2.heap.size from (Array.getElem?_eq_some_iff.1 HG2.out).1)
  have HBE := Lib.hid (belG HB.out HB3.out HB.out.size)
  clear hb CV p1 p2 ho hf HB2 HG2 RL HB3
  by_cases h3 : Z.2.2 ≠ 0
  · have HR1 := Lib.hid (show R = (0, [], Z.2.2) from by rw [HR.out, if_pos h3])
    have i3 : (Z.2.2 != 0) = true := by simpa using h3
    clear HR h3 HO HF HP
    generalize Z.2.2 = x3 at *
    generalize Z.2.1 = y3 at *
    generalize Z.1.length = z3 at *
    obtain ⟨y0, y1⟩ := cG2 HG3.out
    have z0 := fG HG3.out 0
    have z1 := fG HG3.out 1
    go_wp2
    (try simp only [Exit.inBlock, Exit.then])
    refine bodyPost_ret (retM2 rfl _ (set2G w3 W.heap.size (.int .i64 0) (.slice none 0 0)) W.heap.size _ _ _ rfl rfl (set2G_same _ _ HG3.out)) rfl ?_
    exact ⟨by rw [HR1.out]; exact ⟨none, 0, rfl, Nat.le_refl _, by omega, RdF.nil⟩, Below.set2G HBE.out (Nat.le_refl _) _ _⟩
  have i3 : (Z.2.2 != 0) = false := by simpa using h3
  replace HR := Lib.hid (HR.out.trans (if_neg h3))
  clear h3
  generalize Z.2.2 = x3 at *
  by_cases h4 : Z.2.1 < (M : Int)
  · have HR1 := Lib.hid (show R = (0, [], 4) from by rw [HR.out, if_pos h4])
    clear HR HO HF HP
    generalize Z.2.1 = y3 at *
    generalize Z.1.length = z3 at *
    obtain ⟨y0, y1⟩ := cG2 HG3.out
    have z0 := fG HG3.out 0
    have z1 := fG HG3.out 1
    go_wp2
    (try simp only [Exit.inBlock, Exit.then])
    refine bodyPost_ret (retM2 rfl _ (set2G w3 W.heap.size (.int .i64 0) (.slice none 0 0)) W.heap.size _ _ _ rfl rfl (set2G_same _ _ HG3.out)) rfl ?_
    exact ⟨by rw [HR1.out]; exact ⟨none, 0, rfl, Nat.le_refl _, by omega, RdF.nil⟩, Below.set2G HBE.out (Nat.le_refl _) _ _⟩
  have HR1 := Lib.hid (HR.out.trans (if_neg h4))
  clear HR
  generalize Z.2.1 = y3 at *
  obtain ⟨F, hF⟩ : ∃ F, F = Z.1 := ⟨_, rfl⟩
  rw [← hF] at HR1 HO HF HP ⊢
  clear hF
  obtain ⟨q, hq⟩ : ∃ q, q = F.length := ⟨_, rfl⟩
  have HQ := Lib.hid hq
  rw [← hq] at HO HP ⊢
  clear hq
  obtain ⟨k1, k2, k3⟩ := boxed (t := N) HG3.out rfl HSB.out HO.out HF.out
  have K1 := Lib.hid k1
  have K2 := Lib.hid (k2.rd k3)
  clear k1 k2 k3
  obtain ⟨y0, y1⟩ := cG2 HG3.out
  have z0 := fG HG3.out 0
  have z1 := fG HG3.out 1
  go_wp2
  (try simp only [Exit.inBlock, Exit.then])
  refine bodyPost_ret (retM2 rfl _ (set2G w3 W.heap.size (.int .i64 N) (.slice A9 q c9)) W.heap.size _ _ _ rfl rfl K1.out) rfl ?_
  exact ⟨by rw [HR1.out]; exact ⟨A9, c9, by rw [← HQ.out]; rfl, by rw [← HQ.out]; exact HP.out.1, HP.out.2, K2.out⟩, Below.set2G HBE.out (Nat.le_refl _) _ _⟩
end Go.Proofs.YtpfjecjfooefoaaDoor
