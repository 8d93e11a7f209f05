import Derived.Test.YtnfakamfmkhlbaaGreatDoorInv2
namespace Go.Proofs.YtnfakamfmkhlbaaGreatDoor.C

/-! ### side -/
theorem side_back (s : ByteArray) (b : Bool) (h : sideS s = some b) : s.data.toList = [if b then 119 else 98] := by
  unfold sideS at h
  rw [Lib.toList_data] at h
  by_cases h1 : s.data.toList = [119]
  · rw [if_pos h1] at h; simp at h; subst h; exact h1
  · rw [if_neg h1] at h
    by_cases h2 : s.data.toList = [98]
    · rw [if_pos h2] at h; simp at h; subst h; exact h2
    · rw [if_neg h2] at h; simp at h
theorem side_forth (s : ByteArray) (b : Bool) (h : s.data.toList = [if b then 119 else 98]) : sideS s = some b := by
  unfold sideS
  rw [Lib.toList_data, h]
  cases b <;> rfl

/-! ### castlings -/
theorem rest_step (l : List UInt8) (i : Nat) : restS l i = (if leftS l i then [clc i] else []) ++ restS l (i + 1) := by
  show restS l i = (if Lib.hasPrefix (restS l i) [clc i] then [clc i] else []) ++ Lib.trimPrefix (restS l i) [clc i]
  unfold Lib.trimPrefix
  cases h : Lib.hasPrefix (restS l i) [clc i] with
  | false => simp
  | true =>
    simp only [if_true]
    unfold Lib.hasPrefix at h
    obtain ⟨t, ht⟩ := List.isPrefixOf_iff_prefix.mp h
    rw [← ht]; simp
theorem wc_rest (l : List UInt8) : ∀ i, l = wcS (leftS l) i ++ restS l i
  | 0 => rfl
  | i + 1 => by
      rw [wcS_step, List.append_assoc, ← rest_step]
      exact wc_rest l i
theorem castle_back (l : List UInt8) (f : Nat → Bool) (h : castS l = some f) : wcastS f = l := by
  unfold castS at h
  by_cases h1 : l = [45]
  · rw [if_pos h1] at h; simp at h; subst h; rw [h1]; rfl
  · rw [if_neg h1] at h
    by_cases h2 : (!l.isEmpty && (restS l 4).isEmpty) = true
    · rw [if_pos h2] at h
      simp at h
      subst h
      simp only [Bool.and_eq_true, Bool.not_eq_true', List.isEmpty_iff] at h2
      have := wc_rest l 4
      rw [h2.2, List.append_nil] at this
      unfold wcastS
      rw [← this]
      rw [h2.1]; rfl
    · rw [if_neg h2] at h; simp at h
def castOk3 (b0 b1 b2 b3 : Bool) : Bool :=
  match castS (wcastS (fun i => if i = 0 then b0 else if i = 1 then b1 else if i = 2 then b2 else b3)) with
  | some g => g 0 == b0 && g 1 == b1 && g 2 == b2 && g 3 == b3
  | none => false
theorem cast_all : ∀ b0 b1 b2 b3, castOk3 b0 b1 b2 b3 = true := by decide
theorem castle_forth (f : Nat → Bool) : ∃ g, castS (wcastS f) = some g ∧ g 0 = f 0 ∧ g 1 = f 1 ∧ g 2 = f 2 ∧ g 3 = f 3 := by
  have h := cast_all (f 0) (f 1) (f 2) (f 3)
  unfold castOk3 at h
  have e : wcastS (fun i => if i = 0 then f 0 else if i = 1 then f 1 else if i = 2 then f 2 else f 3) = wcastS f := rfl
  rw [e] at h
  cases hc : castS (wcastS f) with
  | none => rw [hc] at h; simp at h
  | some g =>
    rw [hc] at h
    simp only [Bool.and_eq_true, beq_iff_eq] at h
    exact ⟨g, rfl, h.1.1.1, h.1.1.2, h.1.2, h.2⟩

/-! ### behind -/
theorem two_list (s : ByteArray) (h : s.size = 2) : s.data.toList = [s[0], s[1]] := by
  have a := take_snoc s 0 (by omega)
  have b := take_snoc s 1 (by omega)
  have c : s.data.toList.take 2 = s.data.toList := List.take_of_length_le (by simp [h])
  rw [c, a] at b
  simpa using b
theorem behind_back (s : ByteArray) (n : Int) (h : behS s = some n) : wbehS n = s.data.toList ∧ (n = -1 ∨ (0 ≤ n ∧ n < 64)) := by
  unfold behS at h
  by_cases h1 : s.toList = [45]
  · rw [if_pos h1] at h; simp at h; subst h; rw [Lib.toList_data] at h1; rw [h1]; exact ⟨rfl, Or.inl rfl⟩
  · rw [if_neg h1] at h
    unfold sqS at h
    by_cases h2 : s.size = 2
    · rw [dif_pos h2] at h
      by_cases h3 : 97 ≤ s[0].toNat ∧ s[0].toNat ≤ 104 ∧ 49 ≤ s[1].toNat ∧ s[1].toNat ≤ 56
      · rw [if_pos h3] at h
        simp only [natI, Option.some.injEq] at h
        subst h
        refine ⟨?_, Or.inr (by omega)⟩
        unfold wbehS nameS
        rw [if_neg (by omega), two_list s h2, Int.toNat_natCast]
        rw [show 97 + (s[0].toNat - 97 + 8 * (s[1].toNat - 49)) % 8 = s[0].toNat from by omega, show 49 + (s[0].toNat - 97 + 8 * (s[1].toNat - 49)) / 8 = s[1].toNat from by omega]
        simp
      · rw [if_neg h3] at h; simp [natI] at h
    · rw [dif_neg h2] at h; simp [natI] at h
theorem beh_names : ∀ k, k < 64 → behS ⟨(nameS k).toArray⟩ = some ((k : Nat) : Int) := by decide +kernel
theorem beh_none : behS ⟨#[45]⟩ = some (-1) := by decide +kernel
theorem behind_forth (n : Int) (h : n = -1 ∨ (0 ≤ n ∧ n < 64)) (s : ByteArray) (hs : s.data.toList = wbehS n) : behS s = some n := by
  have e : s = ⟨(wbehS n).toArray⟩ := by cases s with | mk d => simp at hs ⊢; rw [← hs]
  rw [e]
  rcases h with rfl | ⟨h1, h2⟩
  · exact beh_none
  · obtain ⟨k, rfl⟩ := Int.eq_ofNat_of_zero_le h1
    have : wbehS (k : Int) = nameS k := by unfold wbehS; rw [if_neg (by omega)]; simp
    rw [this]
    exact beh_names k (by omega)

/-! ### clocks -/
theorem digit_back : ∀ n, n < 256 → dg (UInt8.ofNat n) = true → UInt8.ofNat (48 + (n - 48)) = UInt8.ofNat n ∧ 48 ≤ n ∧ n ≤ 57 := by decide +kernel
theorem dg_val (c : UInt8) (h : dg c = true) : UInt8.ofNat (48 + (c.toNat - 48)) = c ∧ 48 ≤ c.toNat ∧ c.toNat ≤ 57 := by
  have := digit_back c.toNat c.toNat_lt
  rw [UInt8.ofNat_toNat] at this
  exact this h
theorem dv_pos : ∀ (l : List UInt8), l ≠ [] → l.all dg = true → l.head? ≠ some 48 → 1 ≤ dv l := by
  intro l
  induction hn : l.length generalizing l with
  | zero => intro h; exact absurd (List.length_eq_zero_iff.mp hn) h
  | succ n ih =>
    intro hne ha hh
    obtain ⟨m, c, rfl⟩ : ∃ m c, l = m ++ [c] := ⟨l.dropLast, l.getLast hne, (List.dropLast_concat_getLast hne).symm⟩
    rw [dv_snoc]
    rw [List.all_append] at ha
    simp only [Bool.and_eq_true, List.all_cons, List.all_nil, Bool.and_true] at ha
    by_cases hm : m = []
    · subst hm
      have h48 : c ≠ 48 := by simpa using hh
      have := dg_val c ha.2
      have : c.toNat ≠ 48 := fun e => h48 (UInt8.toNat_inj.mp (by simpa using e))
      omega
    · have := ih m (by simpa using hn) hm ha.1 (by
        cases m with
        | nil => exact absurd rfl hm
        | cons x r => simpa using hh)
      omega
theorem dec_dv : ∀ (l : List UInt8), l ≠ [] → l.all dg = true → (1 < l.length → l.head? ≠ some 48) → Lib.decDigits (dv l) = l := by
  intro l
  induction hn : l.length generalizing l with
  | zero => intro h; exact absurd (List.length_eq_zero_iff.mp hn) h
  | succ n ih =>
    intro hne ha hh
    obtain ⟨m, c, rfl⟩ : ∃ m c, l = m ++ [c] := ⟨l.dropLast, l.getLast hne, (List.dropLast_concat_getLast hne).symm⟩
    rw [dv_snoc]
    rw [List.all_append] at ha
    simp only [Bool.and_eq_true, List.all_cons, List.all_nil, Bool.and_true] at ha
    obtain ⟨c1, c2, c3⟩ := dg_val c ha.2
    by_cases hm : m = []
    · subst hm
      unfold Lib.decDigits
      rw [dif_pos (by simp [dv]; omega)]
      simp [dv, c1]
    · have hh' : m.head? ≠ some 48 := by
        have := hh (by
          have : 0 < m.length := List.length_pos_iff.mpr hm
          simp at hn; omega)
        cases m with
        | nil => exact absurd rfl hm
        | cons x r => simpa using this
      have hp := dv_pos m hm ha.1 hh'
      unfold Lib.decDigits
      rw [dif_neg (by omega), show (10 * dv m + (c.toNat - 48)) / 10 = dv m from by omega, show (10 * dv m + (c.toNat - 48)) % 10 = c.toNat - 48 from by omega, c1, ih m (by simpa using hn) hm ha.1 (fun _ => hh')]
theorem clock_back (l : List UInt8) (n : Nat) (h : clkS l = some n) : Lib.itoa (n : Int) = l ∧ n ≤ 65535 := by
  unfold clkS at h
  split at h
  · rename_i hc
    simp at h
    subst h
    refine ⟨?_, hc.2.2.2.2⟩
    unfold Lib.itoa
    rw [if_neg (by omega), Int.toNat_natCast]
    exact dec_dv l (fun e => by subst e; simp at hc) hc.2.2.2.1 hc.2.2.1
  · simp at h
theorem dg_of : ∀ d, d < 10 → dg (UInt8.ofNat (48 + d)) = true ∧ (UInt8.ofNat (48 + d)).toNat - 48 = d := by decide +kernel
theorem dv_dec : ∀ k n, n ≤ k → dv (Lib.decDigits n) = n ∧ (Lib.decDigits n).all dg = true ∧ Lib.decDigits n ≠ [] ∧ (1 ≤ n → (Lib.decDigits n).head? ≠ some 48) := by
  intro k
  induction k with
  | zero =>
    intro n h
    have : n = 0 := by omega
    subst this
    unfold Lib.decDigits
    rw [dif_pos (by omega)]
    exact ⟨rfl, by decide, by simp, fun h => by omega⟩
  | succ k ih =>
    intro n h
    unfold Lib.decDigits
    by_cases hn : n < 10
    · rw [dif_pos hn]
      obtain ⟨d1, d2⟩ := dg_of n hn
      refine ⟨by show 10 * 0 + ((UInt8.ofNat (48 + n)).toNat - 48) = n; omega, by rw [List.all_cons, d1]; rfl, by simp, fun h1 => ?_⟩
      simp only [List.head?_cons, ne_eq, Option.some.injEq]
      intro e
      rw [e] at d2
      simp at d2
      omega
    · rw [dif_neg hn]
      obtain ⟨i1, i2, i3, i4⟩ := ih (n / 10) (by omega)
      obtain ⟨d1, d2⟩ := dg_of (n % 10) (by omega)
      refine ⟨by rw [dv_snoc, i1, d2]; omega, by rw [List.all_append, i2, List.all_cons, d1]; rfl, by simp, fun _ => ?_⟩
      have := i4 (by omega)
      cases hd : Lib.decDigits (n / 10) with
      | nil => exact absurd hd i3
      | cons x r => rw [hd] at this; simpa using this
theorem dec_len : ∀ k n, n < 10 ^ (k + 1) → (Lib.decDigits n).length ≤ k + 1 := by
  intro k
  induction k with
  | zero => intro n h; unfold Lib.decDigits; rw [dif_pos (by simpa using h)]; simp
  | succ k ih =>
    intro n h
    unfold Lib.decDigits
    by_cases hn : n < 10
    · rw [dif_pos hn]; simp
    · rw [dif_neg hn, List.length_append]
      have := ih (n / 10) (by rw [Nat.pow_succ] at h; omega)
      simp; omega
theorem clock_forth (n : Nat) (h : n ≤ 65535) : clkS (Lib.itoa (n : Int)) = some n := by
  have e : Lib.itoa (n : Int) = Lib.decDigits n := by unfold Lib.itoa; rw [if_neg (by omega), Int.toNat_natCast]
  obtain ⟨i1, i2, i3, i4⟩ := dv_dec n n (Nat.le_refl _)
  have hl := dec_len 4 n (by simp; omega)
  rw [e]
  unfold clkS
  rw [if_pos, i1]
  refine ⟨List.length_pos_iff.mpr i3, hl, fun h1 => ?_, i2, by rw [i1]; exact h⟩
  by_cases h0 : 1 ≤ n
  · exact i4 h0
  · have : n = 0 := by omega
    subst this
    unfold Lib.decDigits at h1
    rw [dif_pos (by omega)] at h1
    simp at h1

end Go.Proofs.YtnfakamfmkhlbaaGreatDoor.C
