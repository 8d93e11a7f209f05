import Derived.Test.YtnfakamfmkhlbaaGreatDoorBits
import Derived.Lib.TrailingZeros
namespace Go.Proofs.YtnfakamfmkhlbaaGreatDoor.P

/-! the squares of a set, from the lowest on -/
def sqs (s : BitVec 64) : List Nat := (List.range 64).filter (fun i => s.getLsbD i)
theorem sqs_mem (s : BitVec 64) (i : Nat) : i ∈ sqs s ↔ i < 64 ∧ s.getLsbD i = true := by
  unfold sqs; rw [List.mem_filter, List.mem_range]
theorem low_exists (s : BitVec 64) (h : s ≠ 0#64) : ∃ t, t < 64 ∧ s.getLsbD t = true ∧ ∀ j, j < t → s.getLsbD j = false := by
  have h1 : ∃ t, s.getLsbD t = true := by
    refine Classical.byContradiction fun hn => h ?_
    apply BitVec.eq_of_getLsbD_eq
    intro i hi
    rw [BitVec.getLsbD_zero]
    cases e : s.getLsbD i with
    | false => rfl
    | true => exact absurd ⟨i, e⟩ hn
  have : ∀ n t, t ≤ n → s.getLsbD t = true → ∃ u, s.getLsbD u = true ∧ ∀ j, j < u → s.getLsbD j = false := by
    intro n
    induction n with
    | zero => intro t ht e; exact ⟨t, e, fun j hj => by omega⟩
    | succ n ih =>
      intro t ht e
      by_cases hx : ∃ j, j < t ∧ s.getLsbD j = true
      · obtain ⟨j, hj, ej⟩ := hx
        exact ih j (by omega) ej
      · refine ⟨t, e, fun j hj => ?_⟩
        cases e' : s.getLsbD j with
        | false => rfl
        | true => exact absurd ⟨j, hj, e'⟩ hx
  obtain ⟨t, e⟩ := h1
  obtain ⟨u, e1, e2⟩ := this t t (Nat.le_refl _) e
  refine ⟨u, ?_, e1, e2⟩
  refine Classical.byContradiction fun hn => ?_
  rw [BitVec.getLsbD_of_ge s u (by omega)] at e1
  exact absurd e1 (by decide)
theorem and_neg (s : BitVec 64) (t : Nat) (ht : t < 64) (h1 : s.getLsbD t = true) (h2 : ∀ j, j < t → s.getLsbD j = false) : s &&& -s = 1#64 <<< t := by
  apply BitVec.eq_of_getLsbD_eq
  intro i hi
  rw [BitVec.getLsbD_and, BitVec.getLsbD_neg, one_bit t ht i hi]
  simp only [hi, decide_true, Bool.true_and]
  rcases Nat.lt_trichotomy i t with h | h | h
  · rw [h2 i h]
    have : decide (i = t) = false := by simp; omega
    rw [this]; simp
  · subst h
    have : decide (∃ j, j < i ∧ s.getLsbD j = true) = false := by
      rw [decide_eq_false_iff_not]
      rintro ⟨j, hj, e⟩
      rw [h2 j hj] at e; exact absurd e (by decide)
    rw [this, h1]; simp
  · have : decide (∃ j, j < i ∧ s.getLsbD j = true) = true := by
      rw [decide_eq_true_eq]; exact ⟨t, h, h1⟩
    have h3 : decide (i = t) = false := by simp; omega
    rw [this, h3]
    cases s.getLsbD i <;> rfl
theorem sub_one_bit (s : BitVec 64) (t : Nat) (h1 : s.getLsbD t = true) (h2 : ∀ j, j < t → s.getLsbD j = false) (i : Nat) (hi : i < 64) : (s &&& (s - 1#64)).getLsbD i = (s.getLsbD i && !decide (i = t)) := by
  have e := sub_bit s 0 (by omega) i hi
  have e0 : (1#64 <<< 0) = 1#64 := by decide
  rw [e0] at e
  have hc := carry_iff s 0 (by omega) i (by omega)
  rw [e0] at hc
  rw [BitVec.getLsbD_and, e]
  generalize BitVec.carry i s (-1#64) false = b at hc ⊢
  have : decide (0 ≤ i) = true := by simp
  rw [this]
  cases hs : s.getLsbD i with
  | false => simp
  | true =>
    by_cases hit : i = t
    · have hb : b = false := by
        cases hb : b with
        | false => rfl
        | true =>
          obtain ⟨z, _, z2, z3⟩ := hc.mp hb
          rw [h2 z (by omega)] at z3; exact absurd z3 (by decide)
      rw [hb]; simp [hit]
    · have hb : b = true := by
        refine hc.mpr ⟨t, by omega, ?_, h1⟩
        rcases Nat.lt_trichotomy i t with h | h | h
        · rw [h2 i h] at hs; exact absurd hs (by decide)
        · exact absurd h hit
        · exact h
      rw [hb]; simp [hit]
theorem sqs_step (s : BitVec 64) (t : Nat) (ht : t < 64) (h1 : s.getLsbD t = true) (h2 : ∀ j, j < t → s.getLsbD j = false) : sqs s = t :: sqs (s &&& (s - 1#64)) := by
  unfold sqs
  have e : List.range 64 = List.range t ++ (t :: (List.range' (t + 1) (63 - t))) := by
    rw [List.range_eq_range', List.range_eq_range', show 64 = t + (1 + (63 - t)) from by omega, ← List.range'_append_1]
    congr 1
    rw [Nat.zero_add, Nat.add_comm 1 (63 - t), List.range'_succ]
  rw [e, List.filter_append, List.filter_append, List.filter_cons, List.filter_cons]
  have a1 : (List.range t).filter (fun i => s.getLsbD i) = [] := by
    rw [List.filter_eq_nil_iff]; intro j hj; rw [h2 j (List.mem_range.mp hj)]; simp
  have a2 : (List.range t).filter (fun i => (s &&& (s - 1#64)).getLsbD i) = [] := by
    rw [List.filter_eq_nil_iff]; intro j hj
    have hj' := List.mem_range.mp hj
    rw [sub_one_bit s t h1 h2 j (by omega), h2 j hj']; simp
  have a3 : (s &&& (s - 1#64)).getLsbD t = false := by rw [sub_one_bit s t h1 h2 t ht]; simp
  rw [a1, a2, h1, a3]
  simp only [List.nil_append, if_true, Bool.false_eq_true, if_false]
  congr 1
  apply List.filter_congr
  intro j hj
  have : t + 1 ≤ j ∧ j < 64 := by have := List.mem_range'_1.mp hj; omega
  rw [sub_one_bit s t h1 h2 j this.2]
  have : decide (j = t) = false := by simp; omega
  rw [this]; simp
theorem sqs_zero : sqs 0#64 = [] := by decide +kernel

theorem ctz_is (s : BitVec 64) (t : Nat) (h1 : s.getLsbD t = true) (h2 : ∀ j, j < t → s.getLsbD j = false) : Lib.ctz 64 s.toNat = t := by
  have hne : s.toNat ≠ 0 := fun e => by
    have : s = 0#64 := BitVec.eq_of_toNat_eq (by simpa using e)
    rw [this] at h1; simp at h1
  unfold Lib.ctz
  rw [if_neg hne]
  obtain ⟨m, e, hc⟩ := Lib.ctzFrom_spec 64 s.toNat (by omega) s.isLt
  generalize Lib.ctzFrom 64 s.toNat = c at e hc
  have hbit : ∀ j, s.getLsbD j = decide (s.toNat / 2 ^ j % 2 = 1) := fun j => by rw [BitVec.getLsbD, Nat.testBit_eq_decide_div_mod_eq]
  rcases Nat.lt_trichotomy c t with h | h | h
  · have := h2 c h
    rw [hbit c, e, Nat.mul_div_cancel_left _ (Nat.two_pow_pos c)] at this
    simp at this
  · exact h
  · rw [hbit t, e] at h1
    rw [show 2 ^ c * (2 * m + 1) = 2 ^ t * (2 * (2 ^ (c - t - 1) * (2 * m + 1))) from by
      rw [show c = t + (1 + (c - t - 1)) from by omega, Nat.pow_add, Nat.pow_add, show t + (1 + (c - t - 1)) - t - 1 = c - t - 1 from by omega]
      simp [Nat.mul_assoc]] at h1
    rw [Nat.mul_div_cancel_left _ (Nat.two_pow_pos t)] at h1
    simp at h1

end Go.Proofs.YtnfakamfmkhlbaaGreatDoor.P
