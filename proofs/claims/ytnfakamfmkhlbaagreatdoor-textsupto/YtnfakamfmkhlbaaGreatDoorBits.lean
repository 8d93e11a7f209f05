import Derived.Test.YtnfakamfmkhlbaaGreatDoorPlain
import Derived.Laws.Bits64
namespace Go.Proofs.YtnfakamfmkhlbaaGreatDoor.P

def U (b : BitVec 64) : Int := (b.toNat : Int)

theorem U_nonneg (b : BitVec 64) : 0 ≤ U b := Int.natCast_nonneg _
theorem U_lt (b : BitVec 64) : U b < 18446744073709551616 := by
  unfold U; have := b.isLt; omega
theorem U_inj {a b : BitVec 64} (h : U a = U b) : a = b := by
  apply BitVec.eq_of_toNat_eq; unfold U at h; omega
theorem U_of (x : Int) (h0 : 0 ≤ x) (h1 : x < 18446744073709551616) : U (BitVec.ofInt 64 x) = x := by
  unfold U
  rw [BitVec.toNat_ofInt]
  have : x % ((2 ^ 64 : Nat) : Int) = x := Int.emod_eq_of_lt h0 (by simpa using h1)
  rw [this]
  omega
theorem ofInt_U (b : BitVec 64) : BitVec.ofInt 64 (U b) = b := by
  apply U_inj; exact U_of _ (U_nonneg b) (U_lt b)
theorem wrap_U (b : BitVec 64) : IntKind.u64.wrap (U b) = U b := by
  rw [IntKind.wrap_u64]; exact Int.emod_eq_of_lt (U_nonneg b) (U_lt b)
theorem wrap_of (x : Int) : IntKind.u64.wrap x = U (BitVec.ofInt 64 x) := by
  rw [IntKind.wrap_u64]; unfold U; rw [BitVec.toNat_ofInt]
  have := Int.emod_nonneg x (show (18446744073709551616 : Int) ≠ 0 by decide)
  have e : ((2 ^ 64 : Nat) : Int) = 18446744073709551616 := by decide
  rw [e]; omega

theorem and_U (a b : BitVec 64) : bits .and .u64 (U a) (U b) = U (a &&& b) := by
  show IntKind.u64.wrap ((BitVec.ofInt 64 (U a) &&& BitVec.ofInt 64 (U b)).toNat : Int) = _
  rw [ofInt_U, ofInt_U]; exact wrap_U _
theorem or_U (a b : BitVec 64) : bits .or .u64 (U a) (U b) = U (a ||| b) := by
  show IntKind.u64.wrap ((BitVec.ofInt 64 (U a) ||| BitVec.ofInt 64 (U b)).toNat : Int) = _
  rw [ofInt_U, ofInt_U]; exact wrap_U _
theorem xor_U (a b : BitVec 64) : bits .xor .u64 (U a) (U b) = U (a ^^^ b) := by
  show IntKind.u64.wrap ((BitVec.ofInt 64 (U a) ^^^ BitVec.ofInt 64 (U b)).toNat : Int) = _
  rw [ofInt_U, ofInt_U]; exact wrap_U _
theorem andNot_U (a b : BitVec 64) : bits .andNot .u64 (U a) (U b) = U (a &&& ~~~b) := by
  show IntKind.u64.wrap ((BitVec.ofInt 64 (U a) &&& ~~~BitVec.ofInt 64 (U b)).toNat : Int) = _
  rw [ofInt_U, ofInt_U]; exact wrap_U _
theorem sub_U (a b : BitVec 64) : IntKind.u64.wrap (U a - U b) = U (a - b) := by
  rw [IntKind.wrap_u64]; unfold U; rw [BitVec.toNat_sub]
  have := b.isLt
  omega
theorem shr_U (a : BitVec 64) (k : Nat) : U a / ((2 ^ k : Nat) : Int) = U (a >>> k) := by
  unfold U
  rw [BitVec.toNat_ushiftRight, Nat.shiftRight_eq_div_pow]
  exact (Int.natCast_ediv _ _).symm
theorem shl_U (a : BitVec 64) (k : Nat) : IntKind.u64.wrap (U a * ((2 ^ k : Nat) : Int)) = U (a <<< k) := by
  rw [IntKind.wrap_u64]; unfold U
  rw [BitVec.toNat_shiftLeft, Nat.shiftLeft_eq]
  omega

/-! the stages of the reversal -/
def stage (m : BitVec 64) (k : Nat) (x : BitVec 64) : BitVec 64 := (x >>> k &&& m) ||| ((x &&& m) <<< k)
def flip (k i : Nat) : Nat := if i / k % 2 = 0 then i + k else i - k

theorem stage_bit (m : BitVec 64) (k : Nat) (hk : k = 1 ∨ k = 2 ∨ k = 4 ∨ k = 8 ∨ k = 16 ∨ k = 32) (hm : ∀ i, i < 64 → m.getLsbD i = decide (i / k % 2 = 0)) (x : BitVec 64) (i : Nat) (hi : i < 64) :
    (stage m k x).getLsbD i = x.getLsbD (flip k i) := by
  have h1 := hm i hi
  have h2 := hm (i - k) (by omega)
  have h3 : i / k % 2 = 0 → i < k ∨ (i - k) / k % 2 ≠ 0 := by rcases hk with rfl | rfl | rfl | rfl | rfl | rfl <;> omega
  have h4 : i / k % 2 ≠ 0 → ¬ i < k ∧ (i - k) / k % 2 = 0 := by rcases hk with rfl | rfl | rfl | rfl | rfl | rfl <;> omega
  unfold stage flip
  simp only [BitVec.getLsbD_or, BitVec.getLsbD_and, BitVec.getLsbD_ushiftRight, BitVec.getLsbD_shiftLeft, h1, h2]
  by_cases e : i / k % 2 = 0
  · rw [if_pos e]
    rcases h3 e with g | g
    · simp [e, g, Nat.add_comm]
    · simp [e, g, Nat.add_comm]
  · rw [if_neg e]
    obtain ⟨g1, g2⟩ := h4 e
    simp [e, g1, g2, hi]

theorem rv_U (c : Int) (m : BitVec 64) (hc : c = U m) (k : Nat) (p : Int) (hp : p = ((2 ^ k : Nat) : Int)) (x : BitVec 64) :
    bits .or .u64 (bits .and .u64 (U x / p) c) (IntKind.u64.wrap (bits .and .u64 (U x) c * p)) = U (stage m k x) := by
  rw [hc, hp, shr_U, and_U, and_U, shl_U, or_U]; rfl

def revB (x : BitVec 64) : BitVec 64 := stage 4294967295#64 32 (stage 281470681808895#64 16 (stage 71777214294589695#64 8 (stage 1085102592571150095#64 4 (stage 3689348814741910323#64 2 (stage 6148914691236517205#64 1 x)))))

theorem rv32_bits (x : BitVec 64) : (x >>> 32) ||| (x <<< 32) = stage 4294967295#64 32 x := by
  apply BitVec.eq_of_getLsbD_eq
  intro i hi
  have hm : ∀ i, i < 64 → (4294967295#64).getLsbD i = decide (i / 32 % 2 = 0) := by decide +kernel
  unfold stage
  have h1 := hm i hi
  have h2 := hm (i - 32) (by omega)
  simp only [BitVec.getLsbD_or, BitVec.getLsbD_and, BitVec.getLsbD_ushiftRight, BitVec.getLsbD_shiftLeft, h1, h2]
  by_cases e : i < 32
  · have : i / 32 % 2 = 0 := by omega
    simp [e, this]
  · have e1 : i / 32 % 2 = 1 := by omega
    have e2 : (i - 32) / 32 % 2 = 0 := by omega
    simp [e, e1, e2, BitVec.getLsbD_of_ge x (32 + i) (by omega)]

theorem rev_U (x : BitVec 64) : revI (U x) = U (revB x) := by
  unfold revI revB rv1 rv2 rv4 rv8 rv16 rv32
  rw [rv_U 6148914691236517205 6148914691236517205#64 (by decide +kernel) 1 2 (by decide)]
  rw [rv_U 3689348814741910323 3689348814741910323#64 (by decide +kernel) 2 4 (by decide)]
  rw [rv_U 1085102592571150095 1085102592571150095#64 (by decide +kernel) 4 16 (by decide)]
  rw [rv_U 71777214294589695 71777214294589695#64 (by decide +kernel) 8 256 (by decide)]
  rw [rv_U 281470681808895 281470681808895#64 (by decide +kernel) 16 65536 (by decide)]
  rw [show (4294967296 : Int) = ((2 ^ 32 : Nat) : Int) from by decide, shr_U, shl_U, or_U, rv32_bits]

theorem flips : ∀ i, i < 64 → flip 1 (flip 2 (flip 4 (flip 8 (flip 16 (flip 32 i))))) = 63 - i := by decide +kernel
theorem flip_lt (k i : Nat) (hk : k = 1 ∨ k = 2 ∨ k = 4 ∨ k = 8 ∨ k = 16 ∨ k = 32) (hi : i < 64) : flip k i < 64 := by
  unfold flip
  rcases hk with rfl | rfl | rfl | rfl | rfl | rfl <;> split <;> omega

theorem revB_bit (x : BitVec 64) (i : Nat) (hi : i < 64) : (revB x).getLsbD i = x.getLsbD (63 - i) := by
  rw [← flips i hi]
  have a5 := flip_lt 32 i (by omega) hi
  have a4 := flip_lt 16 _ (by omega) a5
  have a3 := flip_lt 8 _ (by omega) a4
  have a2 := flip_lt 4 _ (by omega) a3
  have a1 := flip_lt 2 _ (by omega) a2
  unfold revB
  rw [stage_bit _ 32 (by omega) (by decide +kernel) _ _ hi, stage_bit _ 16 (by omega) (by decide +kernel) _ _ a5, stage_bit _ 8 (by omega) (by decide +kernel) _ _ a4,
    stage_bit _ 4 (by omega) (by decide +kernel) _ _ a3, stage_bit _ 2 (by omega) (by decide +kernel) _ _ a2, stage_bit _ 1 (by omega) (by decide +kernel) _ _ a1]

/-! the subtraction of one bit -/
theorem neg_one_bit : ∀ x, x < 64 → ∀ j, j < 64 → (-(1#64 <<< x)).getLsbD j = decide (x ≤ j) := by decide +kernel

theorem carry_iff (m : BitVec 64) (x : Nat) (hx : x < 64) : ∀ i, i ≤ 64 → (BitVec.carry i m (-(1#64 <<< x)) false = true ↔ ∃ z, x ≤ z ∧ z < i ∧ m.getLsbD z = true)
  | 0, _ => by
      simp [BitVec.carry_zero]
  | i + 1, hi => by
      have ih := carry_iff m x hx i (by omega)
      rw [BitVec.carry_succ, neg_one_bit x hx i (by omega)]
      by_cases g : x ≤ i
      · simp only [g, decide_true, Bool.atLeastTwo_true_mid, Bool.or_eq_true, ih]
        constructor
        · rintro (h | ⟨z, h1, h2, h3⟩)
          · exact ⟨i, g, by omega, h⟩
          · exact ⟨z, h1, by omega, h3⟩
        · rintro ⟨z, h1, h2, h3⟩
          by_cases e : z = i
          · subst e; exact Or.inl h3
          · exact Or.inr ⟨z, h1, by omega, h3⟩
      · have : BitVec.carry i m (-(1#64 <<< x)) false = false := by
          cases hc : BitVec.carry i m (-(1#64 <<< x)) false with
          | false => rfl
          | true => obtain ⟨z, h1, h2, h3⟩ := ih.mp hc; omega
        simp only [g, decide_false, this, Bool.atLeastTwo_false_mid, Bool.and_false, Bool.false_eq_true, false_iff, not_exists]
        rintro z ⟨h1, h2, h3⟩
        omega

theorem sub_bit (m : BitVec 64) (x : Nat) (hx : x < 64) (j : Nat) (hj : j < 64) :
    (m - 1#64 <<< x).getLsbD j = (m.getLsbD j ^^ (decide (x ≤ j) ^^ BitVec.carry j m (-(1#64 <<< x)) false)) := by
  rw [BitVec.sub_eq_add_neg, BitVec.getLsbD_add hj, neg_one_bit x hx j hj]

def alongB (l : BitVec 64) (x : Nat) (t : BitVec 64) : BitVec 64 :=
  (((l &&& ~~~(1#64 <<< x)) &&& t) - 1#64 <<< x ^^^ revB (revB ((l &&& ~~~(1#64 <<< x)) &&& t) - revB (1#64 <<< x))) &&& (l &&& ~~~(1#64 <<< x))

theorem one_U : ∀ x, x < 64 → oneI ((x : Nat) : Int) = U (1#64 <<< x) := by decide +kernel
theorem rev_one : ∀ x, x < 64 → revB (1#64 <<< x) = 1#64 <<< (63 - x) := by decide +kernel
theorem one_bit : ∀ x, x < 64 → ∀ j, j < 64 → (1#64 <<< x).getLsbD j = decide (j = x) := by decide +kernel

theorem along_U (l : BitVec 64) (x : Nat) (hx : x < 64) (t : BitVec 64) : alongI (U l) (x : Int) (U t) = U (alongB l x t) := by
  unfold alongI menI
  rw [one_U x hx, andNot_U, and_U, sub_U, rev_U, rev_U, sub_U, rev_U, xor_U, and_U]
  rfl

/-- WHAT 'along' REACHES: a square of the line, not the own one, nothing taken of the line strictly between. -/
theorem along_bit (l : BitVec 64) (x : Nat) (hx : x < 64) (t : BitVec 64) (y : Nat) (hy : y < 64) :
    (alongB l x t).getLsbD y = true ↔ l.getLsbD y = true ∧ y ≠ x ∧ ∀ z, (x < z ∧ z < y ∨ y < z ∧ z < x) → l.getLsbD z = true → t.getLsbD z = false := by
  have men : ∀ z, z < 64 → ((l &&& ~~~(1#64 <<< x)) &&& t).getLsbD z = (l.getLsbD z && !decide (z = x) && t.getLsbD z) := by
    intro z hz
    simp only [BitVec.getLsbD_and, BitVec.getLsbD_not, one_bit x hx z hz, hz, decide_true, Bool.true_and]
  unfold alongB
  rw [BitVec.getLsbD_and, BitVec.getLsbD_xor, revB_bit _ y hy, rev_one x hx, sub_bit _ x hx y hy, sub_bit _ (63 - x) (by omega) (63 - y) (by omega), revB_bit _ (63 - y) (by omega)]
  rw [show 63 - (63 - y) = y from by omega]
  have c1 := carry_iff ((l &&& ~~~(1#64 <<< x)) &&& t) x hx y (by omega)
  have c2 := carry_iff (revB ((l &&& ~~~(1#64 <<< x)) &&& t)) (63 - x) (by omega) (63 - y) (by omega)
  generalize BitVec.carry y ((l &&& ~~~(1#64 <<< x)) &&& t) (-(1#64 <<< x)) false = b1 at c1 ⊢
  generalize BitVec.carry (63 - y) (revB ((l &&& ~~~(1#64 <<< x)) &&& t)) (-(1#64 <<< (63 - x))) false = b2 at c2 ⊢
  have c1' : b1 = true ↔ ∃ z, x < z ∧ z < y ∧ l.getLsbD z = true ∧ t.getLsbD z = true := by
    rw [c1]
    constructor
    · rintro ⟨z, h1, h2, h3⟩
      rw [men z (by omega)] at h3
      simp only [Bool.and_eq_true, Bool.not_eq_true', decide_eq_false_iff_not] at h3
      exact ⟨z, by omega, h2, h3.1.1, h3.2⟩
    · rintro ⟨z, h1, h2, h3, h4⟩
      refine ⟨z, by omega, h2, ?_⟩
      rw [men z (by omega), h3, h4]
      simp; omega
  have c2' : b2 = true ↔ ∃ z, y < z ∧ z < x ∧ l.getLsbD z = true ∧ t.getLsbD z = true := by
    rw [c2]
    constructor
    · rintro ⟨z, h1, h2, h3⟩
      rw [revB_bit _ z (by omega), men (63 - z) (by omega)] at h3
      simp only [Bool.and_eq_true, Bool.not_eq_true', decide_eq_false_iff_not] at h3
      exact ⟨63 - z, by omega, by omega, h3.1.1, h3.2⟩
    · rintro ⟨z, h1, h2, h3, h4⟩
      refine ⟨63 - z, by omega, by omega, ?_⟩
      rw [revB_bit _ (63 - z) (by omega), show 63 - (63 - z) = z from by omega, men z (by omega), h3, h4]
      simp; omega
  simp only [BitVec.getLsbD_and, BitVec.getLsbD_not, one_bit x hx y hy, hy, decide_true, Bool.true_and]
  rcases Nat.lt_trichotomy x y with h | h | h
  · have e1 : decide (x ≤ y) = true := by simp; omega
    have e2 : decide (63 - x ≤ 63 - y) = false := by simp; omega
    have e3 : decide (y = x) = false := by simp; omega
    have e4 : b2 = false := by
      cases hb : b2 with
      | false => rfl
      | true => obtain ⟨z, h1, h2, _⟩ := c2'.mp hb; omega
    rw [e1, e2, e3, e4]
    cases hb : b1 with
    | true =>
      obtain ⟨z, h1, h2, h3, h4⟩ := c1'.mp hb
      simp only [Bool.xor_false, Bool.false_eq_true, Bool.xor_self, Bool.false_and, false_iff]
      rintro ⟨_, _, g⟩
      have := g z (Or.inl ⟨h1, h2⟩) h3
      simp [h4] at this
    | false =>
      have : ¬ ∃ z, x < z ∧ z < y ∧ l.getLsbD z = true ∧ t.getLsbD z = true := fun g => by simp [c1'.mpr g] at hb
      simp only [Bool.not_false, Bool.and_true]
      constructor
      · intro g
        refine ⟨by simp at g; exact g.2, by omega, ?_⟩
        intro z hz hl
        cases ht : t.getLsbD z with
        | false => rfl
        | true => exact absurd ⟨z, by omega, by omega, hl, ht⟩ this
      · rintro ⟨g, _, _⟩
        rw [g]; cases ((l &&& ~~~(1#64 <<< x)) &&& t).getLsbD y <;> simp
  · subst h
    have e3 : decide (x = x) = true := by simp
    rw [e3]
    simp
  · have e1 : decide (x ≤ y) = false := by simp; omega
    have e2 : decide (63 - x ≤ 63 - y) = true := by simp; omega
    have e3 : decide (y = x) = false := by simp; omega
    have e4 : b1 = false := by
      cases hb : b1 with
      | false => rfl
      | true => obtain ⟨z, h1, h2, _⟩ := c1'.mp hb; omega
    rw [e1, e2, e3, e4]
    cases hb : b2 with
    | true =>
      obtain ⟨z, h1, h2, h3, h4⟩ := c2'.mp hb
      simp only [Bool.xor_false, Bool.false_eq_true, Bool.xor_self, Bool.false_and, false_iff]
      rintro ⟨_, _, g⟩
      have := g z (Or.inr ⟨h1, h2⟩) h3
      simp [h4] at this
    | false =>
      have : ¬ ∃ z, y < z ∧ z < x ∧ l.getLsbD z = true ∧ t.getLsbD z = true := fun g => by simp [c2'.mpr g] at hb
      simp only [Bool.not_false, Bool.and_true]
      constructor
      · intro g
        refine ⟨by simp at g; exact g.2, by omega, ?_⟩
        intro z hz hl
        cases ht : t.getLsbD z with
        | false => rfl
        | true => exact absurd ⟨z, by omega, by omega, hl, ht⟩ this
      · rintro ⟨g, _, _⟩
        rw [g]; cases ((l &&& ~~~(1#64 <<< x)) &&& t).getLsbD y <;> simp

end Go.Proofs.YtnfakamfmkhlbaaGreatDoor.P
