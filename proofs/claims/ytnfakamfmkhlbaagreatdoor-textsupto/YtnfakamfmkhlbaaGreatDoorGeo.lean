import Derived.Test.YtnfakamfmkhlbaaGreatDoorLines
import Derived.WalkKit
namespace Go.Proofs.YtnfakamfmkhlbaaGreatDoor.P
open Go.RowKit

def sg (n : Int) : Int := if 0 < n then 1 else if n < 0 then -1 else 0
def ab (n : Int) : Int := if n < 0 then -n else n
theorem sg_bd (n : Int) : -1 ≤ sg n ∧ sg n ≤ 1 := by unfold sg; split <;> (try split) <;> omega
def freeI (f : Nat → Int) (p : Nat → Int) (L : Nat) : Bool := decide (∀ i, i < L → 1 ≤ i → f (p i).toNat = 46)

def pI (x y : Int) (i : Nat) : Int := x + (i : Int) * (8 * sg (y / 8 - x / 8) + sg (y % 8 - x % 8))
def LI (x y : Int) : Nat := max (ab (y / 8 - x / 8)).toNat (ab (y % 8 - x % 8)).toNat
def slI (x y : Int) : Bool := (ab (y % 8 - x % 8) == ab (y / 8 - x / 8)) && decide (0 < ab (y % 8 - x % 8))
def stI (x y : Int) : Bool := (y % 8 - x % 8 == 0) != (y / 8 - x / 8 == 0)
def attI (f : Nat → Int) (k : Nat) (side x y : Int) : Bool :=
  if k = 0 then (ab (y % 8 - x % 8) == 1) && (y / 8 - x / 8 == side)
  else if k = 1 then ab (y % 8 - x % 8) * ab (y / 8 - x / 8) == 2
  else if k = 2 then slI x y && freeI f (pI x y) (LI x y)
  else if k = 3 then stI x y && freeI f (pI x y) (LI x y)
  else if k = 4 then (stI x y || slI x y) && freeI f (pI x y) (LI x y)
  else decide (ab (y % 8 - x % 8) ≤ 1) && decide (ab (y / 8 - x / 8) ≤ 1) && decide (0 < ab (y % 8 - x % 8) + ab (y / 8 - x / 8))

theorem ab_bd (n : Int) (h0 : -7 ≤ n) (h1 : n ≤ 7) : 0 ≤ ab n ∧ ab n ≤ 7 := by unfold ab; split <;> omega

theorem prod_wrap (a b : Int) (h : 0 ≤ a ∧ a ≤ 7) (g : 0 ≤ b ∧ b ≤ 7) : wrap64 (a * b) = a * b := by
  have h1 : 0 ≤ a * b := Int.mul_nonneg h.1 g.1
  have h2 : a * b ≤ 7 * 7 := Int.mul_le_mul h.2 g.2 g.1 (by omega)
  unfold wrap64
  omega

/-- where two squares lie: on one file, on one rank, on a slanting line, else; or they are one. -/
theorem classes (df dr : Int) :
    ((ab df == ab dr) = true ∧ decide (0 < ab df) = false ∧ (df == 0) = true ∧ (dr == 0) = true)
    ∨ ((ab df == ab dr) = false ∧ decide (0 < ab df) = false ∧ (df == 0) = true ∧ (dr == 0) = false)
    ∨ ((ab df == ab dr) = false ∧ decide (0 < ab df) = true ∧ (df == 0) = false ∧ (dr == 0) = true)
    ∨ ((ab df == ab dr) = true ∧ decide (0 < ab df) = true ∧ (df == 0) = false ∧ (dr == 0) = false)
    ∨ ((ab df == ab dr) = false ∧ decide (0 < ab df) = true ∧ (df == 0) = false ∧ (dr == 0) = false) := by
  simp only [beq_iff_eq, beq_eq_false_iff_ne, decide_eq_true_eq, decide_eq_false_iff_not]
  unfold ab
  split <;> split <;> omega

/-! the path between two squares of a line -/
theorem lined_ok : ∀ x, x < 64 → ∀ y, y < 64 → (stI ((x : Nat) : Int) ((y : Nat) : Int) || slI ((x : Nat) : Int) ((y : Nat) : Int)) = true →
    (decide (1 ≤ LI (x : Int) (y : Int)) && decide (pI (x : Int) (y : Int) (LI (x : Int) (y : Int)) = (y : Int)) && (List.range (LI (x : Int) (y : Int) + 1)).all (fun i => decide (0 ≤ pI (x : Int) (y : Int) i) && decide (pI (x : Int) (y : Int) i ≤ 63)
      && (decide (i = 0) || decide (LI (x : Int) (y : Int) ≤ i) || !decide (pI (x : Int) (y : Int) i = (y : Int))))) = true := by decide +kernel

theorem lined_all (x y : Int) (h0 : 0 ≤ x) (h1 : x ≤ 63) (h2 : 0 ≤ y) (h3 : y ≤ 63) (hl : stI x y = true ∨ slI x y = true) :
    1 ≤ LI x y ∧ pI x y (LI x y) = y ∧ ∀ i, i ≤ LI x y → 0 ≤ pI x y i ∧ pI x y i ≤ 63 ∧ (1 ≤ i → i < LI x y → pI x y i ≠ y) := by
  obtain ⟨a, rfl⟩ := Int.eq_ofNat_of_zero_le h0
  obtain ⟨b, rfl⟩ := Int.eq_ofNat_of_zero_le h2
  have := lined_ok a (by omega) b (by omega) (by rw [Bool.or_eq_true]; exact hl)
  rw [Bool.and_eq_true, Bool.and_eq_true, List.all_eq_true, decide_eq_true_eq, decide_eq_true_eq] at this
  obtain ⟨⟨g1, g2⟩, g3⟩ := this
  refine ⟨g1, g2, fun i hi => ?_⟩
  have g := g3 i (List.mem_range.mpr (by omega))
  rw [Bool.and_eq_true, Bool.and_eq_true, Bool.or_eq_true, Bool.or_eq_true, decide_eq_true_eq, decide_eq_true_eq, decide_eq_true_eq, decide_eq_true_eq, Bool.not_eq_true', decide_eq_false_iff_not] at g
  refine ⟨g.1.1, g.1.2, fun k1 k2 => ?_⟩
  rcases g.2 with (g | g) | g
  · omega
  · omega
  · exact g

theorem path_1 (x y : Int) (h0 : 0 ≤ x) (h1 : x ≤ 63) (h2 : 0 ≤ y) (h3 : y ≤ 63) (hl : stI x y = true ∨ slI x y = true) : 1 ≤ LI x y := (lined_all x y h0 h1 h2 h3 hl).1
theorem path_L (x y : Int) (h0 : 0 ≤ x) (h1 : x ≤ 63) (h2 : 0 ≤ y) (h3 : y ≤ 63) (hl : stI x y = true ∨ slI x y = true) : pI x y (LI x y) = y := (lined_all x y h0 h1 h2 h3 hl).2.1
theorem path_b (x y : Int) (h0 : 0 ≤ x) (h1 : x ≤ 63) (h2 : 0 ≤ y) (h3 : y ≤ 63) (hl : stI x y = true ∨ slI x y = true) : ∀ i, i ≤ LI x y → 0 ≤ pI x y i ∧ pI x y i ≤ 63 :=
  fun i hi => ⟨((lined_all x y h0 h1 h2 h3 hl).2.2 i hi).1, ((lined_all x y h0 h1 h2 h3 hl).2.2 i hi).2.1⟩
theorem path_n (x y : Int) (h0 : 0 ≤ x) (h1 : x ≤ 63) (h2 : 0 ≤ y) (h3 : y ≤ 63) (hl : stI x y = true ∨ slI x y = true) : ∀ i, 1 ≤ i → i < LI x y → pI x y i ≠ y :=
  fun i a b => ((lined_all x y h0 h1 h2 h3 hl).2.2 i (by omega)).2.2 a b
theorem path_p1 (x y : Int) : pI x y 1 = x + 8 * sg (y / 8 - x / 8) + sg (y % 8 - x % 8) := by
  unfold pI; omega
theorem path_s (x y : Int) : ∀ i, pI x y (i + 1) = pI x y i + 8 * sg (y / 8 - x / 8) + sg (y % 8 - x % 8) := by
  intro i; unfold pI
  rw [show ((i + 1 : Nat) : Int) = (i : Int) + 1 from by omega, Int.add_mul]
  omega

/-! the reference's Reach -/
def fT (t : BitVec 64) (z : Nat) : Int := if t.getLsbD z then 80 else 46
def kR (k : Nat) : Nat := if k ≤ 2 then 0 else k - 2
def sR (k : Nat) : Int := if k ≤ 2 then 3 - 2 * (k : Int) else 1
def refAtt (k : Nat) (x : Int) (t : BitVec 64) (y : Nat) : Bool := attI (fT t) (kR k) (sR k) x (y : Int)
def accN (g : Nat → Bool) : Nat → Nat
  | 0 => 0
  | j + 1 => 2 * accN g j + (if g (63 - j) then 1 else 0)
theorem accN_lt (g : Nat → Bool) : ∀ j, accN g j < 2 ^ j
  | 0 => by simp [accN]
  | j + 1 => by
      have := accN_lt g j
      unfold accN
      rw [Nat.pow_succ]
      split <;> omega
theorem accN_bit (g : Nat → Bool) : ∀ j, j ≤ 64 → ∀ i, i < j → (accN g j).testBit i = g (64 - j + i)
  | 0, _, i, h => by omega
  | j + 1, hj, i, h => by
      cases i with
      | zero =>
        rw [Nat.testBit_zero]
        unfold accN
        rw [show 64 - (j + 1) + 0 = 63 - j from by omega]
        cases g (63 - j) <;> simp <;> omega
      | succ i =>
        have ih := accN_bit g j (by omega) i (by omega)
        rw [Nat.testBit_succ]
        rw [show accN g (j + 1) / 2 = accN g j from by show (2 * accN g j + (if g (63 - j) then 1 else 0)) / 2 = accN g j; split <;> omega, ih]
        congr 1; omega
def refB (k : Nat) (x : Int) (t : BitVec 64) : BitVec 64 := BitVec.ofNat 64 (accN (refAtt k x t) 64)
theorem refB_bit (k : Nat) (x : Int) (t : BitVec 64) (y : Nat) (hy : y < 64) : (refB k x t).getLsbD y = refAtt k x t y := by
  unfold refB
  rw [BitVec.getLsbD_ofNat, accN_bit _ 64 (Nat.le_refl _) y hy]
  simp [hy]
theorem refB_U (k : Nat) (x : Int) (t : BitVec 64) : U (refB k x t) = (accN (refAtt k x t) 64 : Int) := by
  unfold U refB
  rw [BitVec.toNat_ofNat, Nat.mod_eq_of_lt (accN_lt _ 64)]

theorem half_U (t : BitVec 64) (i : Nat) : IntKind.u64.wrap ((U (t >>> i)).tdiv 2) = U (t >>> (i + 1)) := by
  have h0 := U_nonneg (t >>> i)
  rw [Int.tdiv_eq_ediv_of_nonneg h0, show (2 : Int) = ((2 ^ 1 : Nat) : Int) from rfl, shr_U, wrap_U, BitVec.shiftRight_add]
theorem odd_U (t : BitVec 64) (i : Nat) : (U (t >>> i) % 2 == 1) = t.getLsbD i := by
  have : (t >>> i).getLsbD 0 = t.getLsbD i := by rw [BitVec.getLsbD_ushiftRight, Nat.add_zero]
  rw [← this, BitVec.getLsbD, Nat.testBit_zero]
  unfold U
  rw [Bool.eq_iff_iff]
  simp only [beq_iff_eq, decide_eq_true_eq]
  omega
theorem acc_step (g : Nat → Bool) (j : Nat) (hj : j < 64) (b : Bool) (h : g (63 - j) = b) :
    (if b then IntKind.u64.wrap (IntKind.u64.wrap (2 * (accN g j : Int)) + 1) else IntKind.u64.wrap (2 * (accN g j : Int))) = (accN g (j + 1) : Int) := by
  have h1 := accN_lt g j
  have h2 : 2 ^ j ≤ 2 ^ 63 := Nat.pow_le_pow_right (by omega) (by omega)
  have e : accN g (j + 1) = 2 * accN g j + (if g (63 - j) then 1 else 0) := rfl
  rw [e, h]
  cases b
  · rw [if_neg (by decide), if_neg (by decide), IntKind.wrap_u64]; omega
  · rw [if_pos rfl, if_pos rfl, IntKind.wrap_u64, IntKind.wrap_u64]; omega

end Go.Proofs.YtnfakamfmkhlbaaGreatDoor.P
