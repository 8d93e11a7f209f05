import Derived.Test.YtnfakamfmkhlbaaGreatDoorPos6
import Derived.Test.YtnfakamfmkhlbaaGreatDoorSame
import Derived.Test.YtnfakamfmkhlbaaGreatDoorRDef
namespace Go.Proofs.YtnfakamfmkhlbaaGreatDoor.C
open Go.RowKit
open Go.Proofs.YtnfakamfmkhlbaaGreatDoor.P

/-! what the reference says of a position, in plain functions -/
def badR (z : Nat → UInt8) (n : Nat) : Bool := !(z n == 46) && (decide (kdc (z n) < 0) || (decide (kdc (z n) = 0) && (decide (n / 8 = 0) || decide (n / 8 = 7))))
def menR (z : Nat → UInt8) (b : Bool) (k : Nat) : Nat := ((List.range k).filter fun n => decide (coc (z n) = sdb b)).length
def kinR (z : Nat → UInt8) (b : Bool) (k : Nat) : Nat := ((List.range k).filter fun n => decide (ixc (z n) = (bg b + 5 : Nat))).length

theorem lay_bit (z : Nat → UInt8) (p : Nat) : ∀ k, k ≤ 64 → ∀ n, n < 64 → (layS z k p).getLsbD n = decide (n < k ∧ ixc (z n) = (p : Int))
  | 0, _, n, _ => by
      show (0#64).getLsbD n = _
      rw [BitVec.getLsbD_zero]; simp
  | k + 1, hk, n, hn => by
      have ih := lay_bit z p k (by omega) n hn
      show (layS z k p ||| (if Lib.indexByte lettersL (z k) = (p : Int) then 1#64 <<< k else 0#64)).getLsbD n = _
      rw [BitVec.getLsbD_or, ih]
      by_cases e : Lib.indexByte lettersL (z k) = (p : Int)
      · rw [if_pos e, one_bit k (by omega) n hn]
        by_cases h1 : n = k
        · subst h1
          have e' : ixc (z n) = (p : Int) := e
          simp [e']
        · have : (n < k + 1 ∧ ixc (z n) = (p : Int)) ↔ (n < k ∧ ixc (z n) = (p : Int)) := by constructor <;> rintro ⟨a, b⟩ <;> exact ⟨by omega, b⟩
          simp [h1, this]
      · rw [if_neg e, BitVec.getLsbD_zero, Bool.or_false]
        have : (n < k + 1 ∧ ixc (z n) = (p : Int)) ↔ (n < k ∧ ixc (z n) = (p : Int)) := by
          constructor
          · rintro ⟨a, b⟩
            refine ⟨?_, b⟩
            by_cases h1 : n = k
            · subst h1; exact absurd b e
            · omega
          · rintro ⟨a, b⟩; exact ⟨by omega, b⟩
        simp [this]
theorem lay64 (z : Nat → UInt8) (p n : Nat) (hn : n < 64) : (layS z 64 p).getLsbD n = decide (ixc (z n) = (p : Int)) := by
  rw [lay_bit z p 64 (Nat.le_refl _) n hn]
  simp [hn]
theorem filter_same {f g : Nat → Bool} (l : List Nat) (h : ∀ n ∈ l, f n = g n) : l.filter f = l.filter g := List.filter_congr h
theorem kings_len (z : Nat → UInt8) (b : Bool) : (sqs (layS z 64 (bg b + 5))).length = kinR z b 64 := by
  unfold sqs kinR
  rw [filter_same _ (fun n hn => lay64 z (bg b + 5) n (List.mem_range.1 hn))]
theorem orB_bit (z : Nat → UInt8) (b n : Nat) (hn : n < 64) : ∀ k, (orB (layS z 64) b k).getLsbD n = decide ((b : Int) ≤ ixc (z n) ∧ ixc (z n) < (b : Int) + (k : Int))
  | 0 => by
      show (0#64).getLsbD n = _
      rw [BitVec.getLsbD_zero]; symm; rw [decide_eq_false_iff_not]; omega
  | k + 1 => by
      have ih := orB_bit z b n hn k
      show (orB (layS z 64) b k ||| layS z 64 (b + k)).getLsbD n = _
      rw [BitVec.getLsbD_or, ih, lay64 z (b + k) n hn, ← Bool.decide_or]
      apply decide_eq_decide.2
      omega
theorem side_bit (z : Nat → UInt8) (b : Bool) (n : Nat) (hn : n < 64) : (sideB (layS z 64) b).getLsbD n = decide (coc (z n) = sdb b) := by
  unfold sideB
  rw [orB_bit z (bg b) n hn 6]
  apply decide_eq_decide.2
  have := ix_bd (z n)
  unfold coc sdb bg
  cases b
  · simp only [Bool.false_eq_true, if_false]
    split
    · omega
    · split <;> omega
  · simp only [if_true]
    split
    · omega
    · split <;> omega
theorem side_len (z : Nat → UInt8) (b : Bool) : (sqs (sideB (layS z 64) b)).length = menR z b 64 := by
  unfold sqs menR
  rw [filter_same _ (fun n hn => side_bit z b n (List.mem_range.1 hn))]
theorem taken_bit (z : Nat → UInt8) (n : Nat) (hn : n < 64) : (takenB (layS z 64)).getLsbD n = decide (0 ≤ ixc (z n)) := by
  unfold takenB
  rw [BitVec.getLsbD_or, side_bit z true n hn, side_bit z false n hn, ← Bool.decide_or]
  apply decide_eq_decide.2
  have := ix_bd (z n)
  unfold coc sdb
  simp only [Bool.false_eq_true, if_false, if_true]
  split
  · omega
  · split <;> omega
theorem last_bit : ∀ n, n < 64 → (18374686479671623935#64).getLsbD n = (decide (n / 8 = 0) || decide (n / 8 = 7)) := by decide +kernel
theorem bv_zero (s : BitVec 64) : s = 0#64 ↔ ∀ n, n < 64 → s.getLsbD n = false := by
  constructor
  · rintro rfl n _; exact BitVec.getLsbD_zero
  · intro h
    apply BitVec.eq_of_getLsbD_eq
    intro i hi
    rw [h i hi, BitVec.getLsbD_zero]
theorem last_U : (18374686479671623935 : Int) = U 18374686479671623935#64 := by decide +kernel
theorem U_zero_iff (s : BitVec 64) : U s = 0 ↔ s = 0#64 := by
  constructor
  · intro h; exact U_inj (h.trans (by decide +kernel))
  · rintro rfl; decide +kernel
theorem pawns_ok (z : Nat → UInt8) (b : Bool) : bits .and .u64 (U (layS z 64 (bg b))) 18374686479671623935 = 0 ↔ ∀ n, n < 64 → ixc (z n) = (bg b : Nat) → ¬ (n / 8 = 0 ∨ n / 8 = 7) := by
  rw [last_U, and_U, U_zero_iff, bv_zero]
  constructor
  · intro h n hn e
    have := h n hn
    rw [BitVec.getLsbD_and, lay64 z (bg b) n hn, last_bit n hn] at this
    simp [e] at this
    omega
  · intro h n hn
    rw [BitVec.getLsbD_and, lay64 z (bg b) n hn, last_bit n hn]
    by_cases e : ixc (z n) = (bg b : Nat)
    · have := h n hn e
      simp at this
      simp [this]
    · simp [e]
theorem ok_ix (c : UInt8) : okY c = (c == 46 || decide (0 ≤ ixc c)) := rfl
theorem bad_iff (z : Nat → UInt8) : ((List.range 64).all fun n => !(badR z n)) = true ↔ layOk z = true ∧ ∀ b : Bool, ∀ n, n < 64 → ixc (z n) = (bg b : Nat) → ¬ (n / 8 = 0 ∨ n / 8 = 7) := by
  rw [List.all_eq_true]
  constructor
  · intro h
    constructor
    · refine layOk_all fun j hj => ?_
      have h1 := h j (List.mem_range.2 hj)
      rw [ok_ix]
      have := ix_bd (z j)
      unfold badR kdc at h1
      by_cases hd : (z j == 46) = true
      · simp [hd]
      · simp only [Bool.not_eq_true] at hd
        rw [hd] at h1 ⊢
        simp only [Bool.not_false, Bool.true_and, Bool.not_eq_true', Bool.or_eq_false_iff, decide_eq_false_iff_not] at h1
        have h2 := h1.1
        simp only [Bool.false_or, decide_eq_true_eq]
        split at h2 <;> omega
    · intro b n hn e hr
      have h1 := h n (List.mem_range.2 hn)
      have hb : bg b = 0 ∨ bg b = 6 := by cases b <;> simp [bg]
      have hd : (z n == 46) = false := by
        cases hz : (z n == 46) with
        | false => rfl
        | true =>
          have : z n = 46 := by simpa using hz
          rw [this] at e
          have e2 : ixc 46 = -1 := ib_dot
          omega
      unfold badR kdc at h1
      rw [hd] at h1
      have hk : (if 6 ≤ ixc (z n) then ixc (z n) - 6 else ixc (z n)) = 0 := by split <;> omega
      rw [hk] at h1
      simp at h1
      omega
  · rintro ⟨h1, h2⟩ n hn
    have hn' := List.mem_range.1 hn
    have h3 : okY (z n) = true := List.all_eq_true.1 h1 n hn
    rw [ok_ix] at h3
    have := ix_bd (z n)
    unfold badR kdc
    by_cases hd : (z n == 46) = true
    · simp [hd]
    · simp only [Bool.not_eq_true] at hd
      rw [hd] at h3 ⊢
      simp only [Bool.false_or, decide_eq_true_eq] at h3
      have ha := h2 true n hn'
      have hb := h2 false n hn'
      simp only [bg, if_true, Bool.false_eq_true, if_false] at ha hb
      simp only [Bool.not_false, Bool.true_and, Bool.not_eq_true', Bool.or_eq_false_iff, decide_eq_false_iff_not, Bool.and_eq_false_iff]
      refine ⟨by split <;> omega, ?_⟩
      by_cases hk : (if 6 ≤ ixc (z n) then ixc (z n) - 6 else ixc (z n)) = 0
      · right
        split at hk
        · have := hb (by omega); omega
        · have := ha (by omega); omega
      · left; exact hk

end Go.Proofs.YtnfakamfmkhlbaaGreatDoor.C
