import Derived.Test.YtnfakamfmkhlbaaGreatDoorGeo
namespace Go.Proofs.YtnfakamfmkhlbaaGreatDoor.P

def btw (x y z : Nat) : Bool := decide (x < z ∧ z < y ∨ y < z ∧ z < x)
def lineOk (l : BitVec 64) (x y : Nat) : Bool :=
  !(l.getLsbD y && !decide (y = x)) || ((stI (x : Int) (y : Int) || slI (x : Int) (y : Int)) && (List.range (LI (x : Int) (y : Int))).all (fun i => decide (i = 0) || btw x y (pI (x : Int) (y : Int) i).toNat && l.getLsbD (pI (x : Int) (y : Int) i).toNat)
    && (List.range 64).all (fun z => !(btw x y z && l.getLsbD z) || (List.range (LI (x : Int) (y : Int))).any (fun i => !decide (i = 0) && decide ((pI (x : Int) (y : Int) i).toNat = z))))

theorem file_ok : ∀ x, x < 64 → ∀ y, y < 64 → lineOk (fileB x) x y = true := by decide +kernel
theorem rank_ok : ∀ x, x < 64 → ∀ y, y < 64 → lineOk (rankB x) x y = true := by decide +kernel
theorem ris_ok : ∀ x, x < 64 → ∀ y, y < 64 → lineOk (risB x) x y = true := by decide +kernel
theorem fal_ok : ∀ x, x < 64 → ∀ y, y < 64 → lineOk (falB x) x y = true := by decide +kernel
theorem st_is : ∀ x, x < 64 → ∀ y, y < 64 → stI ((x : Nat) : Int) ((y : Nat) : Int) = ((fileB x).getLsbD y && !decide (y = x) || (rankB x).getLsbD y && !decide (y = x)) := by decide +kernel
theorem sl_is : ∀ x, x < 64 → ∀ y, y < 64 → slI ((x : Nat) : Int) ((y : Nat) : Int) = ((risB x).getLsbD y && !decide (y = x) || (falB x).getLsbD y && !decide (y = x)) := by decide +kernel
theorem wp_is : ∀ x, x < 64 → ∀ y, y < 64 → (wpB x).getLsbD y = ((ab (((y : Nat) : Int) % 8 - ((x : Nat) : Int) % 8) == 1) && ((y : Int) / 8 - (x : Int) / 8 == 1)) := by decide +kernel
theorem bp_is : ∀ x, x < 64 → ∀ y, y < 64 → (bpB x).getLsbD y = ((ab (((y : Nat) : Int) % 8 - ((x : Nat) : Int) % 8) == 1) && ((y : Int) / 8 - (x : Int) / 8 == -1)) := by decide +kernel
theorem kn_is : ∀ x, x < 64 → ∀ y, y < 64 → (knB x).getLsbD y = (ab (((y : Nat) : Int) % 8 - ((x : Nat) : Int) % 8) * ab ((y : Int) / 8 - (x : Int) / 8) == 2) := by decide +kernel
theorem ki_is : ∀ x, x < 64 → ∀ y, y < 64 → (kiB x).getLsbD y = (decide (ab (((y : Nat) : Int) % 8 - ((x : Nat) : Int) % 8) ≤ 1) && decide (ab ((y : Int) / 8 - (x : Int) / 8) ≤ 1) && decide (0 < ab ((y : Int) % 8 - (x : Int) % 8) + ab ((y : Int) / 8 - (x : Int) / 8))) := by decide +kernel

theorem fT_46 (t : BitVec 64) (z : Nat) : fT t z = 46 ↔ t.getLsbD z = false := by
  unfold fT; cases t.getLsbD z <;> simp

theorem along_free (l : BitVec 64) (x : Nat) (hx : x < 64) (t : BitVec 64) (y : Nat) (hy : y < 64) (ok : lineOk l x y = true) :
    (alongB l x t).getLsbD y = ((l.getLsbD y && !decide (y = x)) && freeI (fT t) (pI (x : Int) (y : Int)) (LI (x : Int) (y : Int))) := by
  rw [Bool.eq_iff_iff, along_bit l x hx t y hy]
  unfold lineOk at ok
  unfold freeI
  by_cases h : (l.getLsbD y && !decide (y = x)) = true
  · rw [h] at ok ⊢
    rw [Bool.not_true, Bool.false_or, Bool.and_eq_true, Bool.and_eq_true, List.all_eq_true, List.all_eq_true] at ok
    obtain ⟨⟨_, o1⟩, o2⟩ := ok
    rw [Bool.true_and, decide_eq_true_eq]
    rw [Bool.and_eq_true, Bool.not_eq_true', decide_eq_false_iff_not] at h
    constructor
    · rintro ⟨_, _, g⟩ i hi i1
      have := o1 i (List.mem_range.mpr hi)
      rw [Bool.or_eq_true, decide_eq_true_eq, Bool.and_eq_true] at this
      rcases this with e | ⟨e1, e2⟩
      · omega
      · rw [fT_46]
        exact g _ (of_decide_eq_true e1) e2
    · intro g
      refine ⟨h.1, h.2, fun z hz hl => ?_⟩
      have := o2 z (List.mem_range.mpr (by omega))
      have hb : btw x y z = true := decide_eq_true hz
      rw [hb, hl, Bool.true_and, Bool.not_true, Bool.false_or, List.any_eq_true] at this
      obtain ⟨i, hi, e⟩ := this
      rw [Bool.and_eq_true, Bool.not_eq_true', decide_eq_false_iff_not, decide_eq_true_eq] at e
      have := g i (List.mem_range.mp hi) (by omega)
      rw [e.2, fT_46] at this
      exact this
  · have h' : (l.getLsbD y && !decide (y = x)) = false := by simpa using h
    rw [h']
    simp only [Bool.false_and, Bool.false_eq_true, iff_false]
    rintro ⟨a, b, _⟩
    rw [a] at h'
    simp at h'
    exact b h'

theorem slant_is (x : Nat) (hx : x < 64) (t : BitVec 64) (y : Nat) (hy : y < 64) :
    (slantB x t).getLsbD y = (slI (x : Int) (y : Int) && freeI (fT t) (pI (x : Int) (y : Int)) (LI (x : Int) (y : Int))) := by
  unfold slantB
  rw [BitVec.getLsbD_or, along_free _ x hx t y hy (ris_ok x hx y hy), along_free _ x hx t y hy (fal_ok x hx y hy), sl_is x hx y hy]
  cases ((risB x).getLsbD y && !decide (y = x)) <;> cases ((falB x).getLsbD y && !decide (y = x)) <;> cases freeI (fT t) (pI (x : Int) (y : Int)) (LI (x : Int) (y : Int)) <;> rfl
theorem straight_is (x : Nat) (hx : x < 64) (t : BitVec 64) (y : Nat) (hy : y < 64) :
    (straightB x t).getLsbD y = (stI (x : Int) (y : Int) && freeI (fT t) (pI (x : Int) (y : Int)) (LI (x : Int) (y : Int))) := by
  unfold straightB
  rw [BitVec.getLsbD_or, along_free _ x hx t y hy (file_ok x hx y hy), along_free _ x hx t y hy (rank_ok x hx y hy), st_is x hx y hy]
  cases ((fileB x).getLsbD y && !decide (y = x)) <;> cases ((rankB x).getLsbD y && !decide (y = x)) <;> cases freeI (fT t) (pI (x : Int) (y : Int)) (LI (x : Int) (y : Int)) <;> rfl

/-- THE PROGRAM's REACH IS THE REFERENCE's. -/
theorem reach_ref (k x : Nat) (k0 : 1 ≤ k) (k1 : k ≤ 7) (hx : x < 64) (t : BitVec 64) : reachB k x t = refB k (x : Int) t := by
  apply BitVec.eq_of_getLsbD_eq
  intro y hy
  rw [refB_bit k _ t y hy]
  have hk : k = 1 ∨ k = 2 ∨ k = 3 ∨ k = 4 ∨ k = 5 ∨ k = 6 ∨ k = 7 := by omega
  rcases hk with rfl | rfl | rfl | rfl | rfl | rfl | rfl
  · exact wp_is x hx y hy
  · exact bp_is x hx y hy
  · exact kn_is x hx y hy
  · exact slant_is x hx t y hy
  · exact straight_is x hx t y hy
  · show (slantB x t ||| straightB x t).getLsbD y = ((stI (x : Int) (y : Int) || slI (x : Int) (y : Int)) && freeI (fT t) (pI (x : Int) (y : Int)) (LI (x : Int) (y : Int)))
    rw [BitVec.getLsbD_or, slant_is x hx t y hy, straight_is x hx t y hy]
    cases stI (x : Int) (y : Int) <;> cases slI (x : Int) (y : Int) <;> cases freeI (fT t) (pI (x : Int) (y : Int)) (LI (x : Int) (y : Int)) <;> rfl
  · exact ki_is x hx y hy

end Go.Proofs.YtnfakamfmkhlbaaGreatDoor.P
