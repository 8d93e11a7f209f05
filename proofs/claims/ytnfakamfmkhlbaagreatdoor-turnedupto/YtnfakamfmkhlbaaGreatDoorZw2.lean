import Derived.Test.YtnfakamfmkhlbaaGreatDoorZw1
import Derived.Deep.QuietTactic
import Derived.BigQuiet
import Derived.Deep.RegionHeld3
namespace Go.Proofs.YtnfakamfmkhlbaaGreatDoor.C
open Go.RowKit
open Go.Proofs.YtnfakamfmkhlbaaGreatDoor.P
/-! behind a legal move the position can be -/
end Go.Proofs.YtnfakamfmkhlbaaGreatDoor.C
namespace Go.Proofs.YtnfakamfmkhlbaaGreatDoor.C
open Go.RowKit
open Go.Proofs.YtnfakamfmkhlbaaGreatDoor.P
end Go.Proofs.YtnfakamfmkhlbaaGreatDoor.C
namespace Go.Proofs.YtnfakamfmkhlbaaGreatDoor.C
open Go.RowKit
open Go.Proofs.YtnfakamfmkhlbaaGreatDoor.P
section
variable {z : Nat → UInt8} {wh : Bool} {fc : Nat → Bool} {b : Int} {i f t cs : Nat} {u : UInt8}
end
end Go.Proofs.YtnfakamfmkhlbaaGreatDoor.C
namespace Go.Proofs.YtnfakamfmkhlbaaGreatDoor.C
open Go.RowKit
open Go.Proofs.YtnfakamfmkhlbaaGreatDoor.P
section
variable {z : Nat → UInt8} {wh : Bool} {fc : Nat → Bool} {b : Int}
/-! rights, the square behind, clocks -/
end
end Go.Proofs.YtnfakamfmkhlbaaGreatDoor.C
namespace Go.Proofs.YtnfakamfmkhlbaaGreatDoor.C
open Go.RowKit
open Go.Proofs.YtnfakamfmkhlbaaGreatDoor.P
section
variable {z : Nat → UInt8} {wh : Bool} {fc : Nat → Bool} {b : Int} {i f t cs : Nat} {u : UInt8}
end
end Go.Proofs.YtnfakamfmkhlbaaGreatDoor.C
namespace Go.Proofs.YtnfakamfmkhlbaaGreatDoor.C
open Go.ChangeShapes Go.WideShapes Go.ChangeAt Go.RowKit Go.Shelf
open Go.Proofs.YtnfakamfmkhlbaaGreatDoor.P
end Go.Proofs.YtnfakamfmkhlbaaGreatDoor.C
namespace Go.Proofs.YtnfakamfmkhlbaaGreatDoor.C
open Go.ChangeShapes Go.WideShapes Go.ChangeAt Go.RowKit Go.Shelf
open Go.Proofs.YtnfakamfmkhlbaaGreatDoor.P
attribute [local go_sem] qb qd
end Go.Proofs.YtnfakamfmkhlbaaGreatDoor.C
namespace Go.Proofs.YtnfakamfmkhlbaaGreatDoor.C
open Go.RowKit
open Go.Proofs.YtnfakamfmkhlbaaGreatDoor.P
end Go.Proofs.YtnfakamfmkhlbaaGreatDoor.C
namespace Go.Proofs.YtnfakamfmkhlbaaGreatDoor.C
open Go.RowKit
open Go.Proofs.YtnfakamfmkhlbaaGreatDoor.P
end Go.Proofs.YtnfakamfmkhlbaaGreatDoor.C
namespace Go.Proofs.YtnfakamfmkhlbaaGreatDoor.C
open Go.ChangeShapes Go.WideShapes Go.ChangeAt Go.RowKit Go.Shelf
open Go.Proofs.YtnfakamfmkhlbaaGreatDoor.P
attribute [local go_sem] qb qd Oper.semAt_some
end Go.Proofs.YtnfakamfmkhlbaaGreatDoor.C
namespace Go.Proofs.YtnfakamfmkhlbaaGreatDoor.C
open Go.RowKit
open Go.Proofs.YtnfakamfmkhlbaaGreatDoor.P
/-! a position turned over -/
def mr (n : Nat) : Nat := (7 - n / 8) * 8 + n % 8
def mc (c : UInt8) : UInt8 := if c = 46 then 46 else c ^^^ 32
def mZ (z : Nat → UInt8) (n : Nat) : UInt8 := if n < 64 then mc (z (mr n)) else 0
theorem mZ_lt {z : Nat → UInt8} {n : Nat} (h : n < 64) : mZ z n = mc (z (mr n)) := if_pos h
theorem mr_lt {n : Nat} (h : n < 64) : mr n < 64 := by unfold mr; omega
theorem mr_mr {n : Nat} (h : n < 64) : mr (mr n) = n := by unfold mr; omega
theorem mZ_mr {z : Nat → UInt8} {n : Nat} (h : n < 64) : mZ z (mr n) = mc (z n) := by rw [mZ_lt (mr_lt h), mr_mr h]
theorem mr_div {n : Nat} (_h : n < 64) : mr n / 8 = 7 - n / 8 ∧ mr n % 8 = n % 8 := by unfold mr; omega
theorem mr_inj {a c : Nat} (ha : a < 64) (hc : c < 64) (h : mr a = mr c) : a = c := by rw [← mr_mr ha, h, mr_mr hc]
theorem mc_ok : ∀ c : UInt8, okY c = true → okY (mc c) = true ∧ (mc c = 46 ↔ c = 46) ∧ mc (mc c) = c ∧ kdc (mc c) = kdc c ∧ coc (mc c) = -(coc c) ∧ (∀ bb : Bool, ∀ k, k < 6 → (ixc (mc c) = ((bg (!bb) + k : Nat) : Int) ↔ ixc c = ((bg bb + k : Nat) : Int))) := by
  have : ∀ n : Fin 256, okY (UInt8.ofNat n.val) = true → okY (mc (UInt8.ofNat n.val)) = true ∧ (mc (UInt8.ofNat n.val) = 46 ↔ UInt8.ofNat n.val = 46) ∧ mc (mc (UInt8.ofNat n.val)) = UInt8.ofNat n.val ∧ kdc (mc (UInt8.ofNat n.val)) = kdc (UInt8.ofNat n.val) ∧ coc (mc (UInt8.ofNat n.val)) = -(coc (UInt8.ofNat n.val)) ∧ (∀ bb : Bool, ∀ k, k < 6 → (ixc (mc (UInt8.ofNat n.val)) = ((bg (!bb) + k : Nat) : Int) ↔ ixc (UInt8.ofNat n.val) = ((bg bb + k : Nat) : Int))) := by decide +kernel
  exact all256 this
theorem sdb_not (wh : Bool) : sdb (!wh) = -(sdb wh) := by cases wh <;> rfl
theorem lay_mr {z : Nat → UInt8} (hok : layOk z = true) : layOk (mZ z) = true := by
  unfold layOk
  rw [List.all_eq_true]
  intro n hn
  rw [mZ_lt (List.mem_range.1 hn)]
  exact (mc_ok _ (xe hok (mr_lt (List.mem_range.1 hn)))).1
theorem lin_mr : ∀ x, x < 64 → ∀ y, y < 64 → stI ((mr x : Nat) : Int) ((mr y : Nat) : Int) = stI ((x : Nat) : Int) ((y : Nat) : Int) ∧ slI ((mr x : Nat) : Int) ((mr y : Nat) : Int) = slI ((x : Nat) : Int) ((y : Nat) : Int) ∧ LI ((mr x : Nat) : Int) ((mr y : Nat) : Int) = LI ((x : Nat) : Int) ((y : Nat) : Int) := by decide +kernel
theorem pI_mr : ∀ x, x < 64 → ∀ y, y < 64 → (stI ((x : Nat) : Int) ((y : Nat) : Int) || slI ((x : Nat) : Int) ((y : Nat) : Int)) = true → ∀ i, i < LI ((x : Nat) : Int) ((y : Nat) : Int) → (pI ((mr x : Nat) : Int) ((mr y : Nat) : Int) i).toNat = mr (pI ((x : Nat) : Int) ((y : Nat) : Int) i).toNat ∧ (pI ((x : Nat) : Int) ((y : Nat) : Int) i).toNat < 64 := by decide +kernel
theorem free_mr {z : Nat → UInt8} (hok : layOk z = true) {x y : Nat} (hx : x < 64) (hy : y < 64) (hl : (stI (x : Int) (y : Int) || slI (x : Int) (y : Int)) = true) : freeI (zI (mZ z)) (pI ((mr x : Nat) : Int) ((mr y : Nat) : Int)) (LI ((mr x : Nat) : Int) ((mr y : Nat) : Int)) = freeI (zI z) (pI (x : Int) (y : Int)) (LI (x : Int) (y : Int)) := by
  obtain ⟨_, _, e3⟩ := lin_mr x hx y hy
  unfold freeI
  rw [e3]
  have key : ∀ i, i < LI (x : Int) (y : Int) → (zI (mZ z) (pI ((mr x : Nat) : Int) ((mr y : Nat) : Int) i).toNat = 46 ↔ zI z (pI (x : Int) (y : Int) i).toNat = 46) := fun i hi => by
    obtain ⟨a1, a2⟩ := pI_mr x hx y hy hl i hi
    rw [a1]
    unfold zI
    rw [mZ_mr a2]
    have := (mc_ok _ (xe hok a2)).2.1
    constructor
    · intro h
      have h1 : mc (z (pI (x : Int) (y : Int) i).toNat) = 46 := UInt8.toNat_inj.1 (by have : (46 : UInt8).toNat = 46 := rfl; omega)
      rw [this.1 h1]; rfl
    · intro h
      have h1 : z (pI (x : Int) (y : Int) i).toNat = 46 := UInt8.toNat_inj.1 (by have : (46 : UInt8).toNat = 46 := rfl; omega)
      rw [this.2 h1]; rfl
  apply decide_eq_decide.2
  exact ⟨fun h i hi h1 => (key i hi).1 (h i hi h1), fun h i hi h1 => (key i hi).2 (h i hi h1)⟩
theorem near_mr : ∀ x, x < 64 → ∀ y, y < 64 → ab (((mr y : Nat) : Int) % 8 - ((mr x : Nat) : Int) % 8) = ab (((y : Nat) : Int) % 8 - ((x : Nat) : Int) % 8) ∧ ((mr y : Nat) : Int) / 8 - ((mr x : Nat) : Int) / 8 = -(((y : Nat) : Int) / 8 - ((x : Nat) : Int) / 8) := by decide +kernel
theorem ab_neg (d : Int) : ab (-d) = ab d := by unfold ab; split <;> split <;> omega
/-- attacks are turned over with the board. -/
theorem att_mr {z : Nat → UInt8} (hok : layOk z = true) {wh : Bool} {k x y : Nat} (hx : x < 64) (hy : y < 64) : attI (zI (mZ z)) k (sdb (!wh)) ((mr x : Nat) : Int) ((mr y : Nat) : Int) = attI (zI z) k (sdb wh) (x : Int) (y : Int) := by
  obtain ⟨e1, e2, _⟩ := lin_mr x hx y hy
  obtain ⟨n1, n2⟩ := near_mr x hx y hy
  unfold attI
  by_cases k0 : k = 0
  · rw [if_pos k0, if_pos k0, n1, n2, sdb_not]
    have : (-((y : Int) / 8 - (x : Int) / 8) == -(sdb wh)) = ((y : Int) / 8 - (x : Int) / 8 == sdb wh) := by
      rw [Bool.eq_iff_iff, beq_iff_eq, beq_iff_eq]; omega
    rw [this]
  · rw [if_neg k0, if_neg k0]
    by_cases k1 : k = 1
    · rw [if_pos k1, if_pos k1, n1, n2, ab_neg]
    · rw [if_neg k1, if_neg k1]
      by_cases k2 : k = 2
      · rw [if_pos k2, if_pos k2, e2]
        cases hl : slI (x : Int) (y : Int) with
        | false => rfl
        | true => rw [free_mr hok hx hy (by rw [hl]; simp)]
      · rw [if_neg k2, if_neg k2]
        by_cases k3 : k = 3
        · rw [if_pos k3, if_pos k3, e1]
          cases hl : stI (x : Int) (y : Int) with
          | false => rfl
          | true => rw [free_mr hok hx hy (by rw [hl]; rfl)]
        · rw [if_neg k3, if_neg k3]
          by_cases k4 : k = 4
          · rw [if_pos k4, if_pos k4, e1, e2]
            cases hl : (stI (x : Int) (y : Int) || slI (x : Int) (y : Int)) with
            | false => rfl
            | true => rw [free_mr hok hx hy hl]
          · rw [if_neg k4, if_neg k4, n1, n2, ab_neg]
theorem attR_mr {z : Nat → UInt8} (hok : layOk z = true) {wh : Bool} {y : Nat} (hy : y < 64) : attR (mZ z) ((mr y : Nat) : Int) (!wh) = attR z (y : Int) wh := by
  have key : ∀ n, n < 64 → (decide (coc (mZ z (mr n)) = sdb (!wh)) && attI (zI (mZ z)) (kdc (mZ z (mr n))).toNat (sdb (!wh)) ((mr n : Nat) : Int) ((mr y : Nat) : Int)) = (decide (coc (z n) = sdb wh) && attI (zI z) (kdc (z n)).toNat (sdb wh) (n : Int) (y : Int)) := fun n hn => by
    obtain ⟨_, _, _, c4, c5, _⟩ := mc_ok _ (xe hok hn)
    have e : mZ z (mr n) = mc (z n) := mZ_mr hn
    rw [e, c4, c5, sdb_not, ← sdb_not, att_mr hok hn hy]
    rw [show decide (-(coc (z n)) = sdb (!wh)) = decide (coc (z n) = sdb wh) from decide_eq_decide.2 (by rw [sdb_not]; omega)]
  unfold attR
  rw [Bool.eq_iff_iff, List.any_eq_true, List.any_eq_true]
  constructor
  · rintro ⟨n, hn, h⟩
    have hn := List.mem_range.1 hn
    have := key (mr n) (mr_lt hn)
    rw [mr_mr hn] at this
    exact ⟨mr n, List.mem_range.2 (mr_lt hn), by rw [← this]; exact h⟩
  · rintro ⟨n, hn, h⟩
    have hn := List.mem_range.1 hn
    exact ⟨mr n, List.mem_range.2 (mr_lt hn), by rw [key n hn]; exact h⟩
end Go.Proofs.YtnfakamfmkhlbaaGreatDoor.C
namespace Go.Proofs.YtnfakamfmkhlbaaGreatDoor.C
open Go.RowKit
open Go.Proofs.YtnfakamfmkhlbaaGreatDoor.P
def s4 (i : Nat) : Nat := (i + 2) % 4
def fcm (fc : Nat → Bool) (k : Nat) : Bool := fc (s4 k)
def bm (b : Int) : Int := if b < 0 then b else ((mr b.toNat : Nat) : Int)
theorem s4_facts : ∀ i, i < 4 → s4 i < 4 ∧ s4 (s4 i) = i ∧ hK (s4 i) = mr (hK i) ∧ casT (s4 i) = mr (casT i) ∧ hR (s4 i) = mr (hR i) ∧ rN (s4 i) = mr (rN i) ∧ decide (s4 i < 2) = !decide (i < 2) ∧ hN (s4 i) = hN i ∧ hK i < 64 ∧ casT i < 64 := by decide +kernel
theorem sqK_mr : ∀ i, i < 4 → ∀ j, j < 4 → j ≤ hN i → sqK ((hK (s4 i) : Nat) : Int) (hD (s4 i)) j = mr (sqK ((hK i : Nat) : Int) (hD i) j) ∧ sqK ((hK i : Nat) : Int) (hD i) j < 64 := by decide +kernel
theorem hN_is : ∀ i, i < 4 → hN i = 2 ∨ hN i = 3 := by decide +kernel
theorem bm_eq {b : Int} (h0 : -1 ≤ b) (h1 : b ≤ 63) {t : Nat} (ht : t < 64) : ((mr t : Nat) : Int) = bm b ↔ (t : Int) = b := by
  unfold bm
  by_cases hb : b < 0
  · rw [if_pos hb]; omega
  · rw [if_neg hb]
    constructor
    · intro h
      have := mr_inj ht (show b.toNat < 64 by omega) (by omega)
      omega
    · intro h
      have : t = b.toNat := by omega
      rw [this]
theorem dot_mr {z : Nat → UInt8} (hok : layOk z = true) {n : Nat} (hn : n < 64) : mZ z (mr n) = 46 ↔ z n = 46 := by
  rw [mZ_mr hn]
  exact (mc_ok _ (xe hok hn)).2.1
theorem freeC_mr {z : Nat → UInt8} (hok : layOk z = true) {i : Nat} (hi : i < 4) : freeC (mZ z) (s4 i) = freeC z i := by
  obtain ⟨a1, _, _, _, _, _, a7, a8, _, _⟩ := s4_facts i hi
  have hn := hN_is i hi
  rw [zc (lay_mr hok) a1, zc hok hi]
  unfold mcB mcE mcA
  rw [a7, a8]
  have e1 : ((List.range (hN i)).all fun j => mZ z (sqK ((hK (s4 i) : Nat) : Int) (hD (s4 i)) (j + 1)) == 46) = ((List.range (hN i)).all fun j => z (sqK ((hK i : Nat) : Int) (hD i) (j + 1)) == 46) := by
    rw [Bool.eq_iff_iff, List.all_eq_true, List.all_eq_true]
    have key : ∀ j, j ∈ List.range (hN i) → ((mZ z (sqK ((hK (s4 i) : Nat) : Int) (hD (s4 i)) (j + 1)) == 46) = true ↔ (z (sqK ((hK i : Nat) : Int) (hD i) (j + 1)) == 46) = true) := fun j hj => by
      have hj := List.mem_range.1 hj
      obtain ⟨b1, b2⟩ := sqK_mr i hi (j + 1) (by omega) (by omega)
      rw [b1, beq_iff_eq, beq_iff_eq]
      exact dot_mr hok b2
    exact ⟨fun h j hj => (key j hj).1 (h j hj), fun h j hj => (key j hj).2 (h j hj)⟩
  have e2 : ((List.range 3).all fun j => !(attLB (mZ z) (sqK ((hK (s4 i) : Nat) : Int) (hD (s4 i)) j) (!(!decide (i < 2))))) = ((List.range 3).all fun j => !(attLB z (sqK ((hK i : Nat) : Int) (hD i) j) (!decide (i < 2)))) := by
    rw [Bool.eq_iff_iff, List.all_eq_true, List.all_eq_true]
    have key : ∀ j, j ∈ List.range 3 → attLB (mZ z) (sqK ((hK (s4 i) : Nat) : Int) (hD (s4 i)) j) (!(!decide (i < 2))) = attLB z (sqK ((hK i : Nat) : Int) (hD i) j) (!decide (i < 2)) := fun j hj => by
      have hj := List.mem_range.1 hj
      obtain ⟨b1, b2⟩ := sqK_mr i hi j (by omega) (by omega)
      rw [b1, qz (lay_mr hok) (mr_lt b2), qz hok b2]
      exact attR_mr hok b2
    exact ⟨fun h j hj => by rw [← key j hj]; exact h j hj, fun h j hj => by rw [key j hj]; exact h j hj⟩
  rw [e1, e2]
theorem up_mr {f t : Nat} (hf : f < 64) (ht : t < 64) : upR (mr f) (mr t) = -(upR f t) := by
  unfold upR
  rw [(mr_div hf).1, (mr_div ht).1]
  omega
theorem last_mr {t : Nat} (ht : t < 64) : lastR (mr t) = lastR t := by
  unfold lastR
  rw [(mr_div ht).1]
  by_cases h0 : t / 8 = 0
  · rw [decide_eq_true h0, decide_eq_false (show ¬ 7 - t / 8 = 0 by omega), decide_eq_true (show 7 - t / 8 = 7 by omega)]; rfl
  · by_cases h7 : t / 8 = 7
    · rw [decide_eq_false h0, decide_eq_true h7, decide_eq_true (show 7 - t / 8 = 0 by omega)]; rfl
    · rw [decide_eq_false h0, decide_eq_false h7, decide_eq_false (show ¬ 7 - t / 8 = 0 by omega), decide_eq_false (show ¬ 7 - t / 8 = 7 by omega)]
theorem pwU_mr {z : Nat → UInt8} (hok : layOk z = true) {wh : Bool} {f t : Nat} (hf : f < 64) (ht : t < 64) : pwU (mZ z) (!wh) (mr f) (mr t) = pwU z wh f t := by
  unfold pwU
  rw [up_mr hf ht, sdb_not, (mr_div hf).1]
  rw [show decide (-(upR f t) = -(sdb wh)) = decide (upR f t = sdb wh) from decide_eq_decide.2 (by omega), show decide (-(upR f t) = 2 * -(sdb wh)) = decide (upR f t = 2 * sdb wh) from decide_eq_decide.2 (by omega)]
  cases wh
  · simp only [Bool.not_false, if_true, Bool.false_eq_true, if_false]
    by_cases h6 : f / 8 = 6
    · have : mr f + 8 = mr (f - 8) := by unfold mr; omega
      rw [this, decide_eq_true h6, decide_eq_true (show 7 - f / 8 = 1 by omega), show decide (mZ z (mr (f - 8)) = 46) = decide (z (f - 8) = 46) from decide_eq_decide.2 (dot_mr hok (by omega))]
    · rw [decide_eq_false h6, decide_eq_false (show ¬ 7 - f / 8 = 1 by omega)]
      simp
  · simp only [Bool.not_true, Bool.false_eq_true, if_false, if_true]
    by_cases h1 : f / 8 = 1
    · have : mr f - 8 = mr (f + 8) := by unfold mr; omega
      rw [this, decide_eq_true h1, decide_eq_true (show 7 - f / 8 = 6 by omega), show decide (mZ z (mr (f + 8)) = 46) = decide (z (f + 8) = 46) from decide_eq_decide.2 (dot_mr hok (by omega))]
    · rw [decide_eq_false h1, decide_eq_false (show ¬ 7 - f / 8 = 6 by omega)]
      simp
end Go.Proofs.YtnfakamfmkhlbaaGreatDoor.C
namespace Go.Proofs.YtnfakamfmkhlbaaGreatDoor.C
open Go.RowKit
open Go.Proofs.YtnfakamfmkhlbaaGreatDoor.P
theorem co_mr {z : Nat → UInt8} (hok : layOk z = true) {wh : Bool} {n : Nat} (hn : n < 64) : decide (coc (mZ z (mr n)) = sdb (!wh)) = decide (coc (z n) = sdb wh) := by
  obtain ⟨_, _, _, _, c5, _⟩ := mc_ok _ (xe hok hn)
  have e : mZ z (mr n) = mc (z n) := mZ_mr hn
  rw [e, c5, sdb_not]
  exact decide_eq_decide.2 (by omega)
theorem kd_mr {z : Nat → UInt8} (hok : layOk z = true) {n : Nat} (hn : n < 64) : kdc (mZ z (mr n)) = kdc (z n) := by
  rw [mZ_mr hn]
  exact (mc_ok _ (xe hok hn)).2.2.2.1
theorem s4_dec {wh : Bool} {i : Nat} (hi : i < 4) (h : wh = decide (i < 2)) : (!wh) = decide (s4 i < 2) := by
  rw [(s4_facts i hi).2.2.2.2.2.2.1, h]
theorem cas_go {z : Nat → UInt8} (hok : layOk z = true) {wh : Bool} {fc : Nat → Bool} {f t : Nat} (h : (decide (0 ≤ casR wh fc f t 0) && freeC z (casR wh fc f t 0).toNat) = true) : (decide (0 ≤ casR (!wh) (fcm fc) (mr f) (mr t) 0) && freeC (mZ z) (casR (!wh) (fcm fc) (mr f) (mr t) 0).toNat) = true := by
  obtain ⟨i, hi, a1, a2, a3, a4, a5, _⟩ := qqr.1 h
  obtain ⟨b1, b2, b3, b4, _⟩ := s4_facts i hi
  have c1 : fcm fc (s4 i) = true := by unfold fcm; rw [b2]; exact a2
  refine qqr.2 ⟨s4 i, b1, s4_dec hi a1, c1, by rw [a3, b3], by rw [a4, b4], by rw [freeC_mr hok hi]; exact a5, casR_is b1 c1 (s4_dec hi a1) (by rw [a3, b3]) (by rw [a4, b4])⟩
theorem cas_back {z : Nat → UInt8} (hok : layOk z = true) {wh : Bool} {fc : Nat → Bool} {f t : Nat} (hf : f < 64) (ht : t < 64) (h : (decide (0 ≤ casR (!wh) (fcm fc) (mr f) (mr t) 0) && freeC (mZ z) (casR (!wh) (fcm fc) (mr f) (mr t) 0).toNat) = true) : (decide (0 ≤ casR wh fc f t 0) && freeC z (casR wh fc f t 0).toNat) = true := by
  obtain ⟨i, hi, a1, a2, a3, a4, a5, _⟩ := qqr.1 h
  obtain ⟨b1, b2, b3, b4, _, _, _, _, b9, b10⟩ := s4_facts i hi
  have c1 : fc (s4 i) = true := a2
  have c2 : wh = decide (s4 i < 2) := by have := s4_dec hi a1; rw [Bool.not_not] at this; exact this
  have c3 : f = hK (s4 i) := by rw [b3, ← a3, mr_mr hf]
  have c4 : t = casT (s4 i) := by rw [b4, ← a4, mr_mr ht]
  refine qqr.2 ⟨s4 i, b1, c2, c1, c3, c4, ?_, casR_is b1 c1 c2 c3 c4⟩
  have := freeC_mr hok b1
  rw [b2] at this
  rw [← this]; exact a5
theorem goes_mr {z : Nat → UInt8} (hok : layOk z = true) {wh : Bool} {fc : Nat → Bool} {b : Int} (h0 : -1 ≤ b) (h1 : b ≤ 63) {f t : Nat} (hf : f < 64) (ht : t < 64) (u : UInt8) : goesR (mZ z) (!wh) (fcm fc) (bm b) (mr f) (mr t) u = goesR z wh fc b f t u := by
  unfold goesR
  rw [co_mr hok hf, co_mr hok ht, kd_mr hok hf, last_mr ht]
  by_cases hk : kdc (z f) = 0
  · rw [if_pos hk, if_pos hk]
    congr 1
    unfold pwR
    rw [att_mr hok hf ht, co_mr (wh := !wh) hok ht, pwU_mr hok hf ht, (mr_div hf).2, (mr_div ht).2]
    rw [show decide (((mr t : Nat) : Int) = bm b) = decide ((t : Int) = b) from decide_eq_decide.2 (bm_eq h0 h1 ht), show decide (mZ z (mr t) = 46) = decide (z t = 46) from decide_eq_decide.2 (dot_mr hok ht)]
  · rw [if_neg hk, if_neg hk]
    by_cases hu : u = 0
    · subst hu
      congr 1
      unfold mnR
      rw [att_mr hok hf ht]
      have : (decide (0 ≤ casR (!wh) (fcm fc) (mr f) (mr t) 0) && freeC (mZ z) (casR (!wh) (fcm fc) (mr f) (mr t) 0).toNat) = (decide (0 ≤ casR wh fc f t 0) && freeC z (casR wh fc f t 0).toNat) := by
        rw [Bool.eq_iff_iff]
        exact ⟨cas_back hok hf ht, cas_go hok⟩
      rw [Bool.and_assoc, Bool.and_assoc, this]
    · rw [decide_eq_true hu, decide_eq_false hk]
      simp
end Go.Proofs.YtnfakamfmkhlbaaGreatDoor.C
