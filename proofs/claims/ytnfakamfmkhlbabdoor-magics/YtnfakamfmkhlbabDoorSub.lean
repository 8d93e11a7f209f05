import Derived.Test.YtnfakamfmkhlbabDoorLow
namespace Go.Proofs.YtnfakamfmkhlbabDoor.P

/-! the sets of some squares, as the program goes through them -/
def nxt (s p : BitVec 64) : BitVec 64 := (p - s) &&& s
def prv (s p : BitVec 64) : BitVec 64 := (p - 1#64) &&& s
def ex (x : BitVec 64) (i : Nat) : Bool := decide (∃ j, j < i ∧ x.getLsbD j = true)
theorem nxt_neg (s p : BitVec 64) (h : p &&& s = p) : nxt s p = (-(s &&& ~~~p)) &&& s := by
  unfold nxt
  congr 1
  have e : s &&& ~~~p = s - p := by
    have h1 : (s &&& ~~~p) + p = s := by
      have : (s &&& ~~~p) + p = (s &&& ~~~p) ||| p := by
        apply BitVec.add_eq_or_of_and_eq_zero
        apply BitVec.eq_of_getLsbD_eq
        intro i hi
        simp only [BitVec.getLsbD_and, BitVec.getLsbD_not, BitVec.getLsbD_zero, hi, decide_true, Bool.true_and]
        cases p.getLsbD i <;> simp
      rw [this]
      apply BitVec.eq_of_getLsbD_eq
      intro i hi
      have := congrArg (fun x => x.getLsbD i) h
      simp only [BitVec.getLsbD_and] at this
      simp only [BitVec.getLsbD_or, BitVec.getLsbD_and, BitVec.getLsbD_not, hi, decide_true, Bool.true_and]
      revert this
      cases p.getLsbD i <;> cases s.getLsbD i <;> simp
    exact (BitVec.eq_sub_iff_add_eq.mpr h1)
  rw [e, BitVec.neg_sub, BitVec.add_comm, BitVec.sub_eq_add_neg]
theorem neg_bit (x : BitVec 64) (i : Nat) (hi : i < 64) : (-x).getLsbD i = (x.getLsbD i != ex x i) := by
  rw [BitVec.getLsbD_neg]
  simp only [hi, decide_true, Bool.true_and, ex]
theorem sub_one (x : BitVec 64) (i : Nat) (hi : i < 64) : (x - 1#64).getLsbD i = !(x.getLsbD i != ex x i) := by
  have e : x - 1#64 = ~~~(-x) := by
    rw [BitVec.not_neg]
  rw [e, BitVec.getLsbD_not, neg_bit x i hi]
  simp [hi]
theorem ex_congr {x y : BitVec 64} {i : Nat} (h : ∀ j, j < i → x.getLsbD j = y.getLsbD j) : ex x i = ex y i := by
  unfold ex
  congr 1
  apply propext
  constructor
  · rintro ⟨j, a, b⟩; exact ⟨j, a, by rw [← h j a]; exact b⟩
  · rintro ⟨j, a, b⟩; exact ⟨j, a, by rw [h j a]; exact b⟩
theorem sub_bits {s u : BitVec 64} (h : u &&& s = u) (i : Nat) (h1 : u.getLsbD i = true) : s.getLsbD i = true := by
  have := congrArg (fun x => x.getLsbD i) h
  simp only [BitVec.getLsbD_and, h1, Bool.true_and] at this
  exact this
/-- what lies behind the one ahead is the one itself -/
theorem nxt_prv (s u : BitVec 64) (h : u &&& s = u) (low : ∃ t, t < 64 ∧ u.getLsbD t = true ∧ ∀ j, j < t → u.getLsbD j = false) : nxt s (prv s u) = u := by
  obtain ⟨t, t1, t2, t3⟩ := low
  have hp : prv s u &&& s = prv s u := by unfold prv; rw [BitVec.and_assoc, BitVec.and_self]
  rw [nxt_neg s _ hp]
  have hb : ∀ i, i < 64 → (prv s u).getLsbD i = ((!(u.getLsbD i != ex u i)) && s.getLsbD i) := fun i hi => by
    unfold prv; rw [BitVec.getLsbD_and, sub_one u i hi]
  have exl : ∀ i, i ≤ t → ex u i = false := fun i hi => by
    unfold ex; rw [decide_eq_false_iff_not]; rintro ⟨j, a, b⟩; rw [t3 j (by omega)] at b; exact absurd b (by decide)
  have exg : ∀ i, t < i → ex u i = true := fun i hi => by
    unfold ex; rw [decide_eq_true_eq]; exact ⟨t, hi, t2⟩
  have hy : ∀ i, i < 64 → (s &&& ~~~(prv s u)).getLsbD i = (if i < t then false else if i = t then true else (s.getLsbD i && !u.getLsbD i)) := fun i hi => by
    rw [BitVec.getLsbD_and, BitVec.getLsbD_not, hb i hi]
    rcases Nat.lt_trichotomy i t with hl | hl | hl
    · rw [if_pos hl, exl i (by omega), t3 i hl]; cases s.getLsbD i <;> simp
    · subst hl; rw [if_neg (by omega), if_pos rfl, exl i (by omega), t2, sub_bits h i t2]; simp [hi]
    · rw [if_neg (by omega), if_neg (by omega), exg i hl]; cases s.getLsbD i <;> cases u.getLsbD i <;> simp [hi]
  apply BitVec.eq_of_getLsbD_eq
  intro i hi
  rw [BitVec.getLsbD_and, neg_bit _ i hi, hy i hi]
  rcases Nat.lt_trichotomy i t with hl | hl | hl
  · have : ex (s &&& ~~~(prv s u)) i = false := by
      unfold ex; rw [decide_eq_false_iff_not]; rintro ⟨j, a, b⟩; rw [hy j (by omega), if_pos (by omega)] at b; exact absurd b (by decide)
    rw [this, if_pos hl, t3 i hl]; simp
  · subst hl
    have : ex (s &&& ~~~(prv s u)) i = false := by
      unfold ex; rw [decide_eq_false_iff_not]; rintro ⟨j, a, b⟩; rw [hy j (by omega), if_pos (by omega)] at b; exact absurd b (by decide)
    rw [this, if_neg (by omega), if_pos rfl, t2, sub_bits h i t2]; simp
  · have : ex (s &&& ~~~(prv s u)) i = true := by
      unfold ex; rw [decide_eq_true_eq]; exact ⟨t, hl, by rw [hy t t1, if_neg (by omega), if_pos rfl]⟩
    rw [this, if_neg (by omega), if_neg (by omega)]
    cases hs : s.getLsbD i <;> cases hu : u.getLsbD i <;> simp
    rw [sub_bits h i hu] at hs; exact absurd hs (by decide)
/-- and what lies ahead of the one behind -/
theorem prv_nxt (s p : BitVec 64) (h : p &&& s = p) (low : ∃ t, t < 64 ∧ (s &&& ~~~p).getLsbD t = true ∧ ∀ j, j < t → (s &&& ~~~p).getLsbD j = false) : prv s (nxt s p) = p ∧ nxt s p ≠ 0#64 := by
  rw [nxt_neg s p h]
  obtain ⟨t, t1, t2, t3⟩ := low
  generalize hq : s &&& ~~~p = y at t2 t3 ⊢
  have hyb : ∀ i, i < 64 → y.getLsbD i = (s.getLsbD i && !p.getLsbD i) := fun i hi => by
    rw [← hq, BitVec.getLsbD_and, BitVec.getLsbD_not]; simp [hi]
  have exl : ∀ i, i ≤ t → ex y i = false := fun i hi => by
    unfold ex; rw [decide_eq_false_iff_not]; rintro ⟨j, a, b⟩; rw [t3 j (by omega)] at b; exact absurd b (by decide)
  have exg : ∀ i, t < i → ex y i = true := fun i hi => by
    unfold ex; rw [decide_eq_true_eq]; exact ⟨t, hi, t2⟩
  have hst : s.getLsbD t = true ∧ p.getLsbD t = false := by
    have := t2; rw [hyb t t1] at this
    simpa using this
  have hn : ∀ i, i < 64 → (-y &&& s).getLsbD i = (if i < t then false else if i = t then true else p.getLsbD i) := fun i hi => by
    rw [BitVec.getLsbD_and, neg_bit y i hi]
    rcases Nat.lt_trichotomy i t with hl | hl | hl
    · rw [if_pos hl, exl i (by omega), t3 i hl]; simp
    · subst hl; rw [if_neg (by omega), if_pos rfl, exl i (by omega), t2, hst.1]; simp
    · rw [if_neg (by omega), if_neg (by omega), exg i hl, hyb i hi]
      cases hs : s.getLsbD i <;> cases hp : p.getLsbD i <;> simp
      rw [sub_bits h i hp] at hs; exact absurd hs (by decide)
  constructor
  · apply BitVec.eq_of_getLsbD_eq
    intro i hi
    unfold prv
    rw [BitVec.getLsbD_and, sub_one _ i hi, hn i hi]
    rcases Nat.lt_trichotomy i t with hl | hl | hl
    · have e : ex (-y &&& s) i = false := by
        unfold ex; rw [decide_eq_false_iff_not]; rintro ⟨j, a, b⟩; rw [hn j (by omega), if_pos (by omega)] at b; exact absurd b (by decide)
      have e2 := t3 i hl
      rw [hyb i hi] at e2
      rw [e, if_pos hl]
      revert e2
      cases hs : s.getLsbD i <;> cases hp : p.getLsbD i <;> simp
      rw [sub_bits h i hp] at hs; exact absurd hs (by decide)
    · subst hl
      have e : ex (-y &&& s) i = false := by
        unfold ex; rw [decide_eq_false_iff_not]; rintro ⟨j, a, b⟩; rw [hn j (by omega), if_pos (by omega)] at b; exact absurd b (by decide)
      rw [e, if_neg (by omega), if_pos rfl, hst.2]; simp
    · have e : ex (-y &&& s) i = true := by
        unfold ex; rw [decide_eq_true_eq]; exact ⟨t, hl, by rw [hn t t1, if_neg (by omega), if_pos rfl]⟩
      rw [e, if_neg (by omega), if_neg (by omega)]
      cases hs : s.getLsbD i <;> cases hp : p.getLsbD i <;> simp
      rw [sub_bits h i hp] at hs; exact absurd hs (by decide)
  · intro e
    have := hn t t1
    rw [e, if_neg (by omega), if_pos rfl, BitVec.getLsbD_zero] at this
    exact absurd this (by decide)
theorem and_le (a b : BitVec 64) : (a &&& b).toNat ≤ a.toNat := by rw [BitVec.toNat_and]; exact Nat.and_le_left
theorem prv_lt (s u : BitVec 64) (h0 : u ≠ 0#64) : (prv s u).toNat < u.toNat := by
  have h1 : (prv s u).toNat ≤ (u - 1#64).toNat := and_le _ _
  have h2 : u.toNat ≠ 0 := fun e => h0 (BitVec.eq_of_toNat_eq (by simpa using e))
  have h3 : (u - 1#64).toNat = u.toNat - 1 := by
    rw [BitVec.toNat_sub]; have := u.isLt; simp; omega
  omega
theorem not_all (s p : BitVec 64) (h : p &&& s = p) (hne : p ≠ s) : s &&& ~~~p ≠ 0#64 := by
  intro e
  apply hne
  apply BitVec.eq_of_getLsbD_eq
  intro i hi
  have e' := congrArg (fun x => x.getLsbD i) e
  simp only [BitVec.getLsbD_and, BitVec.getLsbD_not, hi, decide_true, Bool.true_and, BitVec.getLsbD_zero] at e'
  cases hp : p.getLsbD i with
  | true => rw [sub_bits h i hp]
  | false => rw [hp] at e'; simpa using e'.symm
theorem sub_le {s u : BitVec 64} (h : u &&& s = u) : u.toNat ≤ s.toNat := by
  rw [← h, BitVec.and_comm]; exact and_le _ _
theorem nxt_sub (s p : BitVec 64) : nxt s p &&& s = nxt s p := by unfold nxt; rw [BitVec.and_assoc, BitVec.and_self]
theorem prv_sub (s p : BitVec 64) : prv s p &&& s = prv s p := by unfold prv; rw [BitVec.and_assoc, BitVec.and_self]
theorem nxt_gt (s p : BitVec 64) (h : p &&& s = p) (hne : p ≠ s) : p.toNat < (nxt s p).toNat := by
  obtain ⟨e, h0⟩ := prv_nxt s p h (low_exists _ (not_all s p h hne))
  have := prv_lt s (nxt s p) h0
  rwa [e] at this
def subsF (s : BitVec 64) : Nat → BitVec 64 → List (BitVec 64)
  | 0, p => [p]
  | n + 1, p => p :: (if p = s then [] else subsF s n (nxt s p))
theorem subsF_fuel (s : BitVec 64) : ∀ n m p, p &&& s = p → s.toNat - p.toNat ≤ n → s.toNat - p.toNat ≤ m → subsF s n p = subsF s m p := by
  have fin : ∀ p, p &&& s = p → s.toNat - p.toNat = 0 → p = s := fun p h e => BitVec.eq_of_toNat_eq (by have := sub_le h; omega)
  intro n
  induction n with
  | zero =>
    intro m p h h1 h2
    have := fin p h (by omega)
    cases m with
    | zero => rfl
    | succ m => simp [subsF, this]
  | succ n ih =>
    intro m p h h1 h2
    cases m with
    | zero => have := fin p h (by omega); simp [subsF, this]
    | succ m =>
      unfold subsF
      by_cases e : p = s
      · simp [e]
      · have hg := nxt_gt s p h e
        have hl := sub_le (nxt_sub s p)
        rw [if_neg e, if_neg e, ih m (nxt s p) (nxt_sub s p) (by omega) (by omega)]
def subs (s p : BitVec 64) : List (BitVec 64) := subsF s (s.toNat - p.toNat) p
theorem subs_last (s : BitVec 64) : subs s s = [s] := by unfold subs; rw [Nat.sub_self]; rfl
theorem subs_step (s p : BitVec 64) (h : p &&& s = p) (e : p ≠ s) : subs s p = p :: subs s (nxt s p) := by
  have hg := nxt_gt s p h e
  have hl := sub_le (nxt_sub s p)
  unfold subs
  rw [show s.toNat - p.toNat = (s.toNat - p.toNat - 1) + 1 from by omega, subsF, if_neg e]
  rw [subsF_fuel s _ (s.toNat - (nxt s p).toNat) _ (nxt_sub s p) (by omega) (Nat.le_refl _)]
theorem subs_head (s p : BitVec 64) (h : p &&& s = p) : ∃ l, subs s p = p :: l := by
  by_cases e : p = s
  · subst e; exact ⟨[], subs_last _⟩
  · exact ⟨_, subs_step s p h e⟩
theorem subs_closed (s : BitVec 64) : ∀ n p q, s.toNat - p.toNat ≤ n → p &&& s = p → q ∈ subs s p → q ≠ s → nxt s q ∈ subs s p := by
  intro n
  induction n with
  | zero =>
    intro p q h1 h hq hne
    have e : p = s := BitVec.eq_of_toNat_eq (by have := sub_le h; omega)
    subst e
    rw [subs_last] at hq
    exact absurd (List.mem_singleton.mp hq) hne
  | succ n ih =>
    intro p q h1 h hq hne
    by_cases e : p = s
    · subst e; rw [subs_last] at hq; exact absurd (List.mem_singleton.mp hq) hne
    · have hg := nxt_gt s p h e
      have hl := sub_le (nxt_sub s p)
      rw [subs_step s p h e] at hq ⊢
      rcases List.mem_cons.mp hq with rfl | hq
      · obtain ⟨l, hl⟩ := subs_head s (nxt s q) (nxt_sub s q)
        rw [hl]; simp
      · exact List.mem_cons_of_mem _ (ih (nxt s p) q (by omega) (nxt_sub s p) hq hne)
theorem subs_all (s : BitVec 64) : ∀ n (u : BitVec 64), u.toNat ≤ n → u &&& s = u → u ∈ subs s 0#64 := by
  intro n
  have hz : (0#64) &&& s = 0#64 := BitVec.zero_and
  induction n with
  | zero =>
    intro u h1 h
    have e : u = 0#64 := BitVec.eq_of_toNat_eq (by simpa using h1)
    subst e
    obtain ⟨l, hl⟩ := subs_head s 0#64 hz
    rw [hl]; simp
  | succ n ih =>
    intro u h1 h
    by_cases e : u = 0#64
    · subst e
      obtain ⟨l, hl⟩ := subs_head s 0#64 hz
      rw [hl]; simp
    · have hlt := prv_lt s u e
      have := ih (prv s u) (by omega) (prv_sub s u)
      have hne : prv s u ≠ s := fun e' => by have := sub_le h; rw [e'] at hlt; omega
      have := subs_closed s _ 0#64 (prv s u) (Nat.le_refl _) hz this hne
      rwa [nxt_prv s u h (low_exists u e)] at this
theorem mem_subs (s u : BitVec 64) (h : u &&& s = u) : u ∈ subs s 0#64 := subs_all s _ u (Nat.le_refl _) h
theorem subs_sub (s : BitVec 64) : ∀ n p q, s.toNat - p.toNat ≤ n → p &&& s = p → q ∈ subs s p → q &&& s = q := by
  intro n
  induction n with
  | zero =>
    intro p q h1 h hq
    have e : p = s := BitVec.eq_of_toNat_eq (by have := sub_le h; omega)
    subst e
    rw [subs_last] at hq
    rw [List.mem_singleton.mp hq]; exact BitVec.and_self
  | succ n ih =>
    intro p q h1 h hq
    by_cases e : p = s
    · subst e; rw [subs_last] at hq; rw [List.mem_singleton.mp hq]; exact BitVec.and_self
    · have hg := nxt_gt s p h e
      have hl := sub_le (nxt_sub s p)
      rw [subs_step s p h e] at hq
      rcases List.mem_cons.mp hq with rfl | hq
      · exact h
      · exact ih (nxt s p) q (by omega) (nxt_sub s p) hq
end Go.Proofs.YtnfakamfmkhlbabDoor.P
