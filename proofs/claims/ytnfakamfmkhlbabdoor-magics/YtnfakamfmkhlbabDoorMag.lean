import Derived.Test.YtnfakamfmkhlbabDoorSub
import Derived.Test.YtnfakamfmkhlbabDoorLines
namespace Go.Proofs.YtnfakamfmkhlbabDoor.P

/-! the squares that matter, and whether a factor is magic, as the program reckons them -/
theorem along_out (l : BitVec 64) (x : Nat) (hx : x < 64) (n : Nat) (hn : n < 64) (h : (alongB l x 0#64).getLsbD n = false) : alongB l x (1#64 <<< n) = alongB l x 0#64 := by
  have hz : n ≠ x → l.getLsbD n = false := fun hne => by
    cases e : l.getLsbD n with
    | false => rfl
    | true =>
      have := (along_bit l x hx 0#64 n hn).mpr ⟨e, hne, fun z _ _ => by rw [BitVec.getLsbD_zero]⟩
      rw [h] at this; exact absurd this (by decide)
  apply BitVec.eq_of_getLsbD_eq
  intro y hy
  have e : (alongB l x (1#64 <<< n)).getLsbD y = true ↔ (alongB l x 0#64).getLsbD y = true := by
    rw [along_bit l x hx _ y hy, along_bit l x hx _ y hy]
    constructor
    · rintro ⟨a, b, _⟩; exact ⟨a, b, fun z _ _ => by rw [BitVec.getLsbD_zero]⟩
    · rintro ⟨a, b, _⟩
      refine ⟨a, b, fun z hz1 hz2 => ?_⟩
      rw [one_bit n hn z (by omega)]
      cases ez : decide (z = n) with
      | false => rfl
      | true =>
        have ez := of_decide_eq_true ez
        subst ez
        rw [hz (by omega)] at hz2; exact absurd hz2 (by decide)
  cases e1 : (alongB l x (1#64 <<< n)).getLsbD y <;> cases e2 : (alongB l x 0#64).getLsbD y <;> simp_all
theorem reach_out (k x : Nat) (hk : k = 4 ∨ k = 5) (hx : x < 64) (n : Nat) (hn : n < 64) (h : (reachB k x 0#64).getLsbD n = false) : reachB k x (1#64 <<< n) = reachB k x 0#64 := by
  rcases hk with rfl | rfl
  · show alongB _ _ _ ||| alongB _ _ _ = alongB _ _ _ ||| alongB _ _ _
    have h' : (alongB (risB x) x 0#64 ||| alongB (falB x) x 0#64).getLsbD n = false := h
    rw [BitVec.getLsbD_or, Bool.or_eq_false_iff] at h'
    rw [along_out _ x hx n hn h'.1, along_out _ x hx n hn h'.2]
  · show alongB _ _ _ ||| alongB _ _ _ = alongB _ _ _ ||| alongB _ _ _
    have h' : (alongB (fileB x) x 0#64 ||| alongB (rankB x) x 0#64).getLsbD n = false := h
    rw [BitVec.getLsbD_or, Bool.or_eq_false_iff] at h'
    rw [along_out _ x hx n hn h'.1, along_out _ x hx n hn h'.2]

/-- does this square hide others? -/
def hides (k x n : Nat) : Bool := decide (reachB k x (1#64 <<< n) ≠ reachB k x 0#64)
def mtrL (k x : Nat) : List Nat → BitVec 64
  | [] => 0#64
  | n :: l => if hides k x n then mtrL k x l ||| 1#64 <<< n else mtrL k x l
/-- in the order in which the program adds them -/
def mtrA (k x : Nat) (l : List Nat) : BitVec 64 := mtrL k x l.reverse
theorem mtrA_add (k x : Nat) (l : List Nat) (n : Nat) : mtrA k x (l ++ [n]) = if hides k x n then mtrA k x l ||| 1#64 <<< n else mtrA k x l := by
  unfold mtrA; rw [List.reverse_append]; rfl
def mtr (k x : Nat) : BitVec 64 := mtrA k x (sqs (reachB k x 0#64))
theorem mtrL_bit (k x : Nat) : ∀ l : List Nat, (∀ n ∈ l, n < 64) → ∀ i, i < 64 → (mtrL k x l).getLsbD i = (decide (i ∈ l) && hides k x i) := by
  intro l
  induction l with
  | nil => intro _ i _; simp [mtrL]
  | cons n l ih =>
    intro h i hi
    have ih' := ih (fun m hm => h m (List.mem_cons_of_mem _ hm)) i hi
    unfold mtrL
    by_cases e : i = n
    · subst e
      cases hh : hides k x i with
      | true => simp only [if_true]; rw [BitVec.getLsbD_or, one_bit i hi i hi]; simp
      | false => simp only [Bool.false_eq_true, if_false]; rw [ih', hh]; simp
    · have hd : decide (i ∈ n :: l) = decide (i ∈ l) := by simp [e]
      rw [hd]
      cases hh : hides k x n with
      | true => simp only [if_true]; rw [BitVec.getLsbD_or, one_bit n (h n (List.mem_cons_self ..)) i hi, ih']; simp [e]
      | false => simp only [Bool.false_eq_true, if_false]; exact ih'
theorem mtrA_bit (k x : Nat) (l : List Nat) (h : ∀ n ∈ l, n < 64) (i : Nat) (hi : i < 64) : (mtrA k x l).getLsbD i = (decide (i ∈ l) && hides k x i) := by
  unfold mtrA
  rw [mtrL_bit k x _ (fun n hn => h n (List.mem_reverse.mp hn)) i hi]
  simp
theorem mtr_bit (k x : Nat) (hk : k = 4 ∨ k = 5) (hx : x < 64) (i : Nat) (hi : i < 64) : (mtr k x).getLsbD i = hides k x i := by
  unfold mtr
  rw [mtrA_bit k x _ (fun n hn => ((sqs_mem _ n).mp hn).1) i hi]
  cases hh : hides k x i with
  | false => simp
  | true =>
    have : i ∈ sqs (reachB k x 0#64) := by
      rw [sqs_mem]
      refine ⟨hi, ?_⟩
      cases e : (reachB k x 0#64).getLsbD i with
      | true => rfl
      | false =>
        have := reach_out k x hk hx i hi e
        unfold hides at hh
        exact absurd this (of_decide_eq_true hh)
    simp [this]
/-- the same, asked of all squares -/
theorem mtr_all (k x : Nat) (hk : k = 4 ∨ k = 5) (hx : x < 64) : mtrA k x (List.range 64) = mtr k x := by
  apply BitVec.eq_of_getLsbD_eq
  intro i hi
  rw [mtrA_bit k x _ (fun n hn => List.mem_range.mp hn) i hi, mtr_bit k x hk hx i hi]
  simp [hi]
def nHides (k x j : Nat) : Nat := ((List.range j).filter (hides k x)).length
theorem nHides_s (k x j : Nat) : nHides k x (j + 1) = if hides k x j then nHides k x j + 1 else nHides k x j := by
  unfold nHides
  rw [List.range_succ, List.filter_append]
  cases e : hides k x j <;> simp [e]
theorem nHides_is (k x : Nat) (hk : k = 4 ∨ k = 5) (hx : x < 64) : nHides k x 64 = (sqs (mtr k x)).length := by
  unfold nHides sqs
  congr 1
  apply List.filter_congr
  intro i hi
  exact (mtr_bit k x hk hx i (List.mem_range.mp hi)).symm

/-- what is seen, of each set of squares that matter -/
def vwsL (k x : Nat) (l : List (BitVec 64)) : List (BitVec 64 × BitVec 64) := l.map fun t => (t, reachB k x t)
def vws (k x : Nat) : List (BitVec 64 × BitVec 64) := vwsL k x (subs (mtr k x) 0#64)
def plc (f : BitVec 64) (b : Nat) (t : BitVec 64) : Nat := ((t * f) >>> (64 - b)).toNat
def upd (T : Nat → BitVec 64) (p : Nat) (r : BitVec 64) : Nat → BitVec 64 := fun i => if i = p then r else T i
def clash (T : Nat → BitVec 64) (p : Nat) (r : BitVec 64) : Bool := decide (T p ≠ 0#64) && decide (T p ≠ r)
def fitsT (f : BitVec 64) (b : Nat) : (Nat → BitVec 64) → List (BitVec 64 × BitVec 64) → Bool
  | _, [] => true
  | T, v :: l => if clash T (plc f b v.1) v.2 then false else fitsT f b (upd T (plc f b v.1) v.2) l
def fits (l : List (BitVec 64 × BitVec 64)) (f : BitVec 64) (b : Nat) : Bool := fitsT f b (fun _ => 0#64) l
theorem plc_lt (f : BitVec 64) (b : Nat) (hb : 1 ≤ b) (hb' : b ≤ 63) (t : BitVec 64) : plc f b t < 2 ^ b := by
  unfold plc
  rw [BitVec.toNat_ushiftRight, Nat.shiftRight_eq_div_pow]
  have := (t * f).isLt
  rw [Nat.div_lt_iff_lt_mul (Nat.two_pow_pos _), ← Nat.pow_add, show b + (64 - b) = 64 from by omega]
  exact this
theorem fitsT_ok (f : BitVec 64) (b : Nat) : ∀ (l : List (BitVec 64 × BitVec 64)) (T : Nat → BitVec 64), (∀ v ∈ l, v.2 ≠ 0#64) → fitsT f b T l = true →
    (∀ v ∈ l, T (plc f b v.1) = 0#64 ∨ T (plc f b v.1) = v.2) ∧ (∀ v ∈ l, ∀ u ∈ l, plc f b v.1 = plc f b u.1 → v.2 = u.2) := by
  intro l
  induction l with
  | nil => intro T _ _; exact ⟨fun v hv => absurd hv (List.not_mem_nil), fun v hv => absurd hv (List.not_mem_nil)⟩
  | cons a l ih =>
    intro T hz h
    unfold fitsT at h
    cases hc : clash T (plc f b a.1) a.2 with
    | true => rw [hc] at h; simp at h
    | false =>
      rw [hc] at h
      simp only [Bool.false_eq_true, if_false] at h
      obtain ⟨h1, h2⟩ := ih _ (fun v hv => hz v (List.mem_cons_of_mem _ hv)) h
      have ha : T (plc f b a.1) = 0#64 ∨ T (plc f b a.1) = a.2 := by
        unfold clash at hc
        by_cases e0 : T (plc f b a.1) = 0#64
        · exact .inl e0
        · refine .inr (Classical.byContradiction fun e1 => ?_)
          simp [e0, e1] at hc
      have hat : ∀ v ∈ l, plc f b v.1 = plc f b a.1 → v.2 = a.2 := by
        intro v hv e
        have := h1 v hv
        unfold upd at this
        rw [if_pos e] at this
        rcases this with g | g
        · exact absurd g (hz a (List.mem_cons_self ..))
        · exact g.symm
      refine ⟨fun v hv => ?_, fun v hv u hu e => ?_⟩
      · rcases List.mem_cons.mp hv with rfl | hv
        · exact ha
        · by_cases e : plc f b v.1 = plc f b a.1
          · rw [e, hat v hv e]; exact ha
          · have := h1 v hv
            unfold upd at this
            rwa [if_neg e] at this
      · rcases List.mem_cons.mp hv with rfl | hv'
        · rcases List.mem_cons.mp hu with rfl | hu'
          · rfl
          · exact (hat u hu' e.symm).symm
        · rcases List.mem_cons.mp hu with rfl | hu'
          · exact hat v hv' e
          · exact h2 v hv' u hu' e
/-- some square next to it is reached whatever is taken -/
theorem some_near : ∀ x, x < 64 → ((List.range 64).any fun y => lone (risB x) x y && decide (y ≠ x) || lone (falB x) x y && decide (y ≠ x)) = true ∧ ((List.range 64).any fun y => lone (fileB x) x y && decide (y ≠ x) || lone (rankB x) x y && decide (y ≠ x)) = true := by decide +kernel
theorem reach_some (k x : Nat) (hk : k = 4 ∨ k = 5) (hx : x < 64) (t : BitVec 64) : reachB k x t ≠ 0#64 := by
  intro e
  obtain ⟨s1, s2⟩ := some_near x hx
  have key : ∀ l m : BitVec 64, ((List.range 64).any fun y => lone l x y && decide (y ≠ x) || lone m x y && decide (y ≠ x)) = true → alongB l x t ||| alongB m x t ≠ 0#64 := by
    intro l m h e
    obtain ⟨y, hy, hh⟩ := List.any_eq_true.mp h
    have hy := List.mem_range.mp hy
    have e' := congrArg (fun z => z.getLsbD y) e
    simp only [BitVec.getLsbD_or, BitVec.getLsbD_zero, Bool.or_eq_false_iff] at e'
    rw [Bool.or_eq_true, Bool.and_eq_true, Bool.and_eq_true] at hh
    rcases hh with ⟨h1, h2⟩ | ⟨h1, h2⟩
    · obtain ⟨a, b⟩ := lone_iff l x y h1
      rw [along_near l x hx t y hy a (of_decide_eq_true h2) b] at e'
      exact absurd e'.1 (by decide)
    · obtain ⟨a, b⟩ := lone_iff m x y h1
      rw [along_near m x hx t y hy a (of_decide_eq_true h2) b] at e'
      exact absurd e'.2 (by decide)
  rcases hk with rfl | rfl
  · exact key _ _ s1 e
  · exact key _ _ s2 e
theorem vws_some (k x : Nat) (hk : k = 4 ∨ k = 5) (hx : x < 64) : ∀ v ∈ vws k x, v.2 ≠ 0#64 := by
  intro v hv
  obtain ⟨t, _, rfl⟩ := List.mem_map.mp hv
  exact reach_some k x hk hx t
/-- MAGIC: what comes to one place is one. -/
theorem fits_tells (k x : Nat) (hk : k = 4 ∨ k = 5) (hx : x < 64) (f : BitVec 64) (b : Nat) (h : fits (vws k x) f b = true) (s t : BitVec 64) (hs : s &&& mtr k x = s) (ht : t &&& mtr k x = t) (e : plc f b s = plc f b t) : reachB k x s = reachB k x t :=
  (fitsT_ok f b _ _ (vws_some k x hk hx) h).2 (s, reachB k x s) (List.mem_map.mpr ⟨s, mem_subs _ s hs, rfl⟩) (t, reachB k x t) (List.mem_map.mpr ⟨t, mem_subs _ t ht, rfl⟩) e
/-- some square matters -/
def near (k x : Nat) : Nat := if k = 4 then 8 * (if x / 8 < 4 then x / 8 + 1 else x / 8 - 1) + (if x % 8 < 4 then x % 8 + 1 else x % 8 - 1) else if x % 8 < 4 then x + 1 else x - 1
theorem near_hides : ∀ x, x < 64 → near 4 x < 64 ∧ hides 4 x (near 4 x) = true ∧ near 5 x < 64 ∧ hides 5 x (near 5 x) = true := by decide +kernel
theorem no_zero (k x : Nat) (hk : k = 4 ∨ k = 5) (hx : x < 64) (b : Nat) : fits (vws k x) 0#64 b = false := by
  cases h : fits (vws k x) 0#64 b with
  | false => rfl
  | true =>
    exfalso
    obtain ⟨n, hn, hh⟩ : ∃ n, n < 64 ∧ hides k x n = true := by
      obtain ⟨a, b, c, d⟩ := near_hides x hx
      rcases hk with rfl | rfl
      · exact ⟨_, a, b⟩
      · exact ⟨_, c, d⟩
    have hs : (1#64 <<< n) &&& mtr k x = 1#64 <<< n := by
      apply BitVec.eq_of_getLsbD_eq
      intro i hi
      rw [BitVec.getLsbD_and, one_bit n hn i hi]
      by_cases e : i = n
      · subst e; rw [mtr_bit k x hk hx i hi, hh]; simp
      · simp [e]
    have := fits_tells k x hk hx 0#64 b h (1#64 <<< n) 0#64 hs BitVec.zero_and (by unfold plc; rw [BitVec.mul_zero, BitVec.mul_zero])
    exact absurd this (of_decide_eq_true hh)
theorem mtr_40 : mtr 4 0 = 18049651735527936#64 := by decide +kernel
theorem yes_40 : fits (vws 4 0) 72340172838076673#64 7 = true := by
  have e : vws 4 0 = vwsL 4 0 (subsF 18049651735527936#64 (2 ^ 55) 0#64) := by
    unfold vws subs
    rw [mtr_40, subsF_fuel 18049651735527936#64 _ (2 ^ 55) 0#64 BitVec.zero_and (Nat.le_refl _) (by decide +kernel)]
  rw [e]
  decide +kernel

end Go.Proofs.YtnfakamfmkhlbabDoor.P
