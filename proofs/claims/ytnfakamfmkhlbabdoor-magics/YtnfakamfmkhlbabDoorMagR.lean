import Derived.Test.YtnfakamfmkhlbabDoorMag
namespace Go.Proofs.YtnfakamfmkhlbabDoor.P

/-! the same, as the reference reckons it: line by line -/
def ray (df dr : Int) : Nat → Int → Int → List Nat
  | 0, _, _ => []
  | n + 1, f, r => if 0 ≤ f ∧ f < 8 ∧ 0 ≤ r ∧ r < 8 then (8 * r + f).toNat :: ray df dr n (f + df) (r + dr) else []
def dfR (k d : Nat) : Int := if k = 4 then (if d = 0 then 1 else if d = 1 then -1 else if d = 2 then -1 else 1) else (if d = 0 then 1 else if d = 1 then 0 else if d = 2 then -1 else 0)
def drR (k d : Nat) : Int := if k = 4 then (if d = 0 then 1 else if d = 1 then 1 else if d = 2 then -1 else -1) else (if d = 0 then 0 else if d = 1 then 1 else if d = 2 then 0 else -1)
def lnR (k x d : Nat) : List Nat := ray (dfR k d) (drR k d) 8 (((x % 8 : Nat) : Int) + dfR k d) (((x / 8 : Nat) : Int) + drR k d)
def sumB : List Nat → BitVec 64 → BitVec 64
  | [], o => o
  | y :: r, o => sumB r (o + 1#64 <<< y)
theorem sumB_app : ∀ (a b : List Nat) (o : BitVec 64), sumB (a ++ b) o = sumB b (sumB a o)
  | [], _, _ => rfl
  | _ :: r, b, _ => sumB_app r b _
theorem add_bit (o : BitVec 64) (y : Nat) (hy : y < 64) (h : o.getLsbD y = false) (i : Nat) (hi : i < 64) : (o + 1#64 <<< y).getLsbD i = (o.getLsbD i || decide (i = y)) := by
  rw [BitVec.add_eq_or_of_and_eq_zero, BitVec.getLsbD_or, one_bit y hy i hi]
  apply BitVec.eq_of_getLsbD_eq
  intro j hj
  rw [BitVec.getLsbD_and, one_bit y hy j hj, BitVec.getLsbD_zero]
  by_cases e : j = y
  · subst e; rw [h]; rfl
  · simp [e]
theorem sumB_bit : ∀ (l : List Nat) (o : BitVec 64), (∀ y ∈ l, y < 64) → l.Nodup → (∀ y ∈ l, o.getLsbD y = false) → ∀ i, i < 64 → (sumB l o).getLsbD i = (o.getLsbD i || decide (i ∈ l))
  | [], o, _, _, _, i, hi => by simp [sumB]
  | y :: r, o, h1, h2, h3, i, hi => by
      have hy := h1 y (List.mem_cons_self ..)
      have ho := h3 y (List.mem_cons_self ..)
      obtain ⟨n1, n2⟩ := List.nodup_cons.1 h2
      show (sumB r (o + 1#64 <<< y)).getLsbD i = _
      rw [sumB_bit r _ (fun z hz => h1 z (List.mem_cons_of_mem _ hz)) n2 (fun z hz => by
        rw [add_bit o y hy ho z (h1 z (List.mem_cons_of_mem _ hz)), h3 z (List.mem_cons_of_mem _ hz)]
        have : z ≠ y := fun e => n1 (e ▸ hz)
        simp [this]) i hi, add_bit o y hy ho i hi]
      by_cases e : i = y <;> simp [e]
/-- what is seen on one line: up to the first that is taken -/
def thr (t : BitVec 64) : List Nat → List Nat
  | [] => []
  | y :: r => y :: if t.getLsbD y then [] else thr t r
theorem thr_mem (t : BitVec 64) (y : Nat) : ∀ l : List Nat, (y ∈ thr t l ↔ ∃ i, l[i]? = some y ∧ ∀ z ∈ l.take i, t.getLsbD z = false)
  | [] => by simp [thr]
  | a :: r => by
      unfold thr
      constructor
      · intro h
        rcases List.mem_cons.1 h with rfl | h
        · exact ⟨0, rfl, fun z hz => by simp at hz⟩
        · cases e : t.getLsbD a with
          | true => rw [e] at h; simp at h
          | false =>
            rw [e] at h
            obtain ⟨i, h1, h2⟩ := (thr_mem t y r).1 (by simpa using h)
            refine ⟨i + 1, by simpa using h1, fun z hz => ?_⟩
            rw [List.take_succ_cons] at hz
            rcases List.mem_cons.1 hz with rfl | hz
            · exact e
            · exact h2 z hz
      · rintro ⟨i, h1, h2⟩
        cases i with
        | zero => simp at h1; rw [h1]; exact List.mem_cons_self ..
        | succ i =>
          have ha := h2 a (by rw [List.take_succ_cons]; exact List.mem_cons_self ..)
          rw [ha]
          refine List.mem_cons_of_mem _ ?_
          simp only [Bool.false_eq_true, if_false]
          exact (thr_mem t y r).2 ⟨i, by simpa using h1, fun z hz => h2 z (by rw [List.take_succ_cons]; exact List.mem_cons_of_mem _ hz)⟩
theorem thr_sub (t : BitVec 64) (l : List Nat) : (thr t l).Sublist l := by
  induction l with
  | nil => exact List.Sublist.refl _
  | cons a r ih =>
    unfold thr
    refine List.Sublist.cons_cons a ?_
    split
    · exact List.nil_sublist _
    · exact ih
/-- the line of a direction -/
def lineR (k x d : Nat) : BitVec 64 := if k = 4 then (if d % 2 = 0 then risB x else falB x) else (if d % 2 = 0 then rankB x else fileB x)
def btwB (x y z : Nat) : Bool := decide (x < z ∧ z < y ∨ y < z ∧ z < x)
def rayOk (k x d : Nat) : Bool := (List.range 7).all fun i => match (lnR k x d)[i]? with
  | none => true
  | some y => decide (y < 64) && decide (y ≠ x) && (lineR k x d).getLsbD y && ((List.range 64).all fun z => (btwB x y z && (lineR k x d).getLsbD z) == ((lnR k x d).take i).contains z)
theorem rays_4 : ∀ x, x < 64 → (rayOk 4 x 0 && rayOk 4 x 1 && rayOk 4 x 2 && rayOk 4 x 3) = true := by decide +kernel
theorem rays_5 : ∀ x, x < 64 → (rayOk 5 x 0 && rayOk 5 x 1 && rayOk 5 x 2 && rayOk 5 x 3) = true := by decide +kernel
def linesOk (k x : Nat) : Bool := (List.range 64).all fun y => (((lineR k x 0).getLsbD y && decide (y ≠ x)) == ((lnR k x 0).contains y || (lnR k x 2).contains y)) && (((lineR k x 1).getLsbD y && decide (y ≠ x)) == ((lnR k x 1).contains y || (lnR k x 3).contains y))
theorem lines_4 : ∀ x, x < 64 → linesOk 4 x = true := by decide +kernel
theorem lines_5 : ∀ x, x < 64 → linesOk 5 x = true := by decide +kernel
def allR (k x : Nat) : List Nat := lnR k x 0 ++ (lnR k x 1 ++ (lnR k x 2 ++ lnR k x 3))
theorem len_all : ∀ x, x < 64 → ((lnR 4 x 0).length ≤ 7 ∧ (lnR 4 x 1).length ≤ 7 ∧ (lnR 4 x 2).length ≤ 7 ∧ (lnR 4 x 3).length ≤ 7) ∧ ((lnR 5 x 0).length ≤ 7 ∧ (lnR 5 x 1).length ≤ 7 ∧ (lnR 5 x 2).length ≤ 7 ∧ (lnR 5 x 3).length ≤ 7) := by decide +kernel
theorem nodup_4 : ∀ x, x < 64 → (allR 4 x).Nodup ∧ ∀ y ∈ allR 4 x, y < 64 := by decide +kernel
theorem nodup_5 : ∀ x, x < 64 → (allR 5 x).Nodup ∧ ∀ y ∈ allR 5 x, y < 64 := by decide +kernel
theorem allR_ok (k x : Nat) (hk : k = 4 ∨ k = 5) (hx : x < 64) : (allR k x).Nodup ∧ ∀ y ∈ allR k x, y < 64 := by
  rcases hk with rfl | rfl
  · exact nodup_4 x hx
  · exact nodup_5 x hx
theorem len_ok (k x d : Nat) (hk : k = 4 ∨ k = 5) (hx : x < 64) (hd : d < 4) : (lnR k x d).length ≤ 7 := by
  obtain ⟨⟨a0, a1, a2, a3⟩, ⟨b0, b1, b2, b3⟩⟩ := len_all x hx
  have : d = 0 ∨ d = 1 ∨ d = 2 ∨ d = 3 := by omega
  rcases hk with rfl | rfl <;> rcases this with rfl | rfl | rfl | rfl <;> assumption
theorem ray_ok (k x d : Nat) (hk : k = 4 ∨ k = 5) (hx : x < 64) (hd : d < 4) : rayOk k x d = true := by
  have h4 := rays_4 x hx
  have h5 := rays_5 x hx
  simp only [Bool.and_eq_true] at h4 h5
  have : d = 0 ∨ d = 1 ∨ d = 2 ∨ d = 3 := by omega
  rcases hk with rfl | rfl <;> rcases this with rfl | rfl | rfl | rfl
  · exact h4.1.1.1
  · exact h4.1.1.2
  · exact h4.1.2
  · exact h4.2
  · exact h5.1.1.1
  · exact h5.1.1.2
  · exact h5.1.2
  · exact h5.2
/-- what is seen on the ray is what 'along' reaches there -/
theorem ray_seen (k x d : Nat) (hk : k = 4 ∨ k = 5) (hx : x < 64) (hd : d < 4) (t : BitVec 64) (y : Nat) (hy : y ∈ lnR k x d) : y ∈ thr t (lnR k x d) ↔ (alongB (lineR k x d) x t).getLsbD y = true := by
  have hok := ray_ok k x d hk hx hd
  have hl := len_ok k x d hk hx hd
  have hi : ∀ i, (lnR k x d)[i]? = some y → y < 64 ∧ y ≠ x ∧ (lineR k x d).getLsbD y = true ∧ ∀ z, z < 64 → ((btwB x y z = true ∧ (lineR k x d).getLsbD z = true) ↔ z ∈ (lnR k x d).take i) := by
    intro i h
    have hi7 : i < 7 := by have := (List.getElem?_eq_some_iff.1 h).1; omega
    unfold rayOk at hok
    have := List.all_eq_true.1 hok i (List.mem_range.2 hi7)
    rw [h] at this
    simp only [Bool.and_eq_true, decide_eq_true_eq, List.all_eq_true, List.mem_range, beq_iff_eq] at this
    obtain ⟨⟨⟨a, b⟩, c⟩, e⟩ := this
    refine ⟨a, b, c, fun z hz => ?_⟩
    have := e z hz
    constructor
    · rintro ⟨u, v⟩; rw [u, v] at this; simpa using this.symm
    · intro u
      have hc : ((lnR k x d).take i).contains z = true := by simpa using u
      rw [hc] at this
      simpa using this
  obtain ⟨n, hn⟩ := List.getElem?_of_mem hy
  obtain ⟨y1, y2, y3, _⟩ := hi n hn
  rw [thr_mem, along_bit _ x hx t y y1]
  constructor
  · rintro ⟨i, h1, h2⟩
    obtain ⟨_, _, _, h3⟩ := hi i h1
    exact ⟨y3, y2, fun z hz hz' => h2 z ((h3 z (by omega)).1 ⟨by simpa [btwB] using hz, hz'⟩)⟩
  · rintro ⟨_, _, h⟩
    obtain ⟨_, _, _, h3⟩ := hi n hn
    refine ⟨n, hn, fun z hz => ?_⟩
    have hz64 : z < 64 := by
      have : z ∈ allR k x := by
        have h0 := List.mem_of_mem_take hz
        have : d = 0 ∨ d = 1 ∨ d = 2 ∨ d = 3 := by omega
        unfold allR
        rcases this with rfl | rfl | rfl | rfl <;> simp [h0]
      exact (allR_ok k x hk hx).2 z this
    obtain ⟨u, v⟩ := (h3 z hz64).2 hz
    exact h z (by simpa [btwB] using u) v
def seenR (k x : Nat) (t : BitVec 64) : BitVec 64 := sumB (thr t (lnR k x 0) ++ (thr t (lnR k x 1) ++ (thr t (lnR k x 2) ++ thr t (lnR k x 3)))) 0#64
theorem lines_ok (k x : Nat) (hk : k = 4 ∨ k = 5) (hx : x < 64) : linesOk k x = true := by
  rcases hk with rfl | rfl
  · exact lines_4 x hx
  · exact lines_5 x hx
theorem reach_lines (k x : Nat) (hk : k = 4 ∨ k = 5) (t : BitVec 64) (y : Nat) : (reachB k x t).getLsbD y = ((alongB (lineR k x 0) x t).getLsbD y || (alongB (lineR k x 1) x t).getLsbD y) := by
  rcases hk with rfl | rfl
  · show (alongB (risB x) x t ||| alongB (falB x) x t).getLsbD y = _
    rw [BitVec.getLsbD_or]; rfl
  · show (alongB (fileB x) x t ||| alongB (rankB x) x t).getLsbD y = _
    rw [BitVec.getLsbD_or, Bool.or_comm]; rfl
theorem seen_is (k x : Nat) (hk : k = 4 ∨ k = 5) (hx : x < 64) (t : BitVec 64) : seenR k x t = reachB k x t := by
  have hsub : (thr t (lnR k x 0) ++ (thr t (lnR k x 1) ++ (thr t (lnR k x 2) ++ thr t (lnR k x 3)))).Sublist (allR k x) :=
    (thr_sub t _).append ((thr_sub t _).append ((thr_sub t _).append (thr_sub t _)))
  obtain ⟨n1, n2⟩ := allR_ok k x hk hx
  apply BitVec.eq_of_getLsbD_eq
  intro y hy
  unfold seenR
  rw [sumB_bit _ _ (fun z hz => n2 z (hsub.subset hz)) (hsub.nodup n1) (fun z _ => BitVec.getLsbD_zero) y hy, BitVec.getLsbD_zero, Bool.false_or, reach_lines k x hk]
  have hl := lines_ok k x hk hx
  unfold linesOk at hl
  have hl := List.all_eq_true.1 hl y (List.mem_range.2 hy)
  simp only [Bool.and_eq_true, beq_iff_eq] at hl
  obtain ⟨l0, l1⟩ := hl
  have on0 : ∀ L : BitVec 64, (alongB L x t).getLsbD y = true → (L.getLsbD y && decide (y ≠ x)) = true := fun L h => by
    obtain ⟨a, b, _⟩ := (along_bit L x hx t y hy).1 h
    simp [a, b]
  have m := fun d hd h => ray_seen k x d hk hx hd t y h
  have sb := fun d => (thr_sub t (lnR k x d)).subset (a := y)
  have e2 : lineR k x 2 = lineR k x 0 := rfl
  have e3 : lineR k x 3 = lineR k x 1 := rfl
  rw [Bool.eq_iff_iff, decide_eq_true_eq, Bool.or_eq_true]
  simp only [List.mem_append]
  constructor
  · rintro (h | h | h | h)
    · exact .inl ((m 0 (by omega) (sb 0 h)).1 h)
    · exact .inr ((m 1 (by omega) (sb 1 h)).1 h)
    · exact .inl (e2 ▸ (m 2 (by omega) (sb 2 h)).1 h)
    · exact .inr (e3 ▸ (m 3 (by omega) (sb 3 h)).1 h)
  · rintro (h | h)
    · have := on0 _ h
      rw [l0] at this
      simp only [Bool.or_eq_true, List.contains_iff_mem] at this
      rcases this with g | g
      · exact .inl ((m 0 (by omega) g).2 h)
      · exact .inr (.inr (.inl ((m 2 (by omega) g).2 (e2 ▸ h))))
    · have := on0 _ h
      rw [l1] at this
      simp only [Bool.or_eq_true, List.contains_iff_mem] at this
      rcases this with g | g
      · exact .inr (.inl ((m 1 (by omega) g).2 h))
      · exact .inr (.inr (.inr ((m 3 (by omega) g).2 (e3 ▸ h))))
/-- the squares that matter, line by line -/
def mtrR (k x : Nat) : List Nat := (lnR k x 0).dropLast ++ ((lnR k x 1).dropLast ++ ((lnR k x 2).dropLast ++ (lnR k x 3).dropLast))
theorem mtrR_sum : ∀ x, x < 64 → sumB (mtrR 4 x) 0#64 = mtr 4 x ∧ sumB (mtrR 5 x) 0#64 = mtr 5 x := by decide +kernel
theorem mtrR_sub (k x : Nat) : (mtrR k x).Sublist (allR k x) :=
  (List.dropLast_sublist _).append ((List.dropLast_sublist _).append ((List.dropLast_sublist _).append (List.dropLast_sublist _)))
theorem mtrR_ok (k x : Nat) (hk : k = 4 ∨ k = 5) (hx : x < 64) : (mtrR k x).Nodup ∧ ∀ y ∈ mtrR k x, y < 64 := by
  obtain ⟨n1, n2⟩ := allR_ok k x hk hx
  exact ⟨(mtrR_sub k x).nodup n1, fun y hy => n2 y ((mtrR_sub k x).subset hy)⟩
theorem mtrR_bit (k x : Nat) (hk : k = 4 ∨ k = 5) (hx : x < 64) (i : Nat) (hi : i < 64) : (mtr k x).getLsbD i = decide (i ∈ mtrR k x) := by
  obtain ⟨n1, n2⟩ := mtrR_ok k x hk hx
  have e : sumB (mtrR k x) 0#64 = mtr k x := by
    rcases hk with rfl | rfl
    · exact (mtrR_sum x hx).1
    · exact (mtrR_sum x hx).2
  rw [← e, sumB_bit _ _ n2 n1 (fun _ _ => BitVec.getLsbD_zero) i hi, BitVec.getLsbD_zero, Bool.false_or]
theorem mtrR_len : ∀ x, x < 64 → (mtrR 4 x).length = (sqs (mtr 4 x)).length ∧ (mtrR 5 x).length = (sqs (mtr 5 x)).length ∧ (mtrR 4 x).length ≤ 12 ∧ (mtrR 5 x).length ≤ 12 ∧ 1 ≤ (mtrR 4 x).length ∧ 1 ≤ (mtrR 5 x).length := by decide +kernel
/-- the set of a number -/
def picked : List Nat → Nat → List Nat
  | [], _ => []
  | y :: r, c => if c % 2 = 1 then y :: picked r (c / 2) else picked r (c / 2)
theorem picked_sub : ∀ (l : List Nat) (c : Nat), (picked l c).Sublist l
  | [], _ => List.Sublist.refl _
  | y :: r, c => by
      unfold picked
      split
      · exact List.Sublist.cons_cons y (picked_sub r _)
      · exact (picked_sub r _).cons y
theorem picked_all (t : BitVec 64) : ∀ l : List Nat, ∃ c, c < 2 ^ l.length ∧ picked l c = l.filter (fun y => t.getLsbD y)
  | [] => ⟨0, by simp, rfl⟩
  | y :: r => by
      obtain ⟨c, h1, h2⟩ := picked_all t r
      cases e : t.getLsbD y with
      | true =>
        refine ⟨2 * c + 1, by rw [List.length_cons, Nat.pow_succ]; omega, ?_⟩
        unfold picked
        rw [if_pos (by omega), show (2 * c + 1) / 2 = c from by omega, h2, List.filter_cons, e]; rfl
      | false =>
        refine ⟨2 * c, by rw [List.length_cons, Nat.pow_succ]; omega, ?_⟩
        unfold picked
        rw [if_neg (by omega), show 2 * c / 2 = c from by omega, h2, List.filter_cons, e]; rfl
def setR (k x c : Nat) : BitVec 64 := sumB (picked (mtrR k x) c) 0#64
theorem setR_bit (k x : Nat) (hk : k = 4 ∨ k = 5) (hx : x < 64) (c i : Nat) (hi : i < 64) : (setR k x c).getLsbD i = decide (i ∈ picked (mtrR k x) c) := by
  obtain ⟨n1, n2⟩ := mtrR_ok k x hk hx
  have hs := picked_sub (mtrR k x) c
  unfold setR
  rw [sumB_bit _ _ (fun y hy => n2 y (hs.subset hy)) (hs.nodup n1) (fun _ _ => BitVec.getLsbD_zero) i hi, BitVec.getLsbD_zero, Bool.false_or]
theorem setR_sub (k x : Nat) (hk : k = 4 ∨ k = 5) (hx : x < 64) (c : Nat) : setR k x c &&& mtr k x = setR k x c := by
  apply BitVec.eq_of_getLsbD_eq
  intro i hi
  rw [BitVec.getLsbD_and, setR_bit k x hk hx c i hi, mtrR_bit k x hk hx i hi]
  by_cases h : i ∈ picked (mtrR k x) c
  · simp [h, (picked_sub (mtrR k x) c).subset h]
  · simp [h]
theorem setR_all (k x : Nat) (hk : k = 4 ∨ k = 5) (hx : x < 64) (t : BitVec 64) (ht : t &&& mtr k x = t) : ∃ c, c < 2 ^ (mtrR k x).length ∧ setR k x c = t := by
  obtain ⟨c, h1, h2⟩ := picked_all t (mtrR k x)
  refine ⟨c, h1, ?_⟩
  apply BitVec.eq_of_getLsbD_eq
  intro i hi
  rw [setR_bit k x hk hx c i hi, h2]
  have hb := congrArg (fun b => b.getLsbD i) ht
  simp only [BitVec.getLsbD_and, mtrR_bit k x hk hx i hi] at hb
  cases e : t.getLsbD i with
  | true => rw [e] at hb; simp [e, of_decide_eq_true (by simpa using hb)]
  | false => simp [e]
def vwsR (k x : Nat) (n : Nat) : List (BitVec 64 × BitVec 64) := (List.range n).map fun c => (setR k x c, reachB k x (setR k x c))
theorem fitsT_yes (f : BitVec 64) (b : Nat) : ∀ (l : List (BitVec 64 × BitVec 64)) (T : Nat → BitVec 64), (∀ v ∈ l, T (plc f b v.1) = 0#64 ∨ T (plc f b v.1) = v.2) → (∀ v ∈ l, ∀ u ∈ l, plc f b v.1 = plc f b u.1 → v.2 = u.2) → fitsT f b T l = true
  | [], _, _, _ => rfl
  | a :: l, T, h1, h2 => by
      unfold fitsT
      have hc : clash T (plc f b a.1) a.2 = false := by
        unfold clash
        rcases h1 a (List.mem_cons_self ..) with e | e <;> simp [e]
      rw [hc]
      simp only [Bool.false_eq_true, if_false]
      refine fitsT_yes f b l _ (fun v hv => ?_) (fun v hv u hu => h2 v (List.mem_cons_of_mem _ hv) u (List.mem_cons_of_mem _ hu))
      unfold upd
      by_cases e : plc f b v.1 = plc f b a.1
      · rw [if_pos e]; exact .inr (h2 a (List.mem_cons_self ..) v (List.mem_cons_of_mem _ hv) e.symm)
      · rw [if_neg e]; exact h1 v (List.mem_cons_of_mem _ hv)
/-- BOTH REFUSE THE SAME. -/
theorem fits_same (k x : Nat) (hk : k = 4 ∨ k = 5) (hx : x < 64) (f : BitVec 64) (b : Nat) : fits (vwsR k x (2 ^ (mtrR k x).length)) f b = fits (vws k x) f b := by
  have m1 : ∀ v, v ∈ vwsR k x (2 ^ (mtrR k x).length) ↔ ∃ t, t &&& mtr k x = t ∧ v = (t, reachB k x t) := fun v => by
    unfold vwsR
    rw [List.mem_map]
    constructor
    · rintro ⟨c, _, rfl⟩; exact ⟨_, setR_sub k x hk hx c, rfl⟩
    · rintro ⟨t, h, rfl⟩
      obtain ⟨c, h1, h2⟩ := setR_all k x hk hx t h
      exact ⟨c, List.mem_range.2 h1, by rw [h2]⟩
  have m2 : ∀ v, v ∈ vws k x ↔ ∃ t, t &&& mtr k x = t ∧ v = (t, reachB k x t) := fun v => by
    unfold vws vwsL
    rw [List.mem_map]
    constructor
    · rintro ⟨t, h, rfl⟩; exact ⟨t, subs_sub _ _ _ _ (Nat.le_refl _) BitVec.zero_and h, rfl⟩
    · rintro ⟨t, h, rfl⟩; exact ⟨t, mem_subs _ t h, rfl⟩
  have m : ∀ v, v ∈ vwsR k x (2 ^ (mtrR k x).length) ↔ v ∈ vws k x := fun v => (m1 v).trans (m2 v).symm
  have hz := vws_some k x hk hx
  rw [Bool.eq_iff_iff]
  constructor
  · intro h
    obtain ⟨_, h2⟩ := fitsT_ok f b _ _ (fun v hv => hz v ((m v).1 hv)) h
    exact fitsT_yes f b _ _ (fun _ _ => .inl rfl) (fun v hv u hu => h2 v ((m v).2 hv) u ((m u).2 hu))
  · intro h
    obtain ⟨_, h2⟩ := fitsT_ok f b _ _ hz h
    exact fitsT_yes f b _ _ (fun _ _ => .inl rfl) (fun v hv u hu => h2 v ((m v).1 hv) u ((m u).1 hu))

end Go.Proofs.YtnfakamfmkhlbabDoor.P
