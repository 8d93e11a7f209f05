import Derived.Test.YtnfakamfmkhlbaaGreatDoorInv1
namespace Go.Proofs.YtnfakamfmkhlbaaGreatDoor.C

/-! ### words: cut and joined -/
theorem ib_cases (c : UInt8) : ∀ l : List UInt8, (Lib.indexByte l c = -1 ∧ c ∉ l) ∨ ∃ a b, l = a ++ c :: b ∧ c ∉ a ∧ Lib.indexByte l c = (a.length : Int)
  | [] => Or.inl ⟨rfl, by simp⟩
  | x :: l => by
      unfold Lib.indexByte
      by_cases hx : x = c
      · subst hx
        right
        exact ⟨[], l, rfl, by simp, by simp⟩
      · have hb : (x == c) = false := by simpa using hx
        rw [hb]
        simp only [Bool.false_eq_true, if_false]
        rcases ib_cases c l with ⟨h1, h2⟩ | ⟨a, b, h1, h2, h3⟩
        · left
          rw [h1]
          exact ⟨by simp, by simp only [List.mem_cons, not_or]; exact ⟨fun e => hx e.symm, h2⟩⟩
        · right
          refine ⟨x :: a, b, by rw [h1]; rfl, by simp only [List.mem_cons, not_or]; exact ⟨fun e => hx e.symm, h2⟩, ?_⟩
          rw [h3]
          have : ((a.length : Int) == -1) = false := by simp
          rw [this]
          simp

theorem split_zero (c : UInt8) (l : List UInt8) : Lib.splitK [c] 0 0 l = [l] := rfl
theorem split_miss (c : UInt8) (k : Nat) (l : List UInt8) (h : c ∉ l) : Lib.splitK [c] 0 k l = [l] := by
  cases k with
  | zero => rfl
  | succ k =>
    unfold Lib.splitK
    rw [Lib.index_one]
    rcases ib_cases c l with ⟨h1, _⟩ | ⟨a, b, h1, _, _⟩
    · rw [h1]; simp
    · rw [h1] at h; simp at h
theorem split_hit (c : UInt8) (k : Nat) (a b : List UInt8) (h : c ∉ a) : Lib.splitK [c] 0 (k + 1) (a ++ c :: b) = a :: Lib.splitK [c] 0 k b := by
  conv => lhs; unfold Lib.splitK
  rw [Lib.index_one]
  rcases ib_cases c (a ++ c :: b) with ⟨_, h2⟩ | ⟨a', b', h1, h2, h3⟩
  · simp at h2
  · have ha : a' = a ∧ b' = b := by
      have key : ∀ (p q p' q' : List UInt8), p ++ c :: q = p' ++ c :: q' → c ∉ p → c ∉ p' → p = p' ∧ q = q' := by
        intro p
        induction p with
        | nil =>
          intro q p' q' e _ h'
          cases p' with
          | nil => simp at e; exact ⟨rfl, e⟩
          | cons y p' => simp at e h'; exact absurd e.1 h'.1
        | cons x p ih =>
          intro q p' q' e h h'
          cases p' with
          | nil => simp at e h; exact absurd e.1.symm h.1
          | cons y p' =>
            simp at e h h'
            obtain ⟨e1, e2⟩ := ih q p' q' e.2 h.2 h'.2
            exact ⟨by rw [e.1, e1], e2⟩
      obtain ⟨e1, e2⟩ := key a b a' b' h1 h h2
      exact ⟨e1.symm, e2.symm⟩
    rw [h3, ha.1]
    have : ((a.length : Int) == -1) = false := by simp
    rw [this]
    simp

theorem join_cons2 (x y : List UInt8) (r : List (List UInt8)) (sep : List UInt8) : Lib.join (x :: y :: r) sep = x ++ sep ++ Lib.join (y :: r) sep := by
  simp [Lib.join, List.intercalate, List.intersperse]

theorem split_ne (c : UInt8) (k : Nat) (l : List UInt8) : ∃ x r, Lib.splitK [c] 0 k l = x :: r := by
  cases k with
  | zero => exact ⟨_, _, rfl⟩
  | succ k => unfold Lib.splitK; split <;> exact ⟨_, _, rfl⟩

theorem join_split (c : UInt8) : ∀ (k : Nat) (l : List UInt8), Lib.join (Lib.splitK [c] 0 k l) [c] = l
  | 0, l => Lib.join_one l [c]
  | k + 1, l => by
      rcases ib_cases c l with ⟨_, h2⟩ | ⟨a, b, rfl, h2, _⟩
      · rw [split_miss c _ l h2, Lib.join_one]
      · rw [split_hit c k a b h2]
        obtain ⟨x, r, e⟩ := split_ne c k b
        rw [e, join_cons2, ← e, join_split c k b]
        simp

theorem split_join (c : UInt8) : ∀ (k : Nat) (x : List UInt8) (r : List (List UInt8)), (∀ y ∈ x :: r, c ∉ y) → r.length ≤ k → Lib.splitK [c] 0 k (Lib.join (x :: r) [c]) = x :: r
  | k, x, [], h, _ => by rw [Lib.join_one, split_miss c k x (h x (by simp))]
  | 0, x, y :: r, _, hk => by simp at hk
  | k + 1, x, y :: r, h, hk => by
      rw [join_cons2, List.append_assoc]
      show Lib.splitK [c] 0 (k + 1) (x ++ c :: Lib.join (y :: r) [c]) = _
      rw [split_hit c k x _ (h x (by simp)), split_join c k y r (fun z hz => h z (by simp at hz ⊢; right; exact hz)) (by simp at hk; omega)]

theorem words_data (c : UInt8) (n : Nat) (s : ByteArray) : (wordsS c n s).map (·.data.toList) = Lib.splitK [c] 0 (min n (s.size + 1) - 1) s.data.toList := by
  unfold wordsS; rw [Lib.splitB_data]
theorem words_join (c : UInt8) (n : Nat) (s : ByteArray) : Lib.join ((wordsS c n s).map (·.data.toList)) [c] = s.data.toList := by
  rw [words_data, join_split]

theorem join_size (sep : List UInt8) : ∀ (x : List UInt8) (r : List (List UInt8)), r.length * sep.length ≤ (Lib.join (x :: r) sep).length
  | x, [] => by simp
  | x, y :: r => by
      have := join_size sep y r
      rw [join_cons2, List.length_append, List.length_append, List.length_cons, Nat.add_mul]
      omega

/-- words without the sign between them are found again. -/
theorem words_of_join (c : UInt8) (n : Nat) (x : List UInt8) (r : List (List UInt8)) (h : ∀ y ∈ x :: r, c ∉ y) (hn : r.length + 1 ≤ n) (s : ByteArray) (hs : s.data.toList = Lib.join (x :: r) [c]) : (wordsS c n s).map (·.data.toList) = x :: r := by
  rw [words_data, hs]
  apply split_join c _ x r h
  have h1 := join_size [c] x r
  rw [← hs] at h1
  simp at h1
  omega

end Go.Proofs.YtnfakamfmkhlbaaGreatDoor.C
