import Derived.Test.YtnfakamfmkhlbaaGreatDoorInv4
namespace Go.Proofs.YtnfakamfmkhlbaaGreatDoor.C

theorem join_in (sep : List UInt8) : ∀ (xs : List (List UInt8)) (c : UInt8), c ∈ Lib.join xs sep → c ∈ sep ∨ ∃ x ∈ xs, c ∈ x
  | [], c, h => by simp [Lib.join, List.intercalate] at h
  | [x], c, h => by rw [Lib.join_one] at h; exact Or.inr ⟨x, by simp, h⟩
  | x :: y :: r, c, h => by
      rw [join_cons2, List.mem_append, List.mem_append] at h
      rcases h with (h | h) | h
      · exact Or.inr ⟨x, by simp, h⟩
      · exact Or.inl h
      · rcases join_in sep (y :: r) c h with h | ⟨z, hz, hc⟩
        · exact Or.inl h
        · exact Or.inr ⟨z, by simp at hz ⊢; right; exact hz, hc⟩

theorem no32_board (B : List UInt8) (hB : B.length = 64) (h : B.all okL = true) : (32 : UInt8) ∉ wboardS (zB B) := by
  intro hm
  unfold wboardS at hm
  rw [wrows_is B hB] at hm
  rcases join_in _ _ _ hm with h' | ⟨x, hx, hc⟩
  · simp at h'
  · obtain ⟨i, _, rfl⟩ := List.mem_map.mp hx
    obtain ⟨k1, k2⟩ := row_ok B hB h (7 - i) (by omega)
    exact not_in _ (wr1_sgn _ k2 (by omega)) 32 sgn_32 hc
theorem no32_side (b : Bool) : (32 : UInt8) ∉ ([if b then 119 else 98] : List UInt8) := by cases b <;> decide
theorem no32_castle4 : ∀ b0 b1 b2 b3 : Bool, (32 : UInt8) ∉ wcastS (fun i => if i = 0 then b0 else if i = 1 then b1 else if i = 2 then b2 else b3) := by decide
theorem no32_castle (f : Nat → Bool) : (32 : UInt8) ∉ wcastS f := no32_castle4 (f 0) (f 1) (f 2) (f 3)
theorem no32_names : ∀ k, k < 64 → (32 : UInt8) ∉ nameS k := by decide +kernel
theorem no32_beh (b : Int) (h : b = -1 ∨ (0 ≤ b ∧ b < 64)) : (32 : UInt8) ∉ wbehS b := by
  rcases h with rfl | ⟨h1, h2⟩
  · decide
  · obtain ⟨k, rfl⟩ := Int.eq_ofNat_of_zero_le h1
    have : wbehS (k : Int) = nameS k := by unfold wbehS; rw [if_neg (by omega)]; simp
    rw [this]; exact no32_names k (by omega)
theorem no32_itoa (n : Nat) : (32 : UInt8) ∉ Lib.itoa (n : Int) := by
  have e : Lib.itoa (n : Int) = Lib.decDigits n := by unfold Lib.itoa; rw [if_neg (by omega), Int.toNat_natCast]
  rw [e]
  intro hm
  have := List.all_eq_true.mp (dv_dec n n (Nat.le_refl _)).2.1 32 hm
  exact absurd this (by decide)

/-- WHAT IS READ IS WRITTEN AGAIN AS IT WAS. -/
theorem read_back (s : ByteArray) (p : Pos) (h : readS s = some p) : ∃ B, p.board = nI B ∧ B.length = 64 ∧ B.all okL = true ∧ (p.behind = -1 ∨ (0 ≤ p.behind ∧ p.behind < 64)) ∧ (0 ≤ p.half ∧ p.half ≤ 65535) ∧ (0 ≤ p.full ∧ p.full ≤ 65535) ∧
    writeS (zB B) p.white p.castle p.behind p.half p.full = s.data.toList := by
  unfold readS at h
  split at h
  · rename_i x0 x1 x2 x3 x4 x5 hw
    unfold six at h
    split at h
    · rename_i b wh c e hh f k0 k1 k2 k3 k4 k5
      simp at h
      subst h
      obtain ⟨B, b1, b2, b3, b4⟩ := board_back _ _ k0
      obtain ⟨e1, e2⟩ := behind_back _ _ k3
      obtain ⟨h1, h2⟩ := clock_back _ _ k4
      obtain ⟨f1, f2⟩ := clock_back _ _ k5
      refine ⟨B, b1, b2, b3, e2, by simp only; omega, by simp only; omega, ?_⟩
      have hj := words_join 32 7 s
      rw [hw] at hj
      rw [← hj]
      unfold writeS
      simp only [List.map_cons, List.map_nil]
      rw [b4, ← side_back _ _ k1, castle_back _ _ k2, e1, h1, f1]
    · simp at h
  · simp at h

/-- WHAT IS WRITTEN IS READ AGAIN AS IT WAS. -/
theorem write_forth (B : List UInt8) (hB : B.length = 64) (hok : B.all okL = true) (wh : Bool) (f : Nat → Bool) (b : Int) (hb : b = -1 ∨ (0 ≤ b ∧ b < 64)) (h g : Nat) (hh : h ≤ 65535) (hg : g ≤ 65535) (s : ByteArray)
    (hs : s.data.toList = writeS (zB B) wh f b h g) : ∃ p, readS s = some p ∧ p.board = nI B ∧ p.white = wh ∧ p.castle 0 = f 0 ∧ p.castle 1 = f 1 ∧ p.castle 2 = f 2 ∧ p.castle 3 = f 3 ∧ p.behind = b ∧ p.half = h ∧ p.full = g := by
  have hw := words_of_join 32 7 (wboardS (zB B)) [[if wh then 119 else 98], wcastS f, wbehS b, Lib.itoa (h : Int), Lib.itoa (g : Int)] (by
    intro y hy
    simp only [List.mem_cons, List.mem_nil_iff, or_false] at hy
    rcases hy with rfl | rfl | rfl | rfl | rfl | rfl
    · exact no32_board B hB hok
    · exact no32_side wh
    · exact no32_castle f
    · exact no32_beh b hb
    · exact no32_itoa h
    · exact no32_itoa g) (by simp) s hs
  unfold readS
  have h6 : (wordsS 32 7 s).length = 6 := by have := congrArg List.length hw; simpa using this
  match hx : wordsS 32 7 s, h6 with
  | [x0, x1, x2, x3, x4, x5], _ =>
    rw [hx] at hw
    simp only [List.map_cons, List.map_nil, List.cons.injEq, and_true] at hw
    obtain ⟨e0, e1, e2, e3, e4, e5⟩ := hw
    obtain ⟨c, c0, c1, c2, c3, c4⟩ := castle_forth f
    simp only
    unfold six
    rw [board_forth B hB hok x0 e0, side_forth x1 wh e1, e2, c0, behind_forth b hb x3 e3, e4, clock_forth h hh, e5, clock_forth g hg]
    exact ⟨_, rfl, rfl, rfl, c1, c2, c3, c4, rfl, rfl, rfl⟩

end Go.Proofs.YtnfakamfmkhlbaaGreatDoor.C
