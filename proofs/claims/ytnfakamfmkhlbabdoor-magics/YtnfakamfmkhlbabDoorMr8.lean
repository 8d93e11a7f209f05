import Derived.Test.YtnfakamfmkhlbabDoorMr7
namespace Go.Proofs.YtnfakamfmkhlbabDoor.C
open Go.ChangeShapes Go.WideShapes Go.ChangeAt Go.RowKit Go.Shelf
open Go.Proofs.YtnfakamfmkhlbabDoor.P

theorem isq_no (x : Int) (h : x < 0 ∨ 63 < x) (w : World) : Calls Tryd.prog 13 #[.int .i64 x] w fun e w' => e = .returned (.bool false) ∧ w' = w := by
  by_cases c : x < 0
  · go_enter Tryd.func13, Tryd.ntmps13
    go_wp2
    go_ret
    exact ⟨rfl, rfl⟩
  · have c4 : 63 < x := by omega
    go_enter Tryd.func13, Tryd.ntmps13
    go_wp2
    go_ret
    refine ⟨?_, rfl⟩
    show Ending.returned (Value.bool (decide (x < 64))) = _
    rw [decide_eq_false (by omega)]
theorem slider_no (k : Int) (h4 : k ≠ 4) (h5 : k ≠ 5) (w : World) : Calls Tryd.prog 12 #[.int .i64 k] w fun e w' => e = .returned (.bool false) ∧ w' = w := by
  have e4 : (k == 4) = false := by rw [beq_eq_false_iff_ne]; exact h4
  have e5 : (k == 5) = false := by rw [beq_eq_false_iff_ne]; exact h5
  clear h4 h5
  go_enter Tryd.func12, Tryd.ntmps12
  go_wp2
  go_ret
  exact ⟨rfl, rfl⟩
/-- one answer of both. -/
def Both (q : Bool) (E : Int) (kd sq : Int) (f : BitVec 64) (bt : Int) : Prop :=
  (∀ W, Cx W → Calls Tryd.prog 5 #[.int .i64 kd, .int .i64 sq, .int .u64 (U f), .int .i64 bt] W fun e w' => e = .returned (.tuple #[.bool q, .int .i64 E]) ∧ Gr W w') ∧
  (∀ W, Calls Tryd.prog 6 #[.int .i64 kd, .int .i64 sq, .int .u64 (U f), .int .i64 bt] W fun e w' => e = .returned (.tuple #[.bool q, .int .i64 E]) ∧ Gr W w')
def BothF (F K E : Int) (kd sq : Int) (s : BitVec 64) (tr : Int) : Prop :=
  (∀ W, Cx W → Calls Tryd.prog 7 #[.int .i64 kd, .int .i64 sq, .int .u64 (U s), .int .i64 tr] W fun e w' => e = .returned (.tuple #[.int .u64 F, .int .i64 K, .int .i64 E]) ∧ Gr W w') ∧
  (∀ W, Calls Tryd.prog 8 #[.int .i64 kd, .int .i64 sq, .int .u64 (U s), .int .i64 tr] W fun e w' => e = .returned (.tuple #[.int .u64 F, .int .i64 K, .int .i64 E]) ∧ Gr W w')

theorem both_kind (kd sq : Int) (f : BitVec 64) (bt : Int) (h4 : kd ≠ 4) (h5 : kd ≠ 5) : Both false 6 kd sq f bt := by
  have e4 : (kd == 4) = false := by rw [beq_eq_false_iff_ne]; exact h4
  have e5 : (kd == 5) = false := by rw [beq_eq_false_iff_ne]; exact h5
  have n4 : (kd != 4) = true := bne_iff_ne.2 h4
  have n5 : (kd != 5) = true := bne_iff_ne.2 h5
  have hs := hide (fun W => slider_no kd h4 h5 W)
  clear h4 h5
  refine ⟨fun W _ => ?_, fun W => ?_⟩
  · go_enter Tryd.func5, Tryd.ntmps5
    go_wp2_with (go_at_call 12; refine (unhide hs _).mono ?_; rintro e w' ⟨rfl, rfl⟩)
    go_ret2
    exact ⟨rfl, Gr.refl _⟩
  · go_enter Tryd.func6, Tryd.ntmps6
    go_wp2_with fail
    go_ret2
    exact ⟨rfl, Gr.refl _⟩
theorem both_square (kd sq : Int) (f : BitVec 64) (bt : Int) (hk : kd = 4 ∨ kd = 5) (hq : sq < 0 ∨ 63 < sq) : Both false 6 kd sq f bt := by
  have hs := hide (fun W => slider_yes kd hk W)
  have hi := hide (fun W => isq_no sq hq W)
  refine ⟨fun W _ => ?_, fun W => ?_⟩
  · rcases hk with rfl | rfl
    all_goals
      go_enter Tryd.func5, Tryd.ntmps5
      go_wp2_with (first
        | (go_at_call 12; refine (unhide hs _).mono ?_; rintro e w' ⟨rfl, rfl⟩)
        | (go_at_call 13; refine (unhide hi _).mono ?_; rintro e w' ⟨rfl, rfl⟩))
      go_ret2
      exact ⟨rfl, Gr.refl _⟩
  · rcases hk with rfl | rfl <;> rcases hq with hq | hq
    all_goals
      go_enter Tryd.func6, Tryd.ntmps6
      go_wp2_with fail
      go_ret2
      exact ⟨rfl, Gr.refl _⟩
theorem both_bits (kd sq : Int) (f : BitVec 64) (bt : Int) (hk : kd = 4 ∨ kd = 5) (h0 : 0 ≤ sq) (h1 : sq ≤ 63) (hb : bt < 1 ∨ 12 < bt) : Both false 8 kd sq f bt := by
  have hs := hide (fun W => slider_yes kd hk W)
  have hi := hide (fun W => isq_yes sq h0 h1 W)
  refine ⟨fun W _ => ?_, fun W => ?_⟩
  all_goals
    rcases hk with rfl | rfl <;> rcases hb with hb | hb
  iterate 4
    · go_enter Tryd.func5, Tryd.ntmps5
      go_wp2_with (first
        | (go_at_call 12; refine (unhide hs _).mono ?_; rintro e w' ⟨rfl, rfl⟩)
        | (go_at_call 13; refine (unhide hi _).mono ?_; rintro e w' ⟨rfl, rfl⟩))
      go_ret2
      exact ⟨rfl, Gr.refl _⟩
  iterate 4
    · go_enter Tryd.func6, Tryd.ntmps6
      go_wp2_with fail
      go_ret2
      exact ⟨rfl, Gr.refl _⟩
theorem both_magic (kd sq : Int) (f : BitVec 64) (bt : Int) : ∃ q E, Both q E kd sq f bt := by
  by_cases hk : kd = 4 ∨ kd = 5
  · by_cases hq : 0 ≤ sq ∧ sq ≤ 63
    · by_cases hb : 1 ≤ bt ∧ bt ≤ 12
      · obtain ⟨k, rfl⟩ : ∃ k : Nat, kd = (k : Int) := ⟨kd.toNat, by omega⟩
        obtain ⟨x, rfl⟩ : ∃ x : Nat, sq = (x : Int) := ⟨sq.toNat, by omega⟩
        obtain ⟨b, rfl⟩ : ∃ b : Nat, bt = (b : Int) := ⟨bt.toNat, by omega⟩
        exact ⟨_, _, fun W c => magic_yes k x (by omega) (by omega) f b (by omega) (by omega) W c, fun W => magicR_yes k x (by omega) (by omega) f b (by omega) (by omega) W⟩
      · exact ⟨_, _, both_bits kd sq f bt hk hq.1 hq.2 (by omega)⟩
    · exact ⟨_, _, both_square kd sq f bt hk (by omega)⟩
  · exact ⟨_, _, both_kind kd sq f bt (fun h => hk (.inl h)) (fun h => hk (.inr h))⟩

theorem bothF_kind (kd sq : Int) (s : BitVec 64) (tr : Int) (h4 : kd ≠ 4) (h5 : kd ≠ 5) : BothF 0 0 6 kd sq s tr := by
  have e4 : (kd == 4) = false := by rw [beq_eq_false_iff_ne]; exact h4
  have e5 : (kd == 5) = false := by rw [beq_eq_false_iff_ne]; exact h5
  have n4 : (kd != 4) = true := bne_iff_ne.2 h4
  have n5 : (kd != 5) = true := bne_iff_ne.2 h5
  have hs := hide (fun W => slider_no kd h4 h5 W)
  clear h4 h5
  refine ⟨fun W _ => ?_, fun W => ?_⟩
  · go_enter Tryd.func7, Tryd.ntmps7
    go_wp2_with (go_at_call 12; refine (unhide hs _).mono ?_; rintro e w' ⟨rfl, rfl⟩)
    exact bodyPost_ret (v := .tuple #[.int .u64 0, .int .i64 0, .int .i64 6]) (by simp [results, Tryd.results7, go_sem]) rfl ⟨rfl, Gr.refl _⟩
  · go_enter Tryd.func8, Tryd.ntmps8
    go_wp2_with fail
    exact bodyPost_ret (v := .tuple #[.int .u64 0, .int .i64 0, .int .i64 6]) (by simp [results, Tryd.results8, go_sem]) rfl ⟨rfl, Gr.refl _⟩
theorem bothF_square (kd sq : Int) (s : BitVec 64) (tr : Int) (hk : kd = 4 ∨ kd = 5) (hq : sq < 0 ∨ 63 < sq) : BothF 0 0 6 kd sq s tr := by
  have hs := hide (fun W => slider_yes kd hk W)
  have hi := hide (fun W => isq_no sq hq W)
  refine ⟨fun W _ => ?_, fun W => ?_⟩
  · rcases hk with rfl | rfl
    all_goals
      go_enter Tryd.func7, Tryd.ntmps7
      go_wp2_with (first
        | (go_at_call 12; refine (unhide hs _).mono ?_; rintro e w' ⟨rfl, rfl⟩)
        | (go_at_call 13; refine (unhide hi _).mono ?_; rintro e w' ⟨rfl, rfl⟩))
      exact bodyPost_ret (v := .tuple #[.int .u64 0, .int .i64 0, .int .i64 6]) (by simp [results, Tryd.results7, go_sem]) rfl ⟨rfl, Gr.refl _⟩
  · rcases hk with rfl | rfl <;> rcases hq with hq | hq
    all_goals
      go_enter Tryd.func8, Tryd.ntmps8
      go_wp2_with fail
      exact bodyPost_ret (v := .tuple #[.int .u64 0, .int .i64 0, .int .i64 6]) (by simp [results, Tryd.results8, go_sem]) rfl ⟨rfl, Gr.refl _⟩
theorem bothF_tries (kd sq : Int) (s : BitVec 64) (tr : Int) (hk : kd = 4 ∨ kd = 5) (h0 : 0 ≤ sq) (h1 : sq ≤ 63) (hb : tr < 0 ∨ 10000 < tr) : BothF 0 0 8 kd sq s tr := by
  have hs := hide (fun W => slider_yes kd hk W)
  have hi := hide (fun W => isq_yes sq h0 h1 W)
  refine ⟨fun W _ => ?_, fun W => ?_⟩
  all_goals
    rcases hk with rfl | rfl <;> rcases hb with hb | hb
  iterate 4
    · go_enter Tryd.func7, Tryd.ntmps7
      go_wp2_with (first
        | (go_at_call 12; refine (unhide hs _).mono ?_; rintro e w' ⟨rfl, rfl⟩)
        | (go_at_call 13; refine (unhide hi _).mono ?_; rintro e w' ⟨rfl, rfl⟩))
      exact bodyPost_ret (v := .tuple #[.int .u64 0, .int .i64 0, .int .i64 8]) (by simp [results, Tryd.results7, go_sem]) rfl ⟨rfl, Gr.refl _⟩
  iterate 4
    · go_enter Tryd.func8, Tryd.ntmps8
      go_wp2_with fail
      exact bodyPost_ret (v := .tuple #[.int .u64 0, .int .i64 0, .int .i64 8]) (by simp [results, Tryd.results8, go_sem]) rfl ⟨rfl, Gr.refl _⟩
theorem first_of (P : Nat → Bool) : ∀ n, (∃ m, 1 ≤ m ∧ m ≤ n ∧ P m = true ∧ ∀ i, 1 ≤ i → i < m → P i = false) ∨ ∀ i, 1 ≤ i → i ≤ n → P i = false
  | 0 => .inr fun i h1 h2 => by omega
  | n + 1 => by
      rcases first_of P n with ⟨m, a, b, c, d⟩ | h
      · exact .inl ⟨m, a, by omega, c, d⟩
      · cases e : P (n + 1) with
        | true => exact .inl ⟨n + 1, by omega, Nat.le_refl _, e, fun i h1 h2 => h i h1 (by omega)⟩
        | false =>
          refine .inr fun i h1 h2 => ?_
          by_cases q : i = n + 1
          · rw [q]; exact e
          · exact h i h1 (by omega)
theorem find_one (k x : Nat) (s : BitVec 64) (n : Nat) : ∃ F K, ∀ e, FindEnd k x s n e → e = .returned (.tuple #[.int .u64 F, .int .i64 K]) := by
  rcases first_of (fun m => fits (vws k x) (facN s m) (sqs (mtr k x)).length) n with ⟨m, a, b, c, d⟩ | h
  · refine ⟨U (facN s m), (m : Int), fun e he => ?_⟩
    rcases he with ⟨m', a', b', c', d', rfl⟩ | ⟨h', _⟩
    · have : m' = m := by
        rcases Nat.lt_trichotomy m' m with q | q | q
        · rw [d m' a' q] at c'; cases c'
        · exact q
        · rw [d' m a q] at c; cases c
      rw [this]
    · rw [h' m a b] at c; cases c
  · refine ⟨0, 0, fun e he => ?_⟩
    rcases he with ⟨m', a', b', c', d', rfl⟩ | ⟨_, rfl⟩
    · rw [h m' a' b'] at c'; cases c'
    · rfl
theorem bothF_find (kd sq : Int) (s : BitVec 64) (tr : Int) : ∃ F K E, BothF F K E kd sq s tr := by
  by_cases hk : kd = 4 ∨ kd = 5
  · by_cases hq : 0 ≤ sq ∧ sq ≤ 63
    · by_cases hb : 0 ≤ tr ∧ tr ≤ 10000
      · obtain ⟨k, rfl⟩ : ∃ k : Nat, kd = (k : Int) := ⟨kd.toNat, by omega⟩
        obtain ⟨x, rfl⟩ : ∃ x : Nat, sq = (x : Int) := ⟨sq.toNat, by omega⟩
        obtain ⟨n, rfl⟩ : ∃ n : Nat, tr = (n : Int) := ⟨tr.toNat, by omega⟩
        obtain ⟨F, K, hF⟩ := find_one k x s n
        have key : ∀ e, FindEnd3 k x s n e → e = .returned (.tuple #[.int .u64 F, .int .i64 K, .int .i64 0]) := fun e h => by
          obtain ⟨F', K', h1, rfl⟩ := h
          have := hF _ h1
          simp only [Ending.returned.injEq, Value.tuple.injEq, Array.mk.injEq, List.cons.injEq, Value.int.injEq, true_and, and_true] at this
          obtain ⟨rfl, rfl⟩ := this
          rfl
        exact ⟨F, K, 0, fun W c => (findr_yes k x (by omega) (by omega) s n (by omega) W c).mono fun e w' h => ⟨key e h.1, h.2⟩, fun W => (findR_yes k x (by omega) (by omega) s n (by omega) W).mono fun e w' h => ⟨key e h.1, h.2⟩⟩
      · exact ⟨_, _, _, bothF_tries kd sq s tr hk hq.1 hq.2 (by omega)⟩
    · exact ⟨_, _, _, bothF_square kd sq s tr hk (by omega)⟩
  · exact ⟨_, _, _, bothF_kind kd sq s tr (fun h => hk (.inl h)) (fun h => hk (.inr h))⟩

theorem num_any (n : Int) (w : World) : Calls Tryd.prog 9 #[.int .i64 n] w fun e w' => e = .returned (.int .i64 n) ∧ w' = w := by
  go_enter Tryd.func9, Tryd.ntmps9
  go_wp2
  go_ret
  exact ⟨rfl, rfl⟩

set_option maxRecDepth 100000 in
set_option maxHeartbeats 8000000 in
theorem magics_any (kd sq : Int) (f : BitVec 64) (bt : Int) (s : BitVec 64) (tr : Int) (w : World) (hc : Cx w) :
    Calls Tryd.prog 3 #[.int .i64 kd, .int .i64 sq, .int .u64 (U f), .int .i64 bt, .int .u64 (U s), .int .i64 tr] w fun e w' => e = .returned (.bool true) ∧ Gr w w' := by
  obtain ⟨q, E, hA⟩ := both_magic kd sq f bt
  obtain ⟨F, K, E2, hB⟩ := bothF_find kd sq s tr
  have h1 : Hid (∀ W, Cx W → Calls Tryd.prog 5 #[.int .i64 4, .int .i64 0, .int .u64 0, .int .i64 6] W fun e w' => e = .returned (.tuple #[.bool false, .int .i64 0]) ∧ Gr W w') := hide (fun W c => by
    have := magic_yes 4 0 (.inl rfl) (by decide) 0#64 6 (by decide) (by decide) W c
    rw [no_zero 4 0 (.inl rfl) (by decide) 6, ← U_zero] at this
    exact this)
  have hA1 := hide hA.1
  have hA2 := hide hA.2
  have hB1 := hide hB.1
  have hB2 := hide hB.2
  have hc' := hide hc
  clear hA hB hc
  generalize U f = fI at hA1 hA2 ⊢
  generalize U s = sI at hB1 hB2 ⊢
  go_enter Tryd.func3, Tryd.ntmps3
  go_upto_region 2 with (go_at_call 5; refine (unhide h1 _ (unhide hc')).mono ?_; rintro e w1 ⟨rfl, hg1⟩)
  have hc1 := hide ((unhide hc').gr hg1)
  have hgA := hide hg1
  clear h1 hc' hg1
  go_upto_region 3 with (go_at_call 5; refine (unhide hA1 _ (unhide hc1)).mono ?_; rintro e w2 ⟨rfl, hg2⟩)
  have hc2 := hide ((unhide hc1).gr hg2)
  have hgB := hide (Gr.trans (unhide hgA) hg2)
  clear hA1 hc1 hg2 hgA
  go_upto_region 4 with (go_at_call 6; refine (unhide hA2 _).mono ?_; rintro e w3 ⟨rfl, hg3⟩)
  have hc3 := hide ((unhide hc2).gr hg3)
  have hgC := hide (Gr.trans (unhide hgB) hg3)
  clear hA2 hc2 hg3 hgB
  go_upto_region 5 with (go_at_call 7; refine (unhide hB1 _ (unhide hc3)).mono ?_; rintro e w4 ⟨rfl, hg4⟩)
  have hgD := hide (Gr.trans (unhide hgC) hg4)
  clear hB1 hc3 hg4 hgC
  go_upto_region 6 with (go_at_call 8; refine (unhide hB2 _).mono ?_; rintro e w5 ⟨rfl, hg5⟩)
  have hgE := hide (Gr.trans (unhide hgD) hg5)
  clear hB2 hg5 hgD
  have hqq : (q == q) = true := by simp
  have hEE : (E == E) = true := by simp
  have hFF : (F == F) = true := by simp
  have hKK : (K == K) = true := by simp
  have hE2 : (E2 == E2) = true := by simp
  go_wp2_with (go_at_call 9; refine (num_any _ _).mono ?_; rintro e w' ⟨rfl, rfl⟩)
  go_ret
  exact ⟨rfl, unhide hgE⟩

end Go.Proofs.YtnfakamfmkhlbabDoor.C
