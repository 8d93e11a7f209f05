import Derived.Test.YtnfakamfmkhlbaaRefR
import Derived.Test.YtnfakamfmkhlbaaSame
namespace Go.Proofs.Ytnfakamfmkhlbaa.C
open Go.ChangeShapes Go.WideShapes Go.ChangeAt Go.RowKit
open Go.Proofs.Ytnfakamfmkhlbaa.P

theorem num_any (e : Int) (w : World) : Calls Try.prog 7 #[.int .i64 e] w fun r w' => r = .returned (.int .i64 e) ∧ w' = w := by
  go_enter Try.func7, Try.ntmps7
  go_wp2
  go_ret
  exact ⟨rfl, rfl⟩

theorem isq_no (x : Int) (h : x < 0 ∨ 63 < x) (w : World) : Calls Try.prog 9 #[.int .i64 x] w fun e w' => e = .returned (.bool false) ∧ w' = w := by
  by_cases c : x < 0
  · go_enter Try.func9, Try.ntmps9
    go_wp2
    go_ret
    exact ⟨rfl, rfl⟩
  · have c4 : 63 < x := by omega
    go_enter Try.func9, Try.ntmps9
    go_wp2
    go_ret
    refine ⟨?_, rfl⟩
    show Ending.returned (Value.bool (decide (x < 64))) = _
    rw [decide_eq_false (by omega)]

theorem reach_no (k x t : Int) (h : k < 1 ∨ 7 < k ∨ x < 0 ∨ 63 < x) (w : World) : Calls Try.prog 5 #[.int .i64 k, .int .i64 x, .int .u64 t] w fun e w' => e = .returned (.tuple #[.int .u64 0, .int .i64 6]) ∧ w' = w := by
  by_cases c1 : k < 1
  · go_enter Try.func5, Try.ntmps5
    go_wp2
    go_ret2
    exact ⟨rfl, rfl⟩
  · by_cases c2 : 7 < k
    · go_enter Try.func5, Try.ntmps5
      go_wp2
      go_ret2
      exact ⟨rfl, rfl⟩
    · have c4 : x < 0 ∨ 63 < x := by omega
      go_enter Try.func5, Try.ntmps5
      go_wp2_with (go_at_call 9; refine (isq_no _ c4 _).mono ?_; rintro e w' ⟨rfl, rfl⟩)
      go_ret2
      exact ⟨rfl, rfl⟩

theorem rreach_no (k x t : Int) (h : k < 1 ∨ 7 < k ∨ x < 0 ∨ 63 < x) (w : World) : Calls Try.prog 6 #[.int .i64 k, .int .i64 x, .int .u64 t] w fun e w' => e = .returned (.tuple #[.int .u64 0, .int .i64 6]) ∧ w' = w := by
  by_cases c1 : k < 1
  · go_enter Try.func6, Try.ntmps6
    go_wp2
    go_ret2
    exact ⟨rfl, rfl⟩
  · by_cases c2 : 7 < k
    · go_enter Try.func6, Try.ntmps6
      go_wp2
      go_ret2
      exact ⟨rfl, rfl⟩
    · by_cases c3 : x < 0
      · go_enter Try.func6, Try.ntmps6
        go_wp2
        go_ret2
        exact ⟨rfl, rfl⟩
      · have c4 : 63 < x := by omega
        go_enter Try.func6, Try.ntmps6
        go_wp2
        go_ret2
        exact ⟨rfl, rfl⟩

theorem one_knight : reachI 3 0 0 = 132096 := by decide +kernel

theorem reaches_no (k x t : Int) (h : k < 1 ∨ 7 < k ∨ x < 0 ∨ 63 < x) (w : World) : Calls Try.prog 3 #[.int .i64 k, .int .i64 x, .int .u64 t] w fun e w' => e = .returned (.bool true) ∧ Gr w w' := by
  have hk := one_knight
  go_enter Try.func3, Try.ntmps3
  go_wp2_with fail
  refine (reach_yes 3 0 0 (by omega) (by omega) (by omega) (by omega) _).mono ?_
  rintro e w' ⟨rfl, rfl⟩
  go_wp2_with fail
  refine (reach_no k x t h _).mono ?_
  rintro e w' ⟨rfl, rfl⟩
  go_wp2_with fail
  refine (rreach_no k x t h _).mono ?_
  rintro e w' ⟨rfl, rfl⟩
  go_wp2_with (go_at_call 7; refine (num_any _ _).mono ?_; rintro e w' ⟨rfl, rfl⟩)
  go_ret
  exact ⟨rfl, Gr.refl _⟩

theorem reaches_yes (k x : Nat) (t : BitVec 64) (k0 : 1 ≤ k) (k1 : k ≤ 7) (hx : x < 64) (w : World) : Calls Try.prog 3 #[.int .i64 k, .int .i64 x, .int .u64 (U t)] w fun e w' => e = .returned (.bool true) ∧ Gr w w' := by
  have hk := one_knight
  have hr : reachI (k : Int) (x : Int) (U t) = U (refB k x t) := by rw [reach_U k x k0 k1 hx t, reach_ref k x k0 k1 hx t]
  go_enter Try.func3, Try.ntmps3
  go_wp2_with fail
  refine (reach_yes 3 0 0 (by omega) (by omega) (by omega) (by omega) _).mono ?_
  rintro e w' ⟨rfl, rfl⟩
  go_wp2_with fail
  refine (reach_yes k x (U t) (by omega) (by omega) (by omega) (by omega) _).mono ?_
  rintro e w' ⟨rfl, rfl⟩
  go_wp2_with fail
  refine (rreach_yes k x t k0 k1 (by omega) (by omega) _).mono ?_
  rintro e w' ⟨rfl, hg⟩
  go_wp2_with (go_at_call 7; refine (num_any _ _).mono ?_; rintro e w' ⟨rfl, rfl⟩)
  go_ret
  exact ⟨rfl, hg⟩

theorem reaches_any (a0 a1 a2 : Int) (w2 : (Lit.int .u64 a2).wf = true) (w : World) : Calls Try.prog 3 #[.int .i64 a0, .int .i64 a1, .int .u64 a2] w fun e w' => e = .returned (.bool true) ∧ Gr w w' := by
  by_cases h : a0 < 1 ∨ 7 < a0 ∨ a1 < 0 ∨ 63 < a1
  · exact reaches_no a0 a1 a2 h w
  · obtain ⟨t, rfl⟩ := of_u64 a2 w2
    obtain ⟨k, rfl⟩ := Int.eq_ofNat_of_zero_le (show 0 ≤ a0 by omega)
    obtain ⟨x, rfl⟩ := Int.eq_ofNat_of_zero_le (show 0 ≤ a1 by omega)
    exact reaches_yes k x t (by omega) (by omega) (by omega) w

end Go.Proofs.Ytnfakamfmkhlbaa.C
