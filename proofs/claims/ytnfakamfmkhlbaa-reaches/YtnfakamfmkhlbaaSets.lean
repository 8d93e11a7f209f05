import Derived.Test.YtnfakamfmkhlbaaRows
import Derived.Test.YtnfakamfmkhlbaaPlain
import Derived.WalkKit
import Derived.ProofKit
import Derived.OpenShut
import Derived.Outline
import Derived.WalkLawsBesides
namespace Go.Proofs.Ytnfakamfmkhlbaa.C
open Go.ChangeShapes Go.WideShapes Go.ChangeAt Go.RowKit
open Go.Proofs.Ytnfakamfmkhlbaa.P

theorem ret_int {k : IntKind} {a b : Int} (h : a = b) : Ending.returned (.int k a) = .returned (.int k b) := by rw [h]

theorem one_any (x : Int) (h0 : 0 ≤ x) (h1 : x ≤ 63) (w : World) : Calls Try.prog 12 #[.int .i64 x] w fun e w' => e = .returned (.int .u64 (oneI x)) ∧ w' = w := by
  go_enter Try.func12, Try.ntmps12
  go_wp2
  go_ret
  exact ⟨rfl, rfl⟩

theorem left_any (x : Int) (w : World) : Calls Try.prog 13 #[.int .u64 x] w fun e w' => e = .returned (.int .u64 (lftI x)) ∧ w' = w := by
  go_enter Try.func13, Try.ntmps13
  go_wp2
  go_ret
  exact ⟨rfl, rfl⟩

theorem right_any (x : Int) (w : World) : Calls Try.prog 14 #[.int .u64 x] w fun e w' => e = .returned (.int .u64 (rgtI x)) ∧ w' = w := by
  go_enter Try.func14, Try.ntmps14
  go_wp2
  go_ret
  exact ⟨rfl, rfl⟩

theorem up_any (x r : Int) (w : World) (h0 : -7 ≤ r) (h1 : r ≤ 7) : Calls Try.prog 15 #[.int .u64 x, .int .i64 r] w fun e w' => e = .returned (.int .u64 (upI x r)) ∧ w' = w := by
  by_cases h : r < 0
  · go_enter Try.func15, Try.ntmps15
    go_wp2
    go_ret
    exact ⟨ret_int (by unfold upI; rw [if_pos h]), rfl⟩
  · have h2 : 0 ≤ r := by omega
    have h3 := h
    go_enter Try.func15, Try.ntmps15
    go_wp2
    go_ret
    exact ⟨ret_int (by unfold upI; rw [if_neg (by omega)]), rfl⟩

theorem revb_any (x : Int) (w : World) : Calls Try.prog 26 #[.int .u64 x] w fun e w' => e = .returned (.int .u64 (rv32 (rv16 (rv8 x)))) ∧ w' = w := by
  go_enter Try.func26, Try.ntmps26
  go_wp2
  go_ret
  exact ⟨rfl, rfl⟩

theorem rev_any (x : Int) (w : World) : Calls Try.prog 25 #[.int .u64 x] w fun e w' => e = .returned (.int .u64 (revI x)) ∧ w' = w := by
  go_enter Try.func25, Try.ntmps25
  go_wp2_with (go_at_call 26; refine (revb_any _ _).mono ?_; rintro e w' ⟨rfl, rfl⟩)
  go_ret
  exact ⟨rfl, rfl⟩

theorem turned_any (x : Int) (w : World) : Calls Try.prog 24 #[.int .u64 x] w fun e w' => e = .returned (.int .u64 (revI x)) ∧ w' = w := by
  go_enter Try.func24, Try.ntmps24
  go_wp2_with (go_at_call 25; refine (rev_any _ _).mono ?_; rintro e w' ⟨rfl, rfl⟩)
  go_ret
  exact ⟨rfl, rfl⟩

theorem along_any (l x t : Int) (h0 : 0 ≤ x) (h1 : x ≤ 63) (w : World) : Calls Try.prog 22 #[.int .u64 l, .int .i64 x, .int .u64 t] w fun e w' => e = .returned (.int .u64 (alongI l x t)) ∧ w' = w := by
  go_enter Try.func22, Try.ntmps22
  go_wp2_with (first | (go_at_call 12; refine (one_any _ h0 h1 _).mono ?_; rintro e w' ⟨rfl, rfl⟩) | (go_at_call 24; refine (turned_any _ _).mono ?_; rintro e w' ⟨rfl, rfl⟩))
  go_ret
  exact ⟨rfl, rfl⟩

theorem knight_any (x : Int) (w : World) : Calls Try.prog 16 #[.int .u64 x] w fun e w' => e = .returned (.int .u64 (knightI x)) ∧ w' = w := by
  go_enter Try.func16, Try.ntmps16
  go_wp2_with (first | (go_at_call 13; refine (left_any _ _).mono ?_; rintro e w' ⟨rfl, rfl⟩) | (go_at_call 14; refine (right_any _ _).mono ?_; rintro e w' ⟨rfl, rfl⟩) | (go_at_call 15; refine (up_any _ _ _ (by decide) (by decide)).mono ?_; rintro e w' ⟨rfl, rfl⟩))
  go_ret
  exact ⟨rfl, rfl⟩

theorem king_any (x : Int) (w : World) : Calls Try.prog 19 #[.int .u64 x] w fun e w' => e = .returned (.int .u64 (kingI x)) ∧ w' = w := by
  go_enter Try.func19, Try.ntmps19
  go_wp2_with (first | (go_at_call 13; refine (left_any _ _).mono ?_; rintro e w' ⟨rfl, rfl⟩) | (go_at_call 14; refine (right_any _ _).mono ?_; rintro e w' ⟨rfl, rfl⟩) | (go_at_call 15; refine (up_any _ _ _ (by decide) (by decide)).mono ?_; rintro e w' ⟨rfl, rfl⟩))
  go_ret
  exact ⟨rfl, rfl⟩

theorem straight_any (x t : Int) (h0 : 0 ≤ x) (h1 : x ≤ 63) (w : World) : Calls Try.prog 18 #[.int .i64 x, .int .u64 t] w fun e w' => e = .returned (.int .u64 (straightI x t)) ∧ w' = w := by
  go_enter Try.func18, Try.ntmps18
  go_wp2_with (first | (go_at_call 22; refine (along_any _ _ _ h0 h1 _).mono ?_; rintro e w' ⟨rfl, rfl⟩) | (go_at_call 15; refine (up_any _ _ _ (by omega) (by omega)).mono ?_; rintro e w' ⟨rfl, rfl⟩))
  go_ret
  exact ⟨rfl, rfl⟩

theorem slant_any (x t : Int) (h0 : 0 ≤ x) (h1 : x ≤ 63) (w : World) : Calls Try.prog 17 #[.int .i64 x, .int .u64 t] w fun e w' => e = .returned (.int .u64 (slantI x t)) ∧ w' = w := by
  go_enter Try.func17, Try.ntmps17
  go_wp2_with (first | (go_at_call 22; refine (along_any _ _ _ h0 h1 _).mono ?_; rintro e w' ⟨rfl, rfl⟩) | (go_at_call 15; refine (up_any _ _ _ (by omega) (by omega)).mono ?_; rintro e w' ⟨rfl, rfl⟩))
  go_ret
  exact ⟨rfl, rfl⟩

theorem reach9_any (k x t : Int) (k0 : 1 ≤ k) (k1 : k ≤ 7) (h0 : 0 ≤ x) (h1 : x ≤ 63) (w : World) : Calls Try.prog 10 #[.int .i64 k, .int .i64 x, .int .u64 t] w fun e w' => e = .returned (.int .u64 (reachI k x t)) ∧ w' = w := by
  have hk : k = 1 ∨ k = 2 ∨ k = 3 ∨ k = 4 ∨ k = 5 ∨ k = 6 ∨ k = 7 := by omega
  rcases hk with rfl | rfl | rfl | rfl | rfl | rfl | rfl
  all_goals
    go_enter Try.func10, Try.ntmps10
    go_wp2_with (first | (go_at_call 12; refine (one_any _ h0 h1 _).mono ?_; rintro e w' ⟨rfl, rfl⟩) | (go_at_call 13; refine (left_any _ _).mono ?_; rintro e w' ⟨rfl, rfl⟩) | (go_at_call 14; refine (right_any _ _).mono ?_; rintro e w' ⟨rfl, rfl⟩) | (go_at_call 15; refine (up_any _ _ _ (by decide) (by decide)).mono ?_; rintro e w' ⟨rfl, rfl⟩) | (go_at_call 16; refine (knight_any _ _).mono ?_; rintro e w' ⟨rfl, rfl⟩) | (go_at_call 19; refine (king_any _ _).mono ?_; rintro e w' ⟨rfl, rfl⟩) | (go_at_call 18; refine (straight_any _ _ h0 h1 _).mono ?_; rintro e w' ⟨rfl, rfl⟩) | (go_at_call 17; refine (slant_any _ _ h0 h1 _).mono ?_; rintro e w' ⟨rfl, rfl⟩))
    go_ret
    exact ⟨rfl, rfl⟩

theorem isq_yes (x : Int) (h0 : 0 ≤ x) (h1 : x ≤ 63) (w : World) : Calls Try.prog 9 #[.int .i64 x] w fun e w' => e = .returned (.bool true) ∧ w' = w := by
  go_enter Try.func9, Try.ntmps9
  go_wp2
  go_ret
  refine ⟨?_, rfl⟩
  show Ending.returned (Value.bool (decide (x < 64))) = _
  rw [decide_eq_true (by omega)]

theorem reach_yes (k x t : Int) (k0 : 1 ≤ k) (k1 : k ≤ 7) (h0 : 0 ≤ x) (h1 : x ≤ 63) (w : World) : Calls Try.prog 5 #[.int .i64 k, .int .i64 x, .int .u64 t] w fun e w' => e = .returned (.tuple #[.int .u64 (reachI k x t), .int .i64 0]) ∧ w' = w := by
  go_enter Try.func5, Try.ntmps5
  go_wp2_with (first | (go_at_call 9; refine (isq_yes _ h0 h1 _).mono ?_; rintro e w' ⟨rfl, rfl⟩) | (go_at_call 10; refine (reach9_any _ _ _ k0 k1 h0 h1 _).mono ?_; rintro e w' ⟨rfl, rfl⟩))
  go_ret2
  exact ⟨rfl, rfl⟩

end Go.Proofs.Ytnfakamfmkhlbaa.C
