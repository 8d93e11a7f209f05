import Derived.Test.YtnfakamfmkhlbabDoorRows
import Derived.Test.YtnfakamfmkhlbabDoorPlain
import Derived.Test.YtnfakamfmkhlbabDoorKit
import Derived.WalkKit
import Derived.ProofKit
import Derived.OpenShut
import Derived.Outline
import Derived.WalkLawsBesides
namespace Go.Proofs.YtnfakamfmkhlbabDoor.C
open Go.ChangeShapes Go.WideShapes Go.ChangeAt Go.RowKit
open Go.Proofs.YtnfakamfmkhlbabDoor.P



theorem one_any (x : Int) (h0 : 0 ≤ x) (h1 : x ≤ 63) (w : World) : Calls Tryd.prog 30 #[.int .i64 x] w fun e w' => e = .returned (.int .u64 (oneI x)) ∧ w' = w := by
  go_enter Tryd.func30, Tryd.ntmps30
  go_wp2
  go_ret
  exact ⟨rfl, rfl⟩

theorem left_any (x : Int) (w : World) : Calls Tryd.prog 31 #[.int .u64 x] w fun e w' => e = .returned (.int .u64 (lftI x)) ∧ w' = w := by
  go_enter Tryd.func31, Tryd.ntmps31
  go_wp2
  go_ret
  exact ⟨rfl, rfl⟩

theorem right_any (x : Int) (w : World) : Calls Tryd.prog 32 #[.int .u64 x] w fun e w' => e = .returned (.int .u64 (rgtI x)) ∧ w' = w := by
  go_enter Tryd.func32, Tryd.ntmps32
  go_wp2
  go_ret
  exact ⟨rfl, rfl⟩

theorem up_any (x r : Int) (w : World) (h0 : -7 ≤ r) (h1 : r ≤ 7) : Calls Tryd.prog 33 #[.int .u64 x, .int .i64 r] w fun e w' => e = .returned (.int .u64 (upI x r)) ∧ w' = w := by
  by_cases h : r < 0
  · go_enter Tryd.func33, Tryd.ntmps33
    go_wp2
    go_ret
    exact ⟨ret_int (by unfold upI; rw [if_pos h]), rfl⟩
  · have h2 : 0 ≤ r := by omega
    have h3 := h
    go_enter Tryd.func33, Tryd.ntmps33
    go_wp2
    go_ret
    exact ⟨ret_int (by unfold upI; rw [if_neg (by omega)]), rfl⟩

theorem revb_any (x : Int) (w : World) : Calls Tryd.prog 49 #[.int .u64 x] w fun e w' => e = .returned (.int .u64 (rv32 (rv16 (rv8 x)))) ∧ w' = w := by
  go_enter Tryd.func49, Tryd.ntmps49
  go_wp2
  go_ret
  exact ⟨rfl, rfl⟩

theorem rev_any (x : Int) (w : World) : Calls Tryd.prog 48 #[.int .u64 x] w fun e w' => e = .returned (.int .u64 (revI x)) ∧ w' = w := by
  go_enter Tryd.func48, Tryd.ntmps48
  go_wp2_with (go_at_call 49; refine (revb_any _ _).mono ?_; rintro e w' ⟨rfl, rfl⟩)
  go_ret
  exact ⟨rfl, rfl⟩

theorem turned_any (x : Int) (w : World) : Calls Tryd.prog 47 #[.int .u64 x] w fun e w' => e = .returned (.int .u64 (revI x)) ∧ w' = w := by
  go_enter Tryd.func47, Tryd.ntmps47
  go_wp2_with (go_at_call 48; refine (rev_any _ _).mono ?_; rintro e w' ⟨rfl, rfl⟩)
  go_ret
  exact ⟨rfl, rfl⟩

theorem along_any (l x t : Int) (h0 : 0 ≤ x) (h1 : x ≤ 63) (w : World) : Calls Tryd.prog 44 #[.int .u64 l, .int .i64 x, .int .u64 t] w fun e w' => e = .returned (.int .u64 (alongI l x t)) ∧ w' = w := by
  go_enter Tryd.func44, Tryd.ntmps44
  go_wp2_with (first | (go_at_call 30; refine (one_any _ h0 h1 _).mono ?_; rintro e w' ⟨rfl, rfl⟩) | (go_at_call 47; refine (turned_any _ _).mono ?_; rintro e w' ⟨rfl, rfl⟩))
  go_ret
  exact ⟨rfl, rfl⟩

theorem knight_any (x : Int) (w : World) : Calls Tryd.prog 34 #[.int .u64 x] w fun e w' => e = .returned (.int .u64 (knightI x)) ∧ w' = w := by
  go_enter Tryd.func34, Tryd.ntmps34
  go_wp2_with (first | (go_at_call 31; refine (left_any _ _).mono ?_; rintro e w' ⟨rfl, rfl⟩) | (go_at_call 32; refine (right_any _ _).mono ?_; rintro e w' ⟨rfl, rfl⟩) | (go_at_call 33; refine (up_any _ _ _ (by decide) (by decide)).mono ?_; rintro e w' ⟨rfl, rfl⟩))
  go_ret
  exact ⟨rfl, rfl⟩

theorem king_any (x : Int) (w : World) : Calls Tryd.prog 37 #[.int .u64 x] w fun e w' => e = .returned (.int .u64 (kingI x)) ∧ w' = w := by
  go_enter Tryd.func37, Tryd.ntmps37
  go_wp2_with (first | (go_at_call 31; refine (left_any _ _).mono ?_; rintro e w' ⟨rfl, rfl⟩) | (go_at_call 32; refine (right_any _ _).mono ?_; rintro e w' ⟨rfl, rfl⟩) | (go_at_call 33; refine (up_any _ _ _ (by decide) (by decide)).mono ?_; rintro e w' ⟨rfl, rfl⟩))
  go_ret
  exact ⟨rfl, rfl⟩

theorem straight_any (x t : Int) (h0 : 0 ≤ x) (h1 : x ≤ 63) (w : World) : Calls Tryd.prog 36 #[.int .i64 x, .int .u64 t] w fun e w' => e = .returned (.int .u64 (straightI x t)) ∧ w' = w := by
  go_enter Tryd.func36, Tryd.ntmps36
  go_wp2_with (first | (go_at_call 44; refine (along_any _ _ _ h0 h1 _).mono ?_; rintro e w' ⟨rfl, rfl⟩) | (go_at_call 33; refine (up_any _ _ _ (by omega) (by omega)).mono ?_; rintro e w' ⟨rfl, rfl⟩))
  go_ret
  exact ⟨rfl, rfl⟩

theorem slant_any (x t : Int) (h0 : 0 ≤ x) (h1 : x ≤ 63) (w : World) : Calls Tryd.prog 35 #[.int .i64 x, .int .u64 t] w fun e w' => e = .returned (.int .u64 (slantI x t)) ∧ w' = w := by
  go_enter Tryd.func35, Tryd.ntmps35
  go_wp2_with (first | (go_at_call 44; refine (along_any _ _ _ h0 h1 _).mono ?_; rintro e w' ⟨rfl, rfl⟩) | (go_at_call 33; refine (up_any _ _ _ (by omega) (by omega)).mono ?_; rintro e w' ⟨rfl, rfl⟩))
  go_ret
  exact ⟨rfl, rfl⟩

theorem reach9_any (k x t : Int) (k0 : 1 ≤ k) (k1 : k ≤ 7) (h0 : 0 ≤ x) (h1 : x ≤ 63) (w : World) : Calls Tryd.prog 19 #[.int .i64 k, .int .i64 x, .int .u64 t] w fun e w' => e = .returned (.int .u64 (reachI k x t)) ∧ w' = w := by
  have hk : k = 1 ∨ k = 2 ∨ k = 3 ∨ k = 4 ∨ k = 5 ∨ k = 6 ∨ k = 7 := by omega
  rcases hk with rfl | rfl | rfl | rfl | rfl | rfl | rfl
  all_goals
    go_enter Tryd.func19, Tryd.ntmps19
    go_wp2_with (first | (go_at_call 30; refine (one_any _ h0 h1 _).mono ?_; rintro e w' ⟨rfl, rfl⟩) | (go_at_call 31; refine (left_any _ _).mono ?_; rintro e w' ⟨rfl, rfl⟩) | (go_at_call 32; refine (right_any _ _).mono ?_; rintro e w' ⟨rfl, rfl⟩) | (go_at_call 33; refine (up_any _ _ _ (by decide) (by decide)).mono ?_; rintro e w' ⟨rfl, rfl⟩) | (go_at_call 34; refine (knight_any _ _).mono ?_; rintro e w' ⟨rfl, rfl⟩) | (go_at_call 37; refine (king_any _ _).mono ?_; rintro e w' ⟨rfl, rfl⟩) | (go_at_call 36; refine (straight_any _ _ h0 h1 _).mono ?_; rintro e w' ⟨rfl, rfl⟩) | (go_at_call 35; refine (slant_any _ _ h0 h1 _).mono ?_; rintro e w' ⟨rfl, rfl⟩))
    go_ret
    exact ⟨rfl, rfl⟩


theorem isq_yes (x : Int) (h0 : 0 ≤ x) (h1 : x ≤ 63) (w : World) : Calls Tryd.prog 13 #[.int .i64 x] w fun e w' => e = .returned (.bool true) ∧ w' = w := by
  go_enter Tryd.func13, Tryd.ntmps13
  go_wp2
  go_ret
  refine ⟨?_, rfl⟩
  show Ending.returned (Value.bool (decide (x < 64))) = _
  rw [decide_eq_true (by omega)]

theorem reach_yes (k x t : Int) (k0 : 1 ≤ k) (k1 : k ≤ 7) (h0 : 0 ≤ x) (h1 : x ≤ 63) (w : World) : Calls Tryd.prog 11 #[.int .i64 k, .int .i64 x, .int .u64 t] w fun e w' => e = .returned (.tuple #[.int .u64 (reachI k x t), .int .i64 0]) ∧ w' = w := by
  go_enter Tryd.func11, Tryd.ntmps11
  go_wp2_with (first | (go_at_call 13; refine (isq_yes _ h0 h1 _).mono ?_; rintro e w' ⟨rfl, rfl⟩) | (go_at_call 19; refine (reach9_any _ _ _ k0 k1 h0 h1 _).mono ?_; rintro e w' ⟨rfl, rfl⟩))
  go_ret2
  exact ⟨rfl, rfl⟩

end Go.Proofs.YtnfakamfmkhlbabDoor.C
