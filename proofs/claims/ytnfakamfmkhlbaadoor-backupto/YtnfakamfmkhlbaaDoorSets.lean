import Derived.Test.YtnfakamfmkhlbaaDoorRows
import Derived.Test.YtnfakamfmkhlbaaDoorPlain
import Derived.Test.YtnfakamfmkhlbaaDoorKit
import Derived.WalkKit
import Derived.ProofKit
import Derived.OpenShut
import Derived.Outline
import Derived.WalkLawsBesides
namespace Go.Proofs.YtnfakamfmkhlbaaDoor.C
open Go.ChangeShapes Go.WideShapes Go.ChangeAt Go.RowKit
open Go.Proofs.YtnfakamfmkhlbaaDoor.P



theorem one_any (x : Int) (h0 : 0 ≤ x) (h1 : x ≤ 63) (w : World) : Calls Tryd.prog 33 #[.int .i64 x] w fun e w' => e = .returned (.int .u64 (oneI x)) ∧ w' = w := by
  go_enter Tryd.func33, Tryd.ntmps33
  go_wp2
  go_ret
  exact ⟨rfl, rfl⟩

theorem left_any (x : Int) (w : World) : Calls Tryd.prog 68 #[.int .u64 x] w fun e w' => e = .returned (.int .u64 (lftI x)) ∧ w' = w := by
  go_enter Tryd.func68, Tryd.ntmps68
  go_wp2
  go_ret
  exact ⟨rfl, rfl⟩

theorem right_any (x : Int) (w : World) : Calls Tryd.prog 69 #[.int .u64 x] w fun e w' => e = .returned (.int .u64 (rgtI x)) ∧ w' = w := by
  go_enter Tryd.func69, Tryd.ntmps69
  go_wp2
  go_ret
  exact ⟨rfl, rfl⟩

theorem up_any (x r : Int) (w : World) (h0 : -7 ≤ r) (h1 : r ≤ 7) : Calls Tryd.prog 70 #[.int .u64 x, .int .i64 r] w fun e w' => e = .returned (.int .u64 (upI x r)) ∧ w' = w := by
  by_cases h : r < 0
  · go_enter Tryd.func70, Tryd.ntmps70
    go_wp2
    go_ret
    exact ⟨ret_int (by unfold upI; rw [if_pos h]), rfl⟩
  · have h2 : 0 ≤ r := by omega
    have h3 := h
    go_enter Tryd.func70, Tryd.ntmps70
    go_wp2
    go_ret
    exact ⟨ret_int (by unfold upI; rw [if_neg (by omega)]), rfl⟩

theorem revb_any (x : Int) (w : World) : Calls Tryd.prog 95 #[.int .u64 x] w fun e w' => e = .returned (.int .u64 (rv32 (rv16 (rv8 x)))) ∧ w' = w := by
  go_enter Tryd.func95, Tryd.ntmps95
  go_wp2
  go_ret
  exact ⟨rfl, rfl⟩

theorem rev_any (x : Int) (w : World) : Calls Tryd.prog 94 #[.int .u64 x] w fun e w' => e = .returned (.int .u64 (revI x)) ∧ w' = w := by
  go_enter Tryd.func94, Tryd.ntmps94
  go_wp2_with (go_at_call 95; refine (revb_any _ _).mono ?_; rintro e w' ⟨rfl, rfl⟩)
  go_ret
  exact ⟨rfl, rfl⟩

theorem turned_any (x : Int) (w : World) : Calls Tryd.prog 92 #[.int .u64 x] w fun e w' => e = .returned (.int .u64 (revI x)) ∧ w' = w := by
  go_enter Tryd.func92, Tryd.ntmps92
  go_wp2_with (go_at_call 94; refine (rev_any _ _).mono ?_; rintro e w' ⟨rfl, rfl⟩)
  go_ret
  exact ⟨rfl, rfl⟩

theorem along_any (l x t : Int) (h0 : 0 ≤ x) (h1 : x ≤ 63) (w : World) : Calls Tryd.prog 85 #[.int .u64 l, .int .i64 x, .int .u64 t] w fun e w' => e = .returned (.int .u64 (alongI l x t)) ∧ w' = w := by
  go_enter Tryd.func85, Tryd.ntmps85
  go_wp2_with (first | (go_at_call 33; refine (one_any _ h0 h1 _).mono ?_; rintro e w' ⟨rfl, rfl⟩) | (go_at_call 92; refine (turned_any _ _).mono ?_; rintro e w' ⟨rfl, rfl⟩))
  go_ret
  exact ⟨rfl, rfl⟩

theorem knight_any (x : Int) (w : World) : Calls Tryd.prog 71 #[.int .u64 x] w fun e w' => e = .returned (.int .u64 (knightI x)) ∧ w' = w := by
  go_enter Tryd.func71, Tryd.ntmps71
  go_wp2_with (first | (go_at_call 68; refine (left_any _ _).mono ?_; rintro e w' ⟨rfl, rfl⟩) | (go_at_call 69; refine (right_any _ _).mono ?_; rintro e w' ⟨rfl, rfl⟩) | (go_at_call 70; refine (up_any _ _ _ (by decide) (by decide)).mono ?_; rintro e w' ⟨rfl, rfl⟩))
  go_ret
  exact ⟨rfl, rfl⟩

theorem king_any (x : Int) (w : World) : Calls Tryd.prog 74 #[.int .u64 x] w fun e w' => e = .returned (.int .u64 (kingI x)) ∧ w' = w := by
  go_enter Tryd.func74, Tryd.ntmps74
  go_wp2_with (first | (go_at_call 68; refine (left_any _ _).mono ?_; rintro e w' ⟨rfl, rfl⟩) | (go_at_call 69; refine (right_any _ _).mono ?_; rintro e w' ⟨rfl, rfl⟩) | (go_at_call 70; refine (up_any _ _ _ (by decide) (by decide)).mono ?_; rintro e w' ⟨rfl, rfl⟩))
  go_ret
  exact ⟨rfl, rfl⟩

theorem straight_any (x t : Int) (h0 : 0 ≤ x) (h1 : x ≤ 63) (w : World) : Calls Tryd.prog 73 #[.int .i64 x, .int .u64 t] w fun e w' => e = .returned (.int .u64 (straightI x t)) ∧ w' = w := by
  go_enter Tryd.func73, Tryd.ntmps73
  go_wp2_with (first | (go_at_call 85; refine (along_any _ _ _ h0 h1 _).mono ?_; rintro e w' ⟨rfl, rfl⟩) | (go_at_call 70; refine (up_any _ _ _ (by omega) (by omega)).mono ?_; rintro e w' ⟨rfl, rfl⟩))
  go_ret
  exact ⟨rfl, rfl⟩

theorem slant_any (x t : Int) (h0 : 0 ≤ x) (h1 : x ≤ 63) (w : World) : Calls Tryd.prog 72 #[.int .i64 x, .int .u64 t] w fun e w' => e = .returned (.int .u64 (slantI x t)) ∧ w' = w := by
  go_enter Tryd.func72, Tryd.ntmps72
  go_wp2_with (first | (go_at_call 85; refine (along_any _ _ _ h0 h1 _).mono ?_; rintro e w' ⟨rfl, rfl⟩) | (go_at_call 70; refine (up_any _ _ _ (by omega) (by omega)).mono ?_; rintro e w' ⟨rfl, rfl⟩))
  go_ret
  exact ⟨rfl, rfl⟩

theorem reach9_any (k x t : Int) (k0 : 1 ≤ k) (k1 : k ≤ 7) (h0 : 0 ≤ x) (h1 : x ≤ 63) (w : World) : Calls Tryd.prog 57 #[.int .i64 k, .int .i64 x, .int .u64 t] w fun e w' => e = .returned (.int .u64 (reachI k x t)) ∧ w' = w := by
  have hk : k = 1 ∨ k = 2 ∨ k = 3 ∨ k = 4 ∨ k = 5 ∨ k = 6 ∨ k = 7 := by omega
  rcases hk with rfl | rfl | rfl | rfl | rfl | rfl | rfl
  all_goals
    go_enter Tryd.func57, Tryd.ntmps57
    go_wp2_with (first | (go_at_call 33; refine (one_any _ h0 h1 _).mono ?_; rintro e w' ⟨rfl, rfl⟩) | (go_at_call 68; refine (left_any _ _).mono ?_; rintro e w' ⟨rfl, rfl⟩) | (go_at_call 69; refine (right_any _ _).mono ?_; rintro e w' ⟨rfl, rfl⟩) | (go_at_call 70; refine (up_any _ _ _ (by decide) (by decide)).mono ?_; rintro e w' ⟨rfl, rfl⟩) | (go_at_call 71; refine (knight_any _ _).mono ?_; rintro e w' ⟨rfl, rfl⟩) | (go_at_call 74; refine (king_any _ _).mono ?_; rintro e w' ⟨rfl, rfl⟩) | (go_at_call 73; refine (straight_any _ _ h0 h1 _).mono ?_; rintro e w' ⟨rfl, rfl⟩) | (go_at_call 72; refine (slant_any _ _ h0 h1 _).mono ?_; rintro e w' ⟨rfl, rfl⟩))
    go_ret
    exact ⟨rfl, rfl⟩


end Go.Proofs.YtnfakamfmkhlbaaDoor.C
