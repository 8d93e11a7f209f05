import Derived.Test.YtnfakamfmkhlbaaGreatDoorRows
import Derived.Test.YtnfakamfmkhlbaaGreatDoorPlain
import Derived.Test.YtnfakamfmkhlbaaGreatDoorKit
import Derived.WalkKit
import Derived.ProofKit
import Derived.OpenShut
import Derived.Outline
import Derived.WalkLawsBesides
namespace Go.Proofs.YtnfakamfmkhlbaaGreatDoor.C
open Go.ChangeShapes Go.WideShapes Go.ChangeAt Go.RowKit
open Go.Proofs.YtnfakamfmkhlbaaGreatDoor.P



theorem one_any (x : Int) (h0 : 0 ≤ x) (h1 : x ≤ 63) (w : World) : Calls Tryz.prog 139 #[.int .i64 x] w fun e w' => e = .returned (.int .u64 (oneI x)) ∧ w' = w := by
  go_enter Tryz.func139, Tryz.ntmps139
  go_wp2
  go_ret
  exact ⟨rfl, rfl⟩

theorem left_any (x : Int) (w : World) : Calls Tryz.prog 185 #[.int .u64 x] w fun e w' => e = .returned (.int .u64 (lftI x)) ∧ w' = w := by
  go_enter Tryz.func185, Tryz.ntmps185
  go_wp2
  go_ret
  exact ⟨rfl, rfl⟩

theorem right_any (x : Int) (w : World) : Calls Tryz.prog 186 #[.int .u64 x] w fun e w' => e = .returned (.int .u64 (rgtI x)) ∧ w' = w := by
  go_enter Tryz.func186, Tryz.ntmps186
  go_wp2
  go_ret
  exact ⟨rfl, rfl⟩

theorem up_any (x r : Int) (w : World) (h0 : -7 ≤ r) (h1 : r ≤ 7) : Calls Tryz.prog 187 #[.int .u64 x, .int .i64 r] w fun e w' => e = .returned (.int .u64 (upI x r)) ∧ w' = w := by
  by_cases h : r < 0
  · go_enter Tryz.func187, Tryz.ntmps187
    go_wp2
    go_ret
    exact ⟨ret_int (by unfold upI; rw [if_pos h]), rfl⟩
  · have h2 : 0 ≤ r := by omega
    have h3 := h
    go_enter Tryz.func187, Tryz.ntmps187
    go_wp2
    go_ret
    exact ⟨ret_int (by unfold upI; rw [if_neg (by omega)]), rfl⟩

theorem revb_any (x : Int) (w : World) : Calls Tryz.prog 347 #[.int .u64 x] w fun e w' => e = .returned (.int .u64 (rv32 (rv16 (rv8 x)))) ∧ w' = w := by
  go_enter Tryz.func347, Tryz.ntmps347
  go_wp2
  go_ret
  exact ⟨rfl, rfl⟩

theorem rev_any (x : Int) (w : World) : Calls Tryz.prog 321 #[.int .u64 x] w fun e w' => e = .returned (.int .u64 (revI x)) ∧ w' = w := by
  go_enter Tryz.func321, Tryz.ntmps321
  go_wp2_with (go_at_call 347; refine (revb_any _ _).mono ?_; rintro e w' ⟨rfl, rfl⟩)
  go_ret
  exact ⟨rfl, rfl⟩

theorem turned_any (x : Int) (w : World) : Calls Tryz.prog 291 #[.int .u64 x] w fun e w' => e = .returned (.int .u64 (revI x)) ∧ w' = w := by
  go_enter Tryz.func291, Tryz.ntmps291
  go_wp2_with (go_at_call 321; refine (rev_any _ _).mono ?_; rintro e w' ⟨rfl, rfl⟩)
  go_ret
  exact ⟨rfl, rfl⟩

theorem along_any (l x t : Int) (h0 : 0 ≤ x) (h1 : x ≤ 63) (w : World) : Calls Tryz.prog 249 #[.int .u64 l, .int .i64 x, .int .u64 t] w fun e w' => e = .returned (.int .u64 (alongI l x t)) ∧ w' = w := by
  go_enter Tryz.func249, Tryz.ntmps249
  go_wp2_with (first | (go_at_call 139; refine (one_any _ h0 h1 _).mono ?_; rintro e w' ⟨rfl, rfl⟩) | (go_at_call 291; refine (turned_any _ _).mono ?_; rintro e w' ⟨rfl, rfl⟩))
  go_ret
  exact ⟨rfl, rfl⟩

theorem knight_any (x : Int) (w : World) : Calls Tryz.prog 188 #[.int .u64 x] w fun e w' => e = .returned (.int .u64 (knightI x)) ∧ w' = w := by
  go_enter Tryz.func188, Tryz.ntmps188
  go_wp2_with (first | (go_at_call 185; refine (left_any _ _).mono ?_; rintro e w' ⟨rfl, rfl⟩) | (go_at_call 186; refine (right_any _ _).mono ?_; rintro e w' ⟨rfl, rfl⟩) | (go_at_call 187; refine (up_any _ _ _ (by decide) (by decide)).mono ?_; rintro e w' ⟨rfl, rfl⟩))
  go_ret
  exact ⟨rfl, rfl⟩

theorem king_any (x : Int) (w : World) : Calls Tryz.prog 191 #[.int .u64 x] w fun e w' => e = .returned (.int .u64 (kingI x)) ∧ w' = w := by
  go_enter Tryz.func191, Tryz.ntmps191
  go_wp2_with (first | (go_at_call 185; refine (left_any _ _).mono ?_; rintro e w' ⟨rfl, rfl⟩) | (go_at_call 186; refine (right_any _ _).mono ?_; rintro e w' ⟨rfl, rfl⟩) | (go_at_call 187; refine (up_any _ _ _ (by decide) (by decide)).mono ?_; rintro e w' ⟨rfl, rfl⟩))
  go_ret
  exact ⟨rfl, rfl⟩

theorem straight_any (x t : Int) (h0 : 0 ≤ x) (h1 : x ≤ 63) (w : World) : Calls Tryz.prog 190 #[.int .i64 x, .int .u64 t] w fun e w' => e = .returned (.int .u64 (straightI x t)) ∧ w' = w := by
  go_enter Tryz.func190, Tryz.ntmps190
  go_wp2_with (first | (go_at_call 249; refine (along_any _ _ _ h0 h1 _).mono ?_; rintro e w' ⟨rfl, rfl⟩) | (go_at_call 187; refine (up_any _ _ _ (by omega) (by omega)).mono ?_; rintro e w' ⟨rfl, rfl⟩))
  go_ret
  exact ⟨rfl, rfl⟩

theorem slant_any (x t : Int) (h0 : 0 ≤ x) (h1 : x ≤ 63) (w : World) : Calls Tryz.prog 189 #[.int .i64 x, .int .u64 t] w fun e w' => e = .returned (.int .u64 (slantI x t)) ∧ w' = w := by
  go_enter Tryz.func189, Tryz.ntmps189
  go_wp2_with (first | (go_at_call 249; refine (along_any _ _ _ h0 h1 _).mono ?_; rintro e w' ⟨rfl, rfl⟩) | (go_at_call 187; refine (up_any _ _ _ (by omega) (by omega)).mono ?_; rintro e w' ⟨rfl, rfl⟩))
  go_ret
  exact ⟨rfl, rfl⟩

theorem reach9_any (k x t : Int) (k0 : 1 ≤ k) (k1 : k ≤ 7) (h0 : 0 ≤ x) (h1 : x ≤ 63) (w : World) : Calls Tryz.prog 116 #[.int .i64 k, .int .i64 x, .int .u64 t] w fun e w' => e = .returned (.int .u64 (reachI k x t)) ∧ w' = w := by
  have hk : k = 1 ∨ k = 2 ∨ k = 3 ∨ k = 4 ∨ k = 5 ∨ k = 6 ∨ k = 7 := by omega
  rcases hk with rfl | rfl | rfl | rfl | rfl | rfl | rfl
  all_goals
    go_enter Tryz.func116, Tryz.ntmps116
    go_wp2_with (first | (go_at_call 139; refine (one_any _ h0 h1 _).mono ?_; rintro e w' ⟨rfl, rfl⟩) | (go_at_call 185; refine (left_any _ _).mono ?_; rintro e w' ⟨rfl, rfl⟩) | (go_at_call 186; refine (right_any _ _).mono ?_; rintro e w' ⟨rfl, rfl⟩) | (go_at_call 187; refine (up_any _ _ _ (by decide) (by decide)).mono ?_; rintro e w' ⟨rfl, rfl⟩) | (go_at_call 188; refine (knight_any _ _).mono ?_; rintro e w' ⟨rfl, rfl⟩) | (go_at_call 191; refine (king_any _ _).mono ?_; rintro e w' ⟨rfl, rfl⟩) | (go_at_call 190; refine (straight_any _ _ h0 h1 _).mono ?_; rintro e w' ⟨rfl, rfl⟩) | (go_at_call 189; refine (slant_any _ _ h0 h1 _).mono ?_; rintro e w' ⟨rfl, rfl⟩))
    go_ret
    exact ⟨rfl, rfl⟩


end Go.Proofs.YtnfakamfmkhlbaaGreatDoor.C
