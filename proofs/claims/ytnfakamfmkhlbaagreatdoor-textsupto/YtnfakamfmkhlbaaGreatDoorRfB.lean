import Derived.Test.YtnfakamfmkhlbaaGreatDoorRfA
import Derived.Test.YtnfakamfmkhlbaaGreatDoorRDef
namespace Go.Proofs.YtnfakamfmkhlbaaGreatDoor.C
open Go.ChangeShapes Go.WideShapes Go.ChangeAt Go.RowKit
open Go.Proofs.YtnfakamfmkhlbaaGreatDoor.P

theorem place_let (c : UInt8) (w : World) : Calls Tryz.prog 118 #[.string ⟨#[80, 78, 66, 82, 81, 75, 112, 110, 98, 114, 113, 107]⟩, .int .u8 (c.toNat : Int)] w fun e w' => e = .returned (.int .i64 (ixc c)) ∧ w' = w :=
  place_any ⟨#[80, 78, 66, 82, 81, 75, 112, 110, 98, 114, 113, 107]⟩ (by decide) c w

set_option maxRecDepth 10000 in
theorem kind_any (c : UInt8) (w : World) : Calls Tryz.prog 86 #[.int .u8 (c.toNat : Int)] w fun e w' => e = .returned (.int .i64 (kdc c)) ∧ w' = w := by
  have hbd := ix_bd c
  have hp := hide (place_let c)
  have e : kdc c = if 6 ≤ ixc c then ixc c - 6 else ixc c := rfl
  rw [e]
  clear e
  generalize ixc c = x at hbd hp ⊢
  by_cases h : 6 ≤ x
  · rw [if_pos h]
    go_enter Tryz.func86, Tryz.ntmps86
    go_wp2_with (go_at_call 118; refine (unhide hp _).mono ?_; rintro e w' ⟨rfl, rfl⟩)
    go_ret
    exact ⟨rfl, rfl⟩
  · rw [if_neg h]
    go_enter Tryz.func86, Tryz.ntmps86
    go_wp2_with (go_at_call 118; refine (unhide hp _).mono ?_; rintro e w' ⟨rfl, rfl⟩)
    go_ret
    exact ⟨rfl, rfl⟩
set_option maxRecDepth 10000 in
theorem colour_any (c : UInt8) (w : World) : Calls Tryz.prog 87 #[.int .u8 (c.toNat : Int)] w fun e w' => e = .returned (.int .i64 (coc c)) ∧ w' = w := by
  have hbd := ix_bd c
  have hp := hide (place_let c)
  have e : coc c = if ixc c < 0 then 0 else if ixc c < 6 then 1 else -1 := rfl
  rw [e]
  clear e
  generalize ixc c = x at hbd hp ⊢
  by_cases h : x < 0
  · rw [if_pos h]
    go_enter Tryz.func87, Tryz.ntmps87
    go_wp2_with (go_at_call 118; refine (unhide hp _).mono ?_; rintro e w' ⟨rfl, rfl⟩)
    go_ret
    exact ⟨rfl, rfl⟩
  · rw [if_neg h]
    by_cases h6 : x < 6
    · rw [if_pos h6]
      go_enter Tryz.func87, Tryz.ntmps87
      go_wp2_with (go_at_call 118; refine (unhide hp _).mono ?_; rintro e w' ⟨rfl, rfl⟩)
      go_ret
      exact ⟨rfl, rfl⟩
    · rw [if_neg h6]
      go_enter Tryz.func87, Tryz.ntmps87
      go_wp2_with (go_at_call 118; refine (unhide hp _).mono ?_; rintro e w' ⟨rfl, rfl⟩)
      go_ret
      exact ⟨rfl, rfl⟩

def manL (k : Nat) (b : Bool) : UInt8 := lettersL.getD (if b then k else k + 6) 0
theorem man_0 (b : Bool) (w : World) : Calls Tryz.prog 89 #[.int .i64 0, .int .i64 (sdb b)] w fun e w' => e = .returned (.int .u8 ((manL 0 b).toNat : Int)) ∧ w' = w := by
  cases b
  · show Calls Tryz.prog 89 #[.int .i64 0, .int .i64 (-1)] w _
    go_enter Tryz.func89, Tryz.ntmps89
    go_wp2
    go_ret
    exact ⟨rfl, rfl⟩
  · show Calls Tryz.prog 89 #[.int .i64 0, .int .i64 1] w _
    go_enter Tryz.func89, Tryz.ntmps89
    go_wp2
    go_ret
    exact ⟨rfl, rfl⟩
theorem man_3 (b : Bool) (w : World) : Calls Tryz.prog 89 #[.int .i64 3, .int .i64 (sdb b)] w fun e w' => e = .returned (.int .u8 ((manL 3 b).toNat : Int)) ∧ w' = w := by
  cases b
  · show Calls Tryz.prog 89 #[.int .i64 3, .int .i64 (-1)] w _
    go_enter Tryz.func89, Tryz.ntmps89
    go_wp2
    go_ret
    exact ⟨rfl, rfl⟩
  · show Calls Tryz.prog 89 #[.int .i64 3, .int .i64 1] w _
    go_enter Tryz.func89, Tryz.ntmps89
    go_wp2
    go_ret
    exact ⟨rfl, rfl⟩
theorem man_5 (b : Bool) (w : World) : Calls Tryz.prog 89 #[.int .i64 5, .int .i64 (sdb b)] w fun e w' => e = .returned (.int .u8 ((manL 5 b).toNat : Int)) ∧ w' = w := by
  cases b
  · show Calls Tryz.prog 89 #[.int .i64 5, .int .i64 (-1)] w _
    go_enter Tryz.func89, Tryz.ntmps89
    go_wp2
    go_ret
    exact ⟨rfl, rfl⟩
  · show Calls Tryz.prog 89 #[.int .i64 5, .int .i64 1] w _
    go_enter Tryz.func89, Tryz.ntmps89
    go_wp2
    go_ret
    exact ⟨rfl, rfl⟩
theorem king_man (b : Bool) : manL 5 b = kingL b := by cases b <;> rfl

def homeK (i : Nat) : Int := if 2 ≤ i then 60 else 4
def homeT (i : Nat) : Int := (if 2 ≤ i then 56 else 0) + (if i % 2 = 0 then 6 else 2)
def homeR (i : Nat) : Int := (if 2 ≤ i then 56 else 0) + (if i % 2 = 0 then 7 else 0)
theorem home_any (i : Nat) (hi : i < 4) (w : World) : Calls Tryz.prog 88 #[.int .i64 (i : Int)] w fun e w' => e = .returned (.tuple #[.int .i64 (homeK i), .int .i64 (homeT i), .int .i64 (homeR i), .int .i64 (sdb (decide (i < 2)))]) ∧ w' = w := by
  have : i = 0 ∨ i = 1 ∨ i = 2 ∨ i = 3 := by omega
  rcases this with rfl | rfl | rfl | rfl
  · go_enter Tryz.func88, Tryz.ntmps88
    go_wp2
    exact bodyPost_ret (v := .tuple #[.int .i64 4, .int .i64 6, .int .i64 7, .int .i64 1]) (by simp [results, Tryz.results88, go_sem]) rfl ⟨rfl, rfl⟩
  · go_enter Tryz.func88, Tryz.ntmps88
    go_wp2
    exact bodyPost_ret (v := .tuple #[.int .i64 4, .int .i64 2, .int .i64 0, .int .i64 1]) (by simp [results, Tryz.results88, go_sem]) rfl ⟨rfl, rfl⟩
  · go_enter Tryz.func88, Tryz.ntmps88
    go_wp2
    exact bodyPost_ret (v := .tuple #[.int .i64 60, .int .i64 62, .int .i64 63, .int .i64 (-1)]) (by simp [results, Tryz.results88, go_sem]) rfl ⟨rfl, rfl⟩
  · go_enter Tryz.func88, Tryz.ntmps88
    go_wp2
    exact bodyPost_ret (v := .tuple #[.int .i64 60, .int .i64 58, .int .i64 56, .int .i64 (-1)]) (by simp [results, Tryz.results88, go_sem]) rfl ⟨rfl, rfl⟩

end Go.Proofs.YtnfakamfmkhlbaaGreatDoor.C
