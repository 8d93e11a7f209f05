import Derived.Test.YtnfakamfmkhlbabDoorMw6
namespace Go.Proofs.YtnfakamfmkhlbabDoor.C
open Go.ChangeShapes Go.WideShapes Go.ChangeAt Go.RowKit Go.Shelf
open Go.Proofs.YtnfakamfmkhlbabDoor.P

/-- what the calls ask of the world. -/
structure Cx (w : World) : Prop where
  lt : 0 < w.heap.size
  tab : BTab w
theorem Cx.gr {w w' : World} (h : Cx w) (g : Gr w w') : Cx w' := ⟨Nat.lt_of_lt_of_le h.lt (Below.size g), h.tab.gr g⟩

theorem magic_yes (k x : Nat) (hk : k = 4 ∨ k = 5) (hx : x < 64) (f : BitVec 64) (b : Nat) (hb1 : 1 ≤ b) (hb2 : b ≤ 12) (w : World) (hc : Cx w) :
    Calls Tryd.prog 5 #[.int .i64 (k : Int), .int .i64 (x : Int), .int .u64 (U f), .int .i64 (b : Int)] w fun e w' => e = .returned (.tuple #[.bool (fits (vws k x) f b), .int .i64 0]) ∧ Gr w w' := by
  have hk' : (k : Int) = 4 ∨ (k : Int) = 5 := by omega
  have his := hide (is_any k x hk hx f b hb1 hb2 w hc.lt hc.tab)
  generalize fits (vws k x) f b = q at his ⊢
  go_enter Tryd.func5, Tryd.ntmps5
  go_wp2_with (first
    | (go_at_call 12; refine (slider_yes _ hk' _).mono ?_; rintro e w' ⟨rfl, rfl⟩)
    | (go_at_call 13; refine (isq_yes _ (by omega) (by omega) _).mono ?_; rintro e w' ⟨rfl, rfl⟩)
    | (go_at_call 14; refine (unhide his).mono ?_; rintro e w1 ⟨rfl, hg1⟩))
  go_ret2
  exact ⟨rfl, hg1⟩

/-- what rook.Find answers. -/
def FindEnd3 (k x : Nat) (s : BitVec 64) (n : Nat) (e : Ending) : Prop :=
  ∃ F K, FindEnd k x s n (.returned (.tuple #[.int .u64 F, .int .i64 K])) ∧ e = .returned (.tuple #[.int .u64 F, .int .i64 K, .int .i64 0])
theorem find_form {k x : Nat} {s : BitVec 64} {n : Nat} {e : Ending} (h : FindEnd k x s n e) : ∃ F K, e = .returned (.tuple #[.int .u64 F, .int .i64 K]) := by
  rcases h with ⟨m, _, _, _, _, rfl⟩ | ⟨_, rfl⟩
  · exact ⟨_, _, rfl⟩
  · exact ⟨_, _, rfl⟩
theorem findr_yes (k x : Nat) (hk : k = 4 ∨ k = 5) (hx : x < 64) (s : BitVec 64) (n : Nat) (hn : n ≤ 10000) (w : World) (hc : Cx w) :
    Calls Tryd.prog 7 #[.int .i64 (k : Int), .int .i64 (x : Int), .int .u64 (U s), .int .i64 (n : Int)] w fun e w' => FindEnd3 k x s n e ∧ Gr w w' := by
  have hk' : (k : Int) = 4 ∨ (k : Int) = 5 := by omega
  have hfi : Hid (Calls Tryd.prog 16 #[.int .i64 (k : Int), .int .i64 (x : Int), .int .u64 (U s), .int .i64 (n : Int)] w fun e w' => ∃ F K, e = .returned (.tuple #[.int .u64 F, .int .i64 K]) ∧ FindEnd3 k x s n (.returned (.tuple #[.int .u64 F, .int .i64 K, .int .i64 0])) ∧ Gr w w') := hide ((find_any k x hk hx s n hn w hc.lt hc.tab).mono fun e w' h => by
    obtain ⟨F, K, rfl⟩ := find_form h.1
    exact ⟨F, K, rfl, ⟨F, K, h.1, rfl⟩, h.2⟩)
  go_enter Tryd.func7, Tryd.ntmps7
  go_wp2_with (first
    | (go_at_call 12; refine (slider_yes _ hk' _).mono ?_; rintro e w' ⟨rfl, rfl⟩)
    | (go_at_call 13; refine (isq_yes _ (by omega) (by omega) _).mono ?_; rintro e w' ⟨rfl, rfl⟩)
    | (go_at_call 16; refine (unhide hfi).mono ?_; rintro e w1 ⟨F, K, rfl, hen, hg1⟩))
  exact bodyPost_ret (v := .tuple #[.int .u64 F, .int .i64 K, .int .i64 0]) (by simp [results, Tryd.results7, go_sem]) rfl ⟨hen, hg1⟩

theorem reach_U2 (k x : Nat) (hk : k = 4 ∨ k = 5) (hx : x < 64) (t : BitVec 64) (w : World) : Calls Tryd.prog 11 #[.int .i64 (k : Int), .int .i64 (x : Int), .int .u64 (U t)] w fun e w' => e = .returned (.tuple #[.int .u64 (U (reachB k x t)), .int .i64 0]) ∧ w' = w := by
  rw [← reach_U k x (by omega) (by omega) hx t]
  exact reach_yes _ _ _ (by omega) (by omega) (by omega) (by omega) w

theorem pow_wrap (j : Nat) (hj : j < 64) : IntKind.u64.wrap (2 ^ j) = U (1#64 <<< j) := by
  have := one_U j hj
  unfold oneI at this
  rw [← this, Int.toNat_natCast]

set_option maxRecDepth 100000 in
set_option maxHeartbeats 4000000 in
theorem matters_any (k x : Nat) (hk : k = 4 ∨ k = 5) (hx : x < 64) (w : World) : Calls Tryd.prog 10 #[.int .i64 (k : Int), .int .i64 (x : Int)] w fun e w' => e = .returned (.tuple #[.int .u64 (U (mtr k x)), .int .i64 ((sqs (mtr k x)).length : Int)]) ∧ w' = w := by
  have hr0 : Hid (∀ W : World, Calls Tryd.prog 11 #[.int .i64 (k : Int), .int .i64 (x : Int), .int .u64 0] W fun e w' => e = .returned (.tuple #[.int .u64 (U (reachB k x 0#64)), .int .i64 0]) ∧ w' = W) := hide (fun W => by rw [U_zero]; exact reach_U2 k x hk hx 0#64 W)
  go_enter Tryd.func10, Tryd.ntmps10
  go_wp2_with (go_at_call 11; refine (unhide hr0 _).mono ?_; rintro e w' ⟨rfl, hww⟩; have hww' := hww.symm; subst hww'; clear hww)
  go_loopg [8, 9, 10] 64 (fun gm al bi nn wr => ∃ j : Nat, j + gm = 64 ∧ nn = .int .i64 (j : Int) ∧ al = .int .u64 (U (mtrA k x (List.range j))) ∧ bi = .int .i64 (nHides k x j : Int) ∧ wr = w)
  case atStart => exact ⟨0, by omega, rfl, by rw [show mtrA k x (List.range 0) = 0#64 from rfl, ← U_zero], rfl, rfl⟩
  case round =>
    obtain ⟨j, j1, rfl, rfl, rfl, rfl⟩ := hrel
    by_cases hlt : j < 64
    · have hrj : Hid (∀ W : World, Calls Tryd.prog 11 #[.int .i64 (k : Int), .int .i64 (x : Int), .int .u64 (U (1#64 <<< j))] W fun e w' => e = .returned (.tuple #[.int .u64 (U (reachB k x (1#64 <<< j))), .int .i64 0]) ∧ w' = W) := hide (fun W => reach_U2 k x hk hx _ W)
      have hpw := pow_wrap j hlt
      have hnh : nHides k x j ≤ 64 := by unfold nHides; have := List.length_filter_le (hides k x) (List.range j); simp at this; omega
      have hal := hide (mtrA_add k x (List.range j) j)
      have hbi := hide (nHides_s k x j)
      by_cases hh : hides k x j = true
      · have hne : (U (reachB k x (1#64 <<< j)) != U (reachB k x 0#64)) = true := U_ne (of_decide_eq_true hh)
        have e1 : bits .or .u64 (U (mtrA k x (List.range j))) (U (1#64 <<< j)) = U (mtrA k x (List.range j) ||| 1#64 <<< j) := or_U _ _
        go_wp2_with (go_at_call 11; refine (unhide hrj _).mono ?_; rintro e w' ⟨rfl, rfl⟩)
        go_roundg (gk - 1)
        case measure => omega
        case rel => exact ⟨j + 1, by omega, rfl, by rw [List.range_succ, unhide hal, if_pos hh], by rw [unhide hbi, if_pos hh]; rfl, rfl⟩
      · have hne : (U (reachB k x (1#64 <<< j)) != U (reachB k x 0#64)) = false := by
          have : reachB k x (1#64 <<< j) = reachB k x 0#64 := Classical.byContradiction fun h => hh (decide_eq_true h)
          rw [this]; simp
        go_wp2_with (go_at_call 11; refine (unhide hrj _).mono ?_; rintro e w' ⟨rfl, rfl⟩)
        go_roundg (gk - 1)
        case measure => omega
        case rel => exact ⟨j + 1, by omega, rfl, by rw [List.range_succ, unhide hal, if_neg hh], by rw [unhide hbi, if_neg hh], rfl⟩
    · have ej : j = 64 := by omega
      subst ej
      rw [mtr_all k x hk hx, nHides_is k x hk hx]
      go_wp2
      go_ret2
      exact ⟨rfl, rfl⟩

end Go.Proofs.YtnfakamfmkhlbabDoor.C
