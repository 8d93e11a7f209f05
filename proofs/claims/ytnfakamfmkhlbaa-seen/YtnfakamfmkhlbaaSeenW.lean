import Derived.Test.YtnfakamfmkhlbaaSets
import Derived.Test.YtnfakamfmkhlbaaLines
import Derived.LoopTactic
import Derived.Below
namespace Go.Proofs.Ytnfakamfmkhlbaa.C
open Go.ChangeShapes Go.WideShapes Go.ChangeAt Go.RowKit
open Go.Proofs.Ytnfakamfmkhlbaa.P

theorem on_any (s y : Int) (h0 : 0 ≤ y) (h1 : y ≤ 63) (w : World) : Calls Try.prog 8 #[.int .u64 s, .int .i64 y] w fun e w' => e = .returned (.bool (onI s y)) ∧ w' = w := by
  go_enter Try.func8, Try.ntmps8
  go_wp2
  go_ret
  exact ⟨rfl, rfl⟩

theorem seen_kind (n x y : Nat) (h1 : 3 ≤ n) (h2 : n ≤ 7) (hx : x < 64) (hy : y < 64) (t : BitVec 64) :
    ∃ b : Bool, onI (reachI (n : Int) (x : Int) (U t)) (y : Int) = b ∧ onI (reachI (n : Int) (y : Int) (U t)) (x : Int) = b ∧ onI (reachI (n : Int) (x : Int) (U t)) (x : Int) = false := by
  refine ⟨(reachB n x t).getLsbD y, ?_, ?_, ?_⟩
  · rw [reach_U n x (by omega) h2 hx, on_U]
  · rw [reach_U n y (by omega) h2 hy, on_U, reach_sym n x y h1 h2 hx hy]
  · rw [reach_U n x (by omega) h2 hx, on_U, reach_own n x h1 h2 hx]

theorem seen_rest (x y : Nat) (hx : x < 64) (hy : y < 64) (t u : BitVec 64) :
    (∃ b : Bool, onI (reachI 1 (x : Int) (U t)) (y : Int) = b ∧ onI (reachI 2 (y : Int) (U t)) (x : Int) = b)
    ∧ (reachI 6 (x : Int) (U t) == bits .or .u64 (reachI 5 (x : Int) (U t)) (reachI 4 (x : Int) (U t))) = true
    ∧ (bits .andNot .u64 (reachI 7 (x : Int) (U t)) (reachI 6 (x : Int) (U t)) == 0) = true
    ∧ (bits .andNot .u64 (reachI 6 (x : Int) (bits .or .u64 (U t) (U u))) (reachI 6 (x : Int) (U t)) == 0) = true
    ∧ (bits .andNot .u64 (reachI 6 (x : Int) (U t)) (reachI 6 (x : Int) 0) == 0) = true
    ∧ (reachI 6 (x : Int) 0 != 0) = true := by
  have r1 := reach_U 1 x (by omega) (by omega) hx t
  have r2 := reach_U 2 y (by omega) (by omega) hy t
  have r4 := reach_U 4 x (by omega) (by omega) hx t
  have r5 := reach_U 5 x (by omega) (by omega) hx t
  have r6 := reach_U 6 x (by omega) (by omega) hx t
  have r7 := reach_U 7 x (by omega) (by omega) hx t
  have r8 := reach_U 6 x (by omega) (by omega) hx (t ||| u)
  have r9 := reach_U 6 x (by omega) (by omega) hx 0#64
  rw [← U_zero] at r9
  refine ⟨⟨(reachB 1 x t).getLsbD y, ?_, ?_⟩, ?_, ?_, ?_, ?_, ?_⟩
  · rw [show (1 : Int) = ((1 : Nat) : Int) from rfl, r1, on_U]
  · rw [show (2 : Int) = ((2 : Nat) : Int) from rfl, r2, on_U]; exact (pawn_sym x hx y hy).symm
  · rw [show (6 : Int) = ((6 : Nat) : Int) from rfl, r6, show (5 : Int) = ((5 : Nat) : Int) from rfl, r5, show (4 : Int) = ((4 : Nat) : Int) from rfl, r4, or_U, beq_iff_eq]
    congr 1
    show slantB x t ||| straightB x t = straightB x t ||| slantB x t
    rw [BitVec.or_comm]
  · rw [show (7 : Int) = ((7 : Nat) : Int) from rfl, r7, show (6 : Int) = ((6 : Nat) : Int) from rfl, r6, andNot_U, king_queen x hx]; decide +kernel
  · rw [or_U, show (6 : Int) = ((6 : Nat) : Int) from rfl, r6, r8, andNot_U, queen_less x hx t (t ||| u) (fun z h => by rw [BitVec.getLsbD_or, h]; rfl)]; decide +kernel
  · rw [show (6 : Int) = ((6 : Nat) : Int) from rfl, r6, r9, andNot_U, queen_less x hx 0#64 t (fun z h => by simp at h)]; decide +kernel
  · rw [show (6 : Int) = ((6 : Nat) : Int) from rfl, r9, bne_iff_ne]
    intro h
    exact queen_some x hx (U_inj (h.trans U_zero))

set_option maxRecDepth 100000 in
set_option maxHeartbeats 1000000 in
theorem seen_any (a b : Int) (t u : BitVec 64) (w : World) :
    Calls Try.prog 4 #[.int .i64 a, .int .i64 b, .int .u64 (U t), .int .u64 (U u)] w fun e w' => e = .returned (.bool true) ∧ w' = w := by
  obtain ⟨x, hx, ex⟩ := low_six a
  obtain ⟨y, hy, ey⟩ := low_six b
  have x1 := xor_1 x hx
  have x9 := xor_9 x hx
  have l1 := xor_1_lt x hx
  have l9 := xor_9_lt x hx
  have f1 : onI (reachI 5 (x : Int) 0) ((x ^^^ 1 : Nat) : Int) = true := by
    have := reach_U 5 x (by omega) (by omega) hx 0#64
    rw [← U_zero] at this
    rw [show (5 : Int) = ((5 : Nat) : Int) from rfl, this, on_U]; exact rook_near x hx
  have f9 : onI (reachI 5 (x : Int) 0) ((x ^^^ 9 : Nat) : Int) = false := by
    have := reach_U 5 x (by omega) (by omega) hx 0#64
    rw [← U_zero] at this
    rw [show (5 : Int) = ((5 : Nat) : Int) from rfl, this, on_U]; exact rook_far x hx
  generalize e1 : ((x ^^^ 1 : Nat) : Int) = xa at x1 f1
  generalize e9 : ((x ^^^ 9 : Nat) : Int) = xb at x9 f9
  have b1 : 0 ≤ xa := by omega
  have b2 : xa ≤ 63 := by omega
  have b3 : 0 ≤ xb := by omega
  have b4 : xb ≤ 63 := by omega
  clear e1 e9
  go_enter Try.func4, Try.ntmps4
  go_wp2_with (first | (go_at_call 5; refine (reach_yes _ _ _ (by omega) (by omega) (by omega) (by omega) _).mono ?_; rintro e w' ⟨rfl, rfl⟩) | (go_at_call 8; refine (on_any _ _ (by omega) (by omega) _).mono ?_; rintro e w' ⟨rfl, rfl⟩))
  go_loop [13] (fun k => ∃ n : Nat, 3 ≤ n ∧ n ≤ 8 ∧ k = .int .i64 n) (fun k => 8 - (intOf k).toNat)
  case atStart => exact ⟨3, by omega, by omega, rfl⟩
  case round =>
    obtain ⟨n, hn1, hn2, rfl⟩ := hrel
    by_cases hlt : n ≤ 7
    · obtain ⟨bb, g1, g2, g3⟩ := seen_kind n x y hn1 hlt hx hy t
      go_wp2_with (first | (go_at_call 5; refine (reach_yes _ _ _ (by omega) (by omega) (by omega) (by omega) _).mono ?_; rintro e w' ⟨rfl, rfl⟩) | (go_at_call 8; refine (on_any _ _ (by omega) (by omega) _).mono ?_; rintro e w' ⟨rfl, rfl⟩))
      go_round
      case rel => exact ⟨n + 1, by omega, by omega, by go_num⟩
      case measure => simp [intOf]; omega
    · obtain ⟨⟨bb, c0, c1⟩, c2, c3, c4, c5, c6⟩ := seen_rest x y hx hy t u
      go_wp2_with (first | (go_at_call 5; refine (reach_yes _ _ _ (by omega) (by omega) (by omega) (by omega) _).mono ?_; rintro e w' ⟨rfl, rfl⟩) | (go_at_call 8; refine (on_any _ _ (by omega) (by omega) _).mono ?_; rintro e w' ⟨rfl, rfl⟩))
      go_ret
      exact ⟨rfl, rfl⟩

end Go.Proofs.Ytnfakamfmkhlbaa.C
