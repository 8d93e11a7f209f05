import Derived.Test.YtnfakamfmkhlbaaRef
namespace Go.Proofs.Ytnfakamfmkhlbaa.C
open Go.ChangeShapes Go.WideShapes Go.ChangeAt Go.RowKit
open Go.Proofs.Ytnfakamfmkhlbaa.P

theorem attacks_any (A : Array Value) (f : Nat → Int) (hA : ∀ i, i < 64 → A[i]? = some (.int .u8 (f i))) (hs : A.size = 64) (k : Nat) (hk : k ≤ 5) (s : Int) (x y : Int) (h0 : 0 ≤ x) (h1 : x ≤ 63) (h2 : 0 ≤ y) (h3 : y ≤ 63) (w : World) :
    Calls Try.prog 11 #[.agg A, .int .i64 k, .int .i64 s, .int .i64 x, .int .i64 y] w fun e w' => e = .returned (.bool (attI f k s x y)) ∧ Gr w w' := by
  have : k = 0 ∨ k = 1 ∨ k = 2 ∨ k = 3 ∨ k = 4 ∨ k = 5 := by omega
  rcases this with rfl | rfl | rfl | rfl | rfl | rfl
  · exact attacks_0 A f hA hs s x y h0 h1 h2 h3 w
  · exact attacks_1 A f hA hs s x y h0 h1 h2 h3 w
  · exact attacks_2 A f hA hs s x y h0 h1 h2 h3 w
  · exact attacks_3 A f hA hs s x y h0 h1 h2 h3 w
  · exact attacks_4 A f hA hs s x y h0 h1 h2 h3 w
  · exact attacks_5 A f hA hs s x y h0 h1 h2 h3 w

theorem at_set (A : Array Value) (hs : A.size = 64) (t : BitVec 64) (i : Nat) (hi : i < 64) (v : Value) (hv : v = .int .u8 (fT t i)) (h : ∀ j, j < i → A[j]? = some (.int .u8 (fT t j))) :
    ∀ j, j < i + 1 → (A.setIfInBounds i v)[j]? = some (.int .u8 (fT t j)) := by
  intro j hj
  rw [Array.getElem?_setIfInBounds]
  by_cases e : i = j
  · subst e; rw [if_pos rfl, if_pos (by omega), hv]
  · rw [if_neg e]; exact h j (by omega)

theorem attacks_at (A : Array Value) (f : Nat → Int) (hA : ∀ i, i < 64 → A[i]? = some (.int .u8 (f i))) (hs : A.size = 64) (c : Int) (k : Nat) (hc : c = (k : Int)) (hk : k ≤ 5) (s : Int) (x y : Int) (h0 : 0 ≤ x) (h1 : x ≤ 63) (h2 : 0 ≤ y) (h3 : y ≤ 63) (w : World) :
    Calls Try.prog 11 #[.agg A, .int .i64 c, .int .i64 s, .int .i64 x, .int .i64 y] w fun e w' => e = .returned (.bool (attI f k s x y)) ∧ Gr w w' := by
  subst hc
  exact attacks_any A f hA hs k hk s x y h0 h1 h2 h3 w

set_option maxRecDepth 100000 in
set_option maxHeartbeats 2000000 in
theorem rreach_yes (k : Nat) (x : Int) (t : BitVec 64) (k0 : 1 ≤ k) (k1 : k ≤ 7) (h0 : 0 ≤ x) (h1 : x ≤ 63) (w : World) :
    Calls Try.prog 6 #[.int .i64 k, .int .i64 x, .int .u64 (U t)] w fun e w' => e = .returned (.tuple #[.int .u64 (U (refB k x t)), .int .i64 0]) ∧ Gr w w' := by
  go_enter Try.func6, Try.ntmps6
  go_wp2
  go_loopg [2, 9] 64 (fun g tt n wr => ∃ i : Nat, i + g = 64 ∧ tt = .int .u64 (U (t >>> i)) ∧ n = .int .i64 i ∧ ∃ A : Array Value, wr = w.alloc (Obj.cells A 35) ∧ A.size = 64 ∧ ∀ j, j < i → A[j]? = some (.int .u8 (fT t j)))
  case atStart => exact ⟨0, rfl, by simp, rfl, _, rfl, rfl, fun j h => by omega⟩
  case round =>
    obtain ⟨i, i1, rfl, rfl, A, rfl, hs, hA0⟩ := hrel
    have hA := hide hA0
    clear hA0
    by_cases hlt : i < 64
    · have hcell : (w.alloc (Obj.cells A 35)).cell? ⟨w.heap.size, i, none⟩ = some (A[i]'(by omega)) := by
        rw [cell_of_row _ _ _ _ _ _ (heap_alloc_new _ _)]; exact Array.getElem?_eq_getElem _
      have hub := U_nonneg (t >>> i)
      have hod := odd_U t i
      generalize hb : t.getLsbD i = b at hod
      have hb' := hide hb
      clear hb
      cases b
      all_goals
        go_wp2
        go_roundg (gk - 1)
        case measure => omega
        case rel =>
          refine ⟨i + 1, by omega, by rw [half_U], by go_num, _, rfl, by simpa using hs, ?_⟩
          refine at_set A hs t i hlt _ ?_ (unhide hA)
          unfold fT
          rw [unhide hb']
          rfl
    · have ei : i = 64 := by omega
      subst ei
      by_cases hk2 : k ≤ 2
      · go_wp2
        go_loopg [10, 11] 64 (fun g out n wr => ∃ j : Nat, j + g = 64 ∧ out = .int .u64 (accN (refAtt k x t) j) ∧ n = .int .i64 (63 - (j : Int)) ∧ Gr (w.alloc (Obj.cells A 35)) wr)
        case atStart => exact ⟨0, rfl, rfl, rfl, Gr.refl _⟩
        case round =>
          obtain ⟨j, j1, rfl, rfl, hg⟩ := hrel
          have hblk : wr.heap[w.heap.size]? = some (Obj.cells A 35) := by
            rw [hg.1.block _ (by simp)]; exact heap_alloc_new _ _
          by_cases hlt : j < 64
          · have hat : attI (fT t) 0 (3 - 2 * (k : Int)) x (63 - (j : Int)) = refAtt k x t (63 - j) := by
              unfold refAtt kR sR; rw [if_pos hk2, if_pos hk2, show ((63 - j : Nat) : Int) = 63 - (j : Int) from by omega]
            have hst := hide (acc_step (refAtt k x t) j hlt)
            generalize refAtt k x t (63 - j) = b at hat hst
            cases b
            all_goals
              go_wp2_with (first | (refine wpList_load_row rfl 35 _ rfl w.heap.size rfl 35 A (0, 0) _ hblk Try.underlying35 rfl (by rw [hs]; exact info64) ?_) | (go_at_call 11; refine (attacks_at A (fT t) (unhide hA) hs _ 0 rfl (by omega) _ _ _ h0 h1 (by omega) (by omega) _).mono ?_; rintro e w' ⟨rfl, hg2⟩))
              go_roundg (gk - 1)
              case measure => omega
              case rel =>
                refine ⟨j + 1, by omega, ?_, by go_num, hg.trans hg2⟩
                have := unhide hst _ rfl
                first | (rw [if_pos rfl] at this; rw [this]) | (rw [if_neg (by decide)] at this; rw [this])
          · have ej : j = 64 := by omega
            subst ej
            go_wp2
            go_ret2
            exact ⟨by rw [refB_U]; rfl, ((Gr.refl _).alloc _ _).trans hg⟩
      · go_wp2
        go_loopg [10, 11] 64 (fun g out n wr => ∃ j : Nat, j + g = 64 ∧ out = .int .u64 (accN (refAtt k x t) j) ∧ n = .int .i64 (63 - (j : Int)) ∧ Gr (w.alloc (Obj.cells A 35)) wr)
        case atStart => exact ⟨0, rfl, rfl, rfl, Gr.refl _⟩
        case round =>
          obtain ⟨j, j1, rfl, rfl, hg⟩ := hrel
          have hblk : wr.heap[w.heap.size]? = some (Obj.cells A 35) := by
            rw [hg.1.block _ (by simp)]; exact heap_alloc_new _ _
          by_cases hlt : j < 64
          · have hat : attI (fT t) (k - 2) 1 x (63 - (j : Int)) = refAtt k x t (63 - j) := by
              unfold refAtt kR sR; rw [if_neg hk2, if_neg hk2, show ((63 - j : Nat) : Int) = 63 - (j : Int) from by omega]
            have hst := hide (acc_step (refAtt k x t) j hlt)
            generalize refAtt k x t (63 - j) = b at hat hst
            cases b
            all_goals
              go_wp2_with (first | (refine wpList_load_row rfl 35 _ rfl w.heap.size rfl 35 A (0, 0) _ hblk Try.underlying35 rfl (by rw [hs]; exact info64) ?_) | (go_at_call 11; refine (attacks_at A (fT t) (unhide hA) hs _ (k - 2) (by omega) (by omega) _ _ _ h0 h1 (by omega) (by omega) _).mono ?_; rintro e w' ⟨rfl, hg2⟩))
              go_roundg (gk - 1)
              case measure => omega
              case rel =>
                refine ⟨j + 1, by omega, ?_, by go_num, hg.trans hg2⟩
                have := unhide hst _ rfl
                first | (rw [if_pos rfl] at this; rw [this]) | (rw [if_neg (by decide)] at this; rw [this])
          · have ej : j = 64 := by omega
            subst ej
            go_wp2
            go_ret2
            exact ⟨by rw [refB_U]; rfl, ((Gr.refl _).alloc _ _).trans hg⟩

end Go.Proofs.Ytnfakamfmkhlbaa.C
