import Derived.Test.YtnfakamfmkhlbaaGreatDoorRfB
import Derived.Test.YtnfakamfmkhlbaaGreatDoorNota5
import Derived.LoopTactic
import Derived.Deep.LoopGhost
import Derived.Below
import Derived.Laws.Rows
namespace Go.Proofs.YtnfakamfmkhlbaaGreatDoor.C
open Go.ChangeShapes Go.WideShapes Go.ChangeAt Go.RowKit
open Go.Proofs.YtnfakamfmkhlbaaGreatDoor.P

theorem sign_any (n : Int) (w : World) : Calls Tryz.prog 277 #[.int .i64 n] w fun e w' => e = .returned (.int .i64 (sg n)) ∧ w' = w := by
  rcases Int.lt_trichotomy n 0 with h | h | h
  · have h' : ¬ 0 < n := by omega
    have e : sg n = -1 := by unfold sg; rw [if_neg h', if_pos h]
    go_enter Tryz.func277, Tryz.ntmps277
    go_wp2
    go_ret
    first | exact ⟨rfl, rfl⟩ | exact ⟨ret_int e.symm, rfl⟩
  · subst h
    go_enter Tryz.func277, Tryz.ntmps277
    go_wp2
    go_ret
    exact ⟨rfl, rfl⟩
  · have e : sg n = 1 := by unfold sg; rw [if_pos h]
    have h' := h
    go_enter Tryz.func277, Tryz.ntmps277
    go_wp2
    go_ret
    first | exact ⟨rfl, rfl⟩ | exact ⟨ret_int e.symm, rfl⟩

theorem abs_any (n : Int) (b0 : -1000 ≤ n) (b1 : n ≤ 1000) (w : World) : Calls Tryz.prog 197 #[.int .i64 n] w fun e w' => e = .returned (.int .i64 (ab n)) ∧ w' = w := by
  by_cases h : n < 0
  · have e : ab n = -n := by unfold ab; rw [if_pos h]
    have h' := h
    go_enter Tryz.func197, Tryz.ntmps197
    go_wp2
    go_ret
    first | exact ⟨rfl, rfl⟩ | exact ⟨ret_int e.symm, rfl⟩
  · have e : ab n = n := by unfold ab; rw [if_neg h]
    have h' := h
    go_enter Tryz.func197, Tryz.ntmps197
    go_wp2
    go_ret
    first | exact ⟨rfl, rfl⟩ | exact ⟨ret_int e.symm, rfl⟩

set_option maxRecDepth 100000 in
set_option maxHeartbeats 1000000 in
theorem clear_any (A : Array Value) (f : Nat → Int) (hA : ∀ i, i < 64 → A[i]? = some (.int .u8 (f i))) (x y : Int) (h0 : 0 ≤ x) (h1 : x ≤ 63) (h2 : 0 ≤ y) (h3 : y ≤ 63)
    (p : Nat → Int) (L : Nat) (hL : 1 ≤ L) (p1 : p 1 = x + 8 * sg (y / 8 - x / 8) + sg (y % 8 - x % 8)) (ps : ∀ i, p (i + 1) = p i + 8 * sg (y / 8 - x / 8) + sg (y % 8 - x % 8)) (pL : p L = y)
    (pb : ∀ i, i ≤ L → 0 ≤ p i ∧ p i ≤ 63) (pn : ∀ i, 1 ≤ i → i < L → p i ≠ y) (w : World) :
    Calls Tryz.prog 230 #[.agg A, .int .i64 x, .int .i64 y] w fun e w' => e = .returned (.bool (freeI f p L)) ∧ Gr w w' := by
  have s1 := sg_bd (y / 8 - x / 8)
  have s2 := sg_bd (y % 8 - x % 8)
  generalize e1 : sg (y / 8 - x / 8) = dr at s1 p1 ps
  generalize e2 : sg (y % 8 - x % 8) = df at s2 p1 ps
  have hp1 := hide p1
  have hps := hide ps
  have hpL := hide pL
  have hpb := hide pb
  have hpn := hide pn
  have hAh := hide hA
  clear p1 ps pL pb pn hA
  go_enter Tryz.func230, Tryz.ntmps230
  go_wp2_with (go_at_call 277; refine (sign_any _ _).mono ?_; rintro e w' ⟨rfl, rfl⟩)
  go_loopg [9] (L - 1) (fun k n wr => ∃ i : Nat, 1 ≤ i ∧ i + k = L ∧ n = .int .i64 (p i) ∧ (∀ j, j < i → 1 ≤ j → f (p j).toNat = 46) ∧ wr = w.alloc (Obj.cells A 22))
  case atStart => exact ⟨1, Nat.le_refl _, by omega, by rw [unhide hp1], fun j h1 h2 => by omega, rfl⟩
  case round =>
    obtain ⟨i, i1, i2, rfl, hfree0, rfl⟩ := hrel
    have hfree := hide hfree0
    clear hfree0
    have bd := unhide hpb i (by omega)
    by_cases hlt : i < L
    · have hne : (p i == y) = false := by simpa using unhide hpn i i1 hlt
      have hcell : (w.alloc (Obj.cells A 22)).cell? ⟨w.heap.size, (p i).toNat, none⟩ = some (.int .u8 (f (p i).toNat)) := by
        rw [cell_of_row _ _ _ _ _ _ (heap_alloc_new _ _)]; exact unhide hAh _ (by omega)
      have hnx : Hid (p (i + 1) = p i + 8 * dr + df) := unhide hps i
      generalize ef : f (p i).toNat = c at hcell
      have ef' := hide ef
      clear ef
      generalize em : p i = m at hne hcell hnx bd
      have em' := hide em
      clear em
      by_cases hc : c = 46
      · have hc' := hide hc
        subst hc
        go_wp2
        go_roundg (gk - 1)
        case measure => omega
        case rel =>
          refine ⟨i + 1, by omega, by omega, by rw [unhide hnx], ?_, rfl⟩
          intro j h1 h2
          by_cases e : j = i
          · subst e; exact unhide ef'
          · exact unhide hfree j (by omega) h2
      · have hcb : (c == 46) = false := by simpa using hc
        go_wp2
        go_ret
        refine ⟨?_, (Gr.refl _).alloc _ _⟩
        have : freeI f p L = false := by
          unfold freeI
          rw [decide_eq_false_iff_not]
          intro h
          exact hc ((unhide ef').symm.trans (h i hlt i1))
        rw [this]; rfl
    · have e : i = L := by omega
      subst e
      have hy := unhide hpL
      rw [hy]
      go_wp2
      go_ret
      refine ⟨?_, (Gr.refl _).alloc _ _⟩
      have : freeI f p i = true := by
        unfold freeI
        rw [decide_eq_true_eq]
        exact unhide hfree
      rw [this]; rfl


set_option maxRecDepth 100000 in
set_option maxHeartbeats 2000000 in
theorem attacks_0 (A : Array Value) (f : Nat → Int) (hA : ∀ i, i < 64 → A[i]? = some (.int .u8 (f i))) (_hs : A.size = 64) (s : Int) (x y : Int) (h0 : 0 ≤ x) (h1 : x ≤ 63) (h2 : 0 ≤ y) (h3 : y ≤ 63) (w : World) :
    Calls Tryz.prog 156 #[.agg A, .int .i64 0, .int .i64 s, .int .i64 x, .int .i64 y] w fun e w' => e = .returned (.bool (attI f 0 s x y)) ∧ Gr w w' := by
  have hAh := hide hA
  clear hA
  have ba := ab_bd (y % 8 - x % 8) (by omega) (by omega)
  have br := ab_bd (y / 8 - x / 8) (by omega) (by omega)
  have e0 : attI f 0 s x y = ((ab (y % 8 - x % 8) == 1) && (y / 8 - x / 8 == s)) := rfl
  rw [e0]
  clear e0
  rcases Bool.eq_false_or_eq_true (ab (y % 8 - x % 8) == ab (y / 8 - x / 8)) with c1 | c1
  all_goals
    rcases Bool.eq_false_or_eq_true (ab (y % 8 - x % 8) == 1) with c2 | c2
    all_goals
      rw [c2]
      go_enter Tryz.func156, Tryz.ntmps156
      go_wp2_with ((go_at_call 197; refine (abs_any _ (by omega) (by omega) _).mono ?_; rintro e w' ⟨rfl, rfl⟩))
      go_ret
      exact ⟨rfl, (Gr.refl _).alloc _ _⟩

set_option maxRecDepth 100000 in
set_option maxHeartbeats 2000000 in
theorem attacks_1 (A : Array Value) (f : Nat → Int) (hA : ∀ i, i < 64 → A[i]? = some (.int .u8 (f i))) (_hs : A.size = 64) (s : Int) (x y : Int) (h0 : 0 ≤ x) (h1 : x ≤ 63) (h2 : 0 ≤ y) (h3 : y ≤ 63) (w : World) :
    Calls Tryz.prog 156 #[.agg A, .int .i64 1, .int .i64 s, .int .i64 x, .int .i64 y] w fun e w' => e = .returned (.bool (attI f 1 s x y)) ∧ Gr w w' := by
  have hAh := hide hA
  clear hA
  have ba := ab_bd (y % 8 - x % 8) (by omega) (by omega)
  have br := ab_bd (y / 8 - x / 8) (by omega) (by omega)
  have e0 : attI f 1 s x y = (ab (y % 8 - x % 8) * ab (y / 8 - x / 8) == 2) := rfl
  rw [e0]
  clear e0
  have hw := prod_wrap _ _ ba br
  rcases Bool.eq_false_or_eq_true (ab (y % 8 - x % 8) == ab (y / 8 - x / 8)) with c1 | c1
  all_goals
    go_enter Tryz.func156, Tryz.ntmps156
    go_wp2_with ((go_at_call 197; refine (abs_any _ (by omega) (by omega) _).mono ?_; rintro e w' ⟨rfl, rfl⟩))
    go_ret
    exact ⟨rfl, (Gr.refl _).alloc _ _⟩

set_option maxRecDepth 100000 in
set_option maxHeartbeats 2000000 in
theorem attacks_5 (A : Array Value) (f : Nat → Int) (hA : ∀ i, i < 64 → A[i]? = some (.int .u8 (f i))) (_hs : A.size = 64) (s : Int) (x y : Int) (h0 : 0 ≤ x) (h1 : x ≤ 63) (h2 : 0 ≤ y) (h3 : y ≤ 63) (w : World) :
    Calls Tryz.prog 156 #[.agg A, .int .i64 5, .int .i64 s, .int .i64 x, .int .i64 y] w fun e w' => e = .returned (.bool (attI f 5 s x y)) ∧ Gr w w' := by
  have hAh := hide hA
  clear hA
  have ba := ab_bd (y % 8 - x % 8) (by omega) (by omega)
  have br := ab_bd (y / 8 - x / 8) (by omega) (by omega)
  have e0 : attI f 5 s x y = (decide (ab (y % 8 - x % 8) ≤ 1) && decide (ab (y / 8 - x / 8) ≤ 1) && decide (0 < ab (y % 8 - x % 8) + ab (y / 8 - x / 8))) := rfl
  rw [e0]
  clear e0
  rcases Bool.eq_false_or_eq_true (ab (y % 8 - x % 8) == ab (y / 8 - x / 8)) with c1 | c1
  all_goals
    rcases Bool.eq_false_or_eq_true (decide (ab (y % 8 - x % 8) ≤ 1)) with c2 | c2
    all_goals
      rcases Bool.eq_false_or_eq_true (decide (ab (y / 8 - x / 8) ≤ 1)) with c3 | c3
      all_goals
        rw [c2, c3]
        go_enter Tryz.func156, Tryz.ntmps156
        go_wp2_with ((go_at_call 197; refine (abs_any _ (by omega) (by omega) _).mono ?_; rintro e w' ⟨rfl, rfl⟩))
        go_ret
        exact ⟨rfl, (Gr.refl _).alloc _ _⟩

set_option maxRecDepth 100000 in
set_option maxHeartbeats 2000000 in
theorem attacks_2 (A : Array Value) (f : Nat → Int) (hA : ∀ i, i < 64 → A[i]? = some (.int .u8 (f i))) (hs : A.size = 64) (s : Int) (x y : Int) (h0 : 0 ≤ x) (h1 : x ≤ 63) (h2 : 0 ≤ y) (h3 : y ≤ 63) (w : World) :
    Calls Tryz.prog 156 #[.agg A, .int .i64 2, .int .i64 s, .int .i64 x, .int .i64 y] w fun e w' => e = .returned (.bool (attI f 2 s x y)) ∧ Gr w w' := by
  have hAh := hide hA
  clear hA
  have ba := ab_bd (y % 8 - x % 8) (by omega) (by omega)
  have br := ab_bd (y / 8 - x / 8) (by omega) (by omega)
  have e0 : attI f 2 s x y = (slI x y && freeI f (pI x y) (LI x y)) := rfl
  have e1 : stI x y = ((y % 8 - x % 8 == 0) != (y / 8 - x / 8 == 0)) := rfl
  have e2 : slI x y = ((ab (y % 8 - x % 8) == ab (y / 8 - x / 8)) && decide (0 < ab (y % 8 - x % 8))) := rfl
  rw [e0]
  clear e0
  rcases classes (y % 8 - x % 8) (y / 8 - x / 8) with ⟨c1, c2, c3, c4⟩ | ⟨c1, c2, c3, c4⟩ | ⟨c1, c2, c3, c4⟩ | ⟨c1, c2, c3, c4⟩ | ⟨c1, c2, c3, c4⟩
  · rw [c3, c4] at e1; rw [c1, c2] at e2; try rw [e1]
    try rw [e2]
    clear e1 e2
    go_enter Tryz.func156, Tryz.ntmps156
    go_wp2_with ((go_at_call 197; refine (abs_any _ (by omega) (by omega) _).mono ?_; rintro e w' ⟨rfl, rfl⟩))
    go_ret
    exact ⟨rfl, (Gr.refl _).alloc _ _⟩
  · rw [c3, c4] at e1; rw [c1, c2] at e2; try rw [e1]
    try rw [e2]
    clear e1 e2
    go_enter Tryz.func156, Tryz.ntmps156
    go_wp2_with ((go_at_call 197; refine (abs_any _ (by omega) (by omega) _).mono ?_; rintro e w' ⟨rfl, rfl⟩))
    go_ret
    exact ⟨rfl, (Gr.refl _).alloc _ _⟩
  · rw [c3, c4] at e1; rw [c1, c2] at e2; try rw [e1]
    try rw [e2]
    clear e1 e2
    go_enter Tryz.func156, Tryz.ntmps156
    go_wp2_with ((go_at_call 197; refine (abs_any _ (by omega) (by omega) _).mono ?_; rintro e w' ⟨rfl, rfl⟩))
    go_ret
    exact ⟨rfl, (Gr.refl _).alloc _ _⟩
  · rw [c3, c4] at e1; rw [c1, c2] at e2; try rw [e1]
    try rw [e2]
    have hl : Hid (stI x y = true ∨ slI x y = true) := hide (by rw [e1, e2]; decide)
    clear e1 e2
    go_enter Tryz.func156, Tryz.ntmps156
    go_wp2_with (first | (go_at_call 197; refine (abs_any _ (by omega) (by omega) _).mono ?_; rintro e w' ⟨rfl, rfl⟩) | (refine wpList_load_row rfl 22 _ rfl w.heap.size rfl 22 A (0, 0) _ (heap_alloc_new _ _) Tryz.underlying22 rfl (by rw [hs]; exact info64) ?_) | (go_at_call 230; refine (clear_any A f (unhide hAh) x y h0 h1 h2 h3 (pI x y) (LI x y) (path_1 x y h0 h1 h2 h3 (unhide hl)) (path_p1 x y) (path_s x y) (path_L x y h0 h1 h2 h3 (unhide hl)) (path_b x y h0 h1 h2 h3 (unhide hl)) (path_n x y h0 h1 h2 h3 (unhide hl)) _).mono ?_; rintro e w' ⟨rfl, hg⟩))
    go_ret
    exact ⟨rfl, ((Gr.refl _).alloc _ _).trans hg⟩
  · rw [c3, c4] at e1; rw [c1, c2] at e2; try rw [e1]
    try rw [e2]
    clear e1 e2
    go_enter Tryz.func156, Tryz.ntmps156
    go_wp2_with ((go_at_call 197; refine (abs_any _ (by omega) (by omega) _).mono ?_; rintro e w' ⟨rfl, rfl⟩))
    go_ret
    exact ⟨rfl, (Gr.refl _).alloc _ _⟩

set_option maxRecDepth 100000 in
set_option maxHeartbeats 2000000 in
theorem attacks_3 (A : Array Value) (f : Nat → Int) (hA : ∀ i, i < 64 → A[i]? = some (.int .u8 (f i))) (hs : A.size = 64) (s : Int) (x y : Int) (h0 : 0 ≤ x) (h1 : x ≤ 63) (h2 : 0 ≤ y) (h3 : y ≤ 63) (w : World) :
    Calls Tryz.prog 156 #[.agg A, .int .i64 3, .int .i64 s, .int .i64 x, .int .i64 y] w fun e w' => e = .returned (.bool (attI f 3 s x y)) ∧ Gr w w' := by
  have hAh := hide hA
  clear hA
  have ba := ab_bd (y % 8 - x % 8) (by omega) (by omega)
  have br := ab_bd (y / 8 - x / 8) (by omega) (by omega)
  have e0 : attI f 3 s x y = (stI x y && freeI f (pI x y) (LI x y)) := rfl
  have e1 : stI x y = ((y % 8 - x % 8 == 0) != (y / 8 - x / 8 == 0)) := rfl
  have e2 : slI x y = ((ab (y % 8 - x % 8) == ab (y / 8 - x / 8)) && decide (0 < ab (y % 8 - x % 8))) := rfl
  rw [e0]
  clear e0
  rcases classes (y % 8 - x % 8) (y / 8 - x / 8) with ⟨c1, c2, c3, c4⟩ | ⟨c1, c2, c3, c4⟩ | ⟨c1, c2, c3, c4⟩ | ⟨c1, c2, c3, c4⟩ | ⟨c1, c2, c3, c4⟩
  · rw [c3, c4] at e1; rw [c1, c2] at e2; try rw [e1]
    try rw [e2]
    clear e1 e2
    go_enter Tryz.func156, Tryz.ntmps156
    go_wp2_with ((go_at_call 197; refine (abs_any _ (by omega) (by omega) _).mono ?_; rintro e w' ⟨rfl, rfl⟩))
    go_ret
    exact ⟨rfl, (Gr.refl _).alloc _ _⟩
  · rw [c3, c4] at e1; rw [c1, c2] at e2; try rw [e1]
    try rw [e2]
    have hl : Hid (stI x y = true ∨ slI x y = true) := hide (by rw [e1, e2]; decide)
    clear e1 e2
    go_enter Tryz.func156, Tryz.ntmps156
    go_wp2_with (first | (go_at_call 197; refine (abs_any _ (by omega) (by omega) _).mono ?_; rintro e w' ⟨rfl, rfl⟩) | (refine wpList_load_row rfl 22 _ rfl w.heap.size rfl 22 A (0, 0) _ (heap_alloc_new _ _) Tryz.underlying22 rfl (by rw [hs]; exact info64) ?_) | (go_at_call 230; refine (clear_any A f (unhide hAh) x y h0 h1 h2 h3 (pI x y) (LI x y) (path_1 x y h0 h1 h2 h3 (unhide hl)) (path_p1 x y) (path_s x y) (path_L x y h0 h1 h2 h3 (unhide hl)) (path_b x y h0 h1 h2 h3 (unhide hl)) (path_n x y h0 h1 h2 h3 (unhide hl)) _).mono ?_; rintro e w' ⟨rfl, hg⟩))
    go_ret
    exact ⟨rfl, ((Gr.refl _).alloc _ _).trans hg⟩
  · rw [c3, c4] at e1; rw [c1, c2] at e2; try rw [e1]
    try rw [e2]
    have hl : Hid (stI x y = true ∨ slI x y = true) := hide (by rw [e1, e2]; decide)
    clear e1 e2
    go_enter Tryz.func156, Tryz.ntmps156
    go_wp2_with (first | (go_at_call 197; refine (abs_any _ (by omega) (by omega) _).mono ?_; rintro e w' ⟨rfl, rfl⟩) | (refine wpList_load_row rfl 22 _ rfl w.heap.size rfl 22 A (0, 0) _ (heap_alloc_new _ _) Tryz.underlying22 rfl (by rw [hs]; exact info64) ?_) | (go_at_call 230; refine (clear_any A f (unhide hAh) x y h0 h1 h2 h3 (pI x y) (LI x y) (path_1 x y h0 h1 h2 h3 (unhide hl)) (path_p1 x y) (path_s x y) (path_L x y h0 h1 h2 h3 (unhide hl)) (path_b x y h0 h1 h2 h3 (unhide hl)) (path_n x y h0 h1 h2 h3 (unhide hl)) _).mono ?_; rintro e w' ⟨rfl, hg⟩))
    go_ret
    exact ⟨rfl, ((Gr.refl _).alloc _ _).trans hg⟩
  · rw [c3, c4] at e1; rw [c1, c2] at e2; try rw [e1]
    try rw [e2]
    clear e1 e2
    go_enter Tryz.func156, Tryz.ntmps156
    go_wp2_with ((go_at_call 197; refine (abs_any _ (by omega) (by omega) _).mono ?_; rintro e w' ⟨rfl, rfl⟩))
    go_ret
    exact ⟨rfl, (Gr.refl _).alloc _ _⟩
  · rw [c3, c4] at e1; rw [c1, c2] at e2; try rw [e1]
    try rw [e2]
    clear e1 e2
    go_enter Tryz.func156, Tryz.ntmps156
    go_wp2_with ((go_at_call 197; refine (abs_any _ (by omega) (by omega) _).mono ?_; rintro e w' ⟨rfl, rfl⟩))
    go_ret
    exact ⟨rfl, (Gr.refl _).alloc _ _⟩

set_option maxRecDepth 100000 in
set_option maxHeartbeats 2000000 in
theorem attacks_4 (A : Array Value) (f : Nat → Int) (hA : ∀ i, i < 64 → A[i]? = some (.int .u8 (f i))) (hs : A.size = 64) (s : Int) (x y : Int) (h0 : 0 ≤ x) (h1 : x ≤ 63) (h2 : 0 ≤ y) (h3 : y ≤ 63) (w : World) :
    Calls Tryz.prog 156 #[.agg A, .int .i64 4, .int .i64 s, .int .i64 x, .int .i64 y] w fun e w' => e = .returned (.bool (attI f 4 s x y)) ∧ Gr w w' := by
  have hAh := hide hA
  clear hA
  have ba := ab_bd (y % 8 - x % 8) (by omega) (by omega)
  have br := ab_bd (y / 8 - x / 8) (by omega) (by omega)
  have e0 : attI f 4 s x y = ((stI x y || slI x y) && freeI f (pI x y) (LI x y)) := rfl
  have e1 : stI x y = ((y % 8 - x % 8 == 0) != (y / 8 - x / 8 == 0)) := rfl
  have e2 : slI x y = ((ab (y % 8 - x % 8) == ab (y / 8 - x / 8)) && decide (0 < ab (y % 8 - x % 8))) := rfl
  rw [e0]
  clear e0
  rcases classes (y % 8 - x % 8) (y / 8 - x / 8) with ⟨c1, c2, c3, c4⟩ | ⟨c1, c2, c3, c4⟩ | ⟨c1, c2, c3, c4⟩ | ⟨c1, c2, c3, c4⟩ | ⟨c1, c2, c3, c4⟩
  · rw [c3, c4] at e1; rw [c1, c2] at e2; try rw [e1]
    try rw [e2]
    clear e1 e2
    go_enter Tryz.func156, Tryz.ntmps156
    go_wp2_with ((go_at_call 197; refine (abs_any _ (by omega) (by omega) _).mono ?_; rintro e w' ⟨rfl, rfl⟩))
    go_ret
    exact ⟨rfl, (Gr.refl _).alloc _ _⟩
  · rw [c3, c4] at e1; rw [c1, c2] at e2; try rw [e1]
    try rw [e2]
    have hl : Hid (stI x y = true ∨ slI x y = true) := hide (by rw [e1, e2]; decide)
    clear e1 e2
    go_enter Tryz.func156, Tryz.ntmps156
    go_wp2_with (first | (go_at_call 197; refine (abs_any _ (by omega) (by omega) _).mono ?_; rintro e w' ⟨rfl, rfl⟩) | (refine wpList_load_row rfl 22 _ rfl w.heap.size rfl 22 A (0, 0) _ (heap_alloc_new _ _) Tryz.underlying22 rfl (by rw [hs]; exact info64) ?_) | (go_at_call 230; refine (clear_any A f (unhide hAh) x y h0 h1 h2 h3 (pI x y) (LI x y) (path_1 x y h0 h1 h2 h3 (unhide hl)) (path_p1 x y) (path_s x y) (path_L x y h0 h1 h2 h3 (unhide hl)) (path_b x y h0 h1 h2 h3 (unhide hl)) (path_n x y h0 h1 h2 h3 (unhide hl)) _).mono ?_; rintro e w' ⟨rfl, hg⟩))
    go_ret
    exact ⟨rfl, ((Gr.refl _).alloc _ _).trans hg⟩
  · rw [c3, c4] at e1; rw [c1, c2] at e2; try rw [e1]
    try rw [e2]
    have hl : Hid (stI x y = true ∨ slI x y = true) := hide (by rw [e1, e2]; decide)
    clear e1 e2
    go_enter Tryz.func156, Tryz.ntmps156
    go_wp2_with (first | (go_at_call 197; refine (abs_any _ (by omega) (by omega) _).mono ?_; rintro e w' ⟨rfl, rfl⟩) | (refine wpList_load_row rfl 22 _ rfl w.heap.size rfl 22 A (0, 0) _ (heap_alloc_new _ _) Tryz.underlying22 rfl (by rw [hs]; exact info64) ?_) | (go_at_call 230; refine (clear_any A f (unhide hAh) x y h0 h1 h2 h3 (pI x y) (LI x y) (path_1 x y h0 h1 h2 h3 (unhide hl)) (path_p1 x y) (path_s x y) (path_L x y h0 h1 h2 h3 (unhide hl)) (path_b x y h0 h1 h2 h3 (unhide hl)) (path_n x y h0 h1 h2 h3 (unhide hl)) _).mono ?_; rintro e w' ⟨rfl, hg⟩))
    go_ret
    exact ⟨rfl, ((Gr.refl _).alloc _ _).trans hg⟩
  · rw [c3, c4] at e1; rw [c1, c2] at e2; try rw [e1]
    try rw [e2]
    have hl : Hid (stI x y = true ∨ slI x y = true) := hide (by rw [e1, e2]; decide)
    clear e1 e2
    go_enter Tryz.func156, Tryz.ntmps156
    go_wp2_with (first | (go_at_call 197; refine (abs_any _ (by omega) (by omega) _).mono ?_; rintro e w' ⟨rfl, rfl⟩) | (refine wpList_load_row rfl 22 _ rfl w.heap.size rfl 22 A (0, 0) _ (heap_alloc_new _ _) Tryz.underlying22 rfl (by rw [hs]; exact info64) ?_) | (go_at_call 230; refine (clear_any A f (unhide hAh) x y h0 h1 h2 h3 (pI x y) (LI x y) (path_1 x y h0 h1 h2 h3 (unhide hl)) (path_p1 x y) (path_s x y) (path_L x y h0 h1 h2 h3 (unhide hl)) (path_b x y h0 h1 h2 h3 (unhide hl)) (path_n x y h0 h1 h2 h3 (unhide hl)) _).mono ?_; rintro e w' ⟨rfl, hg⟩))
    go_ret
    exact ⟨rfl, ((Gr.refl _).alloc _ _).trans hg⟩
  · rw [c3, c4] at e1; rw [c1, c2] at e2; try rw [e1]
    try rw [e2]
    clear e1 e2
    go_enter Tryz.func156, Tryz.ntmps156
    go_wp2_with ((go_at_call 197; refine (abs_any _ (by omega) (by omega) _).mono ?_; rintro e w' ⟨rfl, rfl⟩))
    go_ret
    exact ⟨rfl, (Gr.refl _).alloc _ _⟩

end Go.Proofs.YtnfakamfmkhlbaaGreatDoor.C
