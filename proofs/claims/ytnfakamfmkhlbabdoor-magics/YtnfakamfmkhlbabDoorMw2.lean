import Derived.Test.YtnfakamfmkhlbabDoorMw1
namespace Go.Proofs.YtnfakamfmkhlbabDoor.C
open Go.ChangeShapes Go.WideShapes Go.ChangeAt Go.RowKit Go.Shelf
open Go.Proofs.YtnfakamfmkhlbabDoor.P
attribute [local go_sem] Oper.semAt_some

theorem one_nat (x : Nat) (w : World) : Calls Tryd.prog 30 #[.int .i64 (x : Int)] w fun e w' => e = .returned (.int .u64 (U (1#64 <<< x))) ∧ w' = w := by
  by_cases h : x ≤ 63
  · rw [← one_U x (by omega)]
    exact one_any (x : Int) (by omega) (by omega) w
  · have e : (1#64 <<< x) = 0#64 := BitVec.shiftLeft_eq_zero (by omega)
    rw [e]
    go_enter Tryd.func30, Tryd.ntmps30
    go_wp2
    go_ret
    exact ⟨ret_int (by rw [Nat.min_eq_right (show 64 ≤ x by omega)]; decide +kernel), rfl⟩
theorem reach_bits (k x : Nat) (hk : k = 4 ∨ k = 5) (hx : x < 64) (t : BitVec 64) (w : World) : Calls Tryd.prog 19 #[.int .i64 (k : Int), .int .i64 (x : Int), .int .u64 (U t)] w fun e w' => e = .returned (.int .u64 (U (reachB k x t))) ∧ w' = w := by
  rw [← reach_U k x (by omega) (by omega) hx t]
  exact reach9_any _ _ _ (by omega) (by omega) (by omega) (by omega) w

/-- what the walk through matter holds on to. -/
structure Mt (k x : Nat) (b : Nat) (v : BitVec 64) (W : World) : Prop where
  kc : W.cell? ⟨b, 0, none⟩ = some (.int .i64 (k : Int))
  xc : W.cell? ⟨b + 1, 0, none⟩ = some (.int .i64 (x : Int))
  ac : W.cell? ⟨b + 1 + 1, 0, none⟩ = some (.int .u64 (U v))
  af : W.frozen? ⟨b + 1 + 1, 0, none⟩ = false
  oc : W.cell? ⟨b + 1 + 1 + 1, 0, none⟩ = some (.int .u64 (U (reachB k x 0#64)))
theorem Mt.drew {k x b : Nat} {v : BitVec 64} {W : World} (h : Mt k x b v W) : Mt k x b v W.drew := ⟨h.kc, h.xc, h.ac, h.af, h.oc⟩
theorem Mt.put {k x b : Nat} {v u : BitVec 64} {W : World} (h : Mt k x b v W) : Mt k x b u (W.setCell ⟨b + 1 + 1, 0, none⟩ (.int .u64 (U u))) := by
  have far : ∀ j, j ≠ b + 1 + 1 → (W.setCell ⟨b + 1 + 1, 0, none⟩ (.int .u64 (U u))).cell? ⟨j, 0, none⟩ = W.cell? ⟨j, 0, none⟩ := fun j hj => World.cell?_of_block (w := W) (Below.heap_setCell W ⟨b + 1 + 1, 0, none⟩ _ j hj)
  exact ⟨by rw [far _ (by omega)]; exact h.kc, by rw [far _ (by omega)]; exact h.xc, World.cell?_setCell_same' W _ _ (by rw [h.ac]; rfl), by rw [World.frozen?_setCell]; exact h.af, by rw [far _ (by omega)]; exact h.oc⟩

theorem blk_old (W : World) (o : Obj) (j : Nat) (h : j < W.heap.size) : (W.alloc o).heap[j]? = W.heap[j]? := Below.block ((Below.refl W.heap.size W).alloc (Nat.le_refl _) o) j h
set_option maxRecDepth 100000 in
set_option maxHeartbeats 4000000 in
theorem matter_any (k x : Nat) (hk : k = 4 ∨ k = 5) (hx : x < 64) (w : World) (ht0 : 0 < w.heap.size) (hT : BTab w) :
    Calls Tryd.prog 26 #[.int .i64 (k : Int), .int .i64 (x : Int)] w fun e w' => e = .returned (.int .u64 (U (mtr k x))) ∧ Gr w w' := by
  refine (callsIn_wide (n := 4)).1 ?_
  refine callsIn_of_wp_marks Tryd.func26 rfl trivial ?_ rfl
  simp only [Tryd.ntmps26, List.size_toArray, List.length_cons, List.length_nil, Nat.reduceAdd, Nat.reduceSub, Array.replicate_succ, Array.replicate_zero, List.push_toArray, List.append_toArray, List.nil_append, List.cons_append]
  have hr0 : Hid (∀ W : World, Calls Tryd.prog 19 #[.int .i64 (k : Int), .int .i64 (x : Int), .int .u64 0] W fun e w' => e = .returned (.int .u64 (U (reachB k x 0#64))) ∧ w' = W) := hide (fun W => by rw [U_zero]; exact reach_bits k x hk hx 0#64 W)
  gi_wp2_with (first
    | (refine ⟨trivial, ?_⟩; gi_at_call 19; refine (callsIn_wide.2 (unhide hr0 _)).mono ?_; rintro e w' ⟨rfl, rfl⟩)
    | (refine ⟨trivial, ?_⟩; gi_at_call 27; refine (callsIn_wide.2 (squares_any _ _)).mono ?_; rintro e w' ⟨rfl, rfl⟩))
  have hB0 : Below w.heap.size w (((((w.alloc (.cells #[.int .i64 (k : Int)] 3)).alloc (.cells #[.int .i64 (x : Int)] 3)).alloc (.cells #[.int .u64 0] 46)).alloc (.cells #[.int .u64 (U (reachB k x 0#64))] 46)).alloc (.cells #[.int .u64 (U (reachB k x 0#64))] 46)) :=
    (((((Below.refl _ w).alloc (Nat.le_refl _) _).alloc (by simp) _).alloc (by simp <;> omega) _).alloc (by simp <;> omega) _).alloc (by simp <;> omega) _
  have hsz : (((((w.alloc (.cells #[.int .i64 (k : Int)] 3)).alloc (.cells #[.int .i64 (x : Int)] 3)).alloc (.cells #[.int .u64 0] 46)).alloc (.cells #[.int .u64 (U (reachB k x 0#64))] 46)).alloc (.cells #[.int .u64 (U (reachB k x 0#64))] 46)).heap.size = w.heap.size + 5 := by simp
  have hM : Mt k x w.heap.size (mtrA k x []) (((((w.alloc (.cells #[.int .i64 (k : Int)] 3)).alloc (.cells #[.int .i64 (x : Int)] 3)).alloc (.cells #[.int .u64 0] 46)).alloc (.cells #[.int .u64 (U (reachB k x 0#64))] 46)).alloc (.cells #[.int .u64 (U (reachB k x 0#64))] 46)) := by
    have e0 := (cell_of_box_l (W := ((((w.alloc (.cells #[.int .i64 (k : Int)] 3)).alloc (.cells #[.int .i64 (x : Int)] 3)).alloc (.cells #[.int .u64 0] 46)).alloc (.cells #[.int .u64 (U (reachB k x 0#64))] 46)).alloc (.cells #[.int .u64 (U (reachB k x 0#64))] 46)) (B := w.heap.size) (v := .int .i64 (k : Int)) (t := 3) (by
      rw [blk_old _ _ _ (by simp <;> omega), blk_old _ _ _ (by simp <;> omega), blk_old _ _ _ (by simp <;> omega), blk_old _ _ _ (by simp)]; exact World.alloc_heap_new w _))
    have e1 := (cell_of_box_l (W := ((((w.alloc (.cells #[.int .i64 (k : Int)] 3)).alloc (.cells #[.int .i64 (x : Int)] 3)).alloc (.cells #[.int .u64 0] 46)).alloc (.cells #[.int .u64 (U (reachB k x 0#64))] 46)).alloc (.cells #[.int .u64 (U (reachB k x 0#64))] 46)) (B := w.heap.size + 1) (v := .int .i64 (x : Int)) (t := 3) (by
      rw [blk_old _ _ _ (by simp <;> omega), blk_old _ _ _ (by simp <;> omega), blk_old _ _ _ (by simp)]; have := World.alloc_heap_new (w.alloc (.cells #[.int .i64 (k : Int)] 3)) (.cells #[.int .i64 (x : Int)] 3); rwa [World.size_alloc] at this))
    have e2 := (cell_of_box_l (W := ((((w.alloc (.cells #[.int .i64 (k : Int)] 3)).alloc (.cells #[.int .i64 (x : Int)] 3)).alloc (.cells #[.int .u64 0] 46)).alloc (.cells #[.int .u64 (U (reachB k x 0#64))] 46)).alloc (.cells #[.int .u64 (U (reachB k x 0#64))] 46)) (B := w.heap.size + 1 + 1) (v := .int .u64 0) (t := 46) (by
      rw [blk_old _ _ _ (by simp <;> omega), blk_old _ _ _ (by simp)]; have := World.alloc_heap_new ((w.alloc (.cells #[.int .i64 (k : Int)] 3)).alloc (.cells #[.int .i64 (x : Int)] 3)) (.cells #[.int .u64 0] 46); rwa [World.size_alloc, World.size_alloc] at this))
    have e3 := (cell_of_box_l (W := ((((w.alloc (.cells #[.int .i64 (k : Int)] 3)).alloc (.cells #[.int .i64 (x : Int)] 3)).alloc (.cells #[.int .u64 0] 46)).alloc (.cells #[.int .u64 (U (reachB k x 0#64))] 46)).alloc (.cells #[.int .u64 (U (reachB k x 0#64))] 46)) (B := w.heap.size + 1 + 1 + 1) (v := .int .u64 (U (reachB k x 0#64))) (t := 46) (by
      rw [blk_old _ _ _ (by simp)]; have := World.alloc_heap_new (((w.alloc (.cells #[.int .i64 (k : Int)] 3)).alloc (.cells #[.int .i64 (x : Int)] 3)).alloc (.cells #[.int .u64 0] 46)) (.cells #[.int .u64 (U (reachB k x 0#64))] 46); rwa [World.size_alloc, World.size_alloc, World.size_alloc] at this))
    exact ⟨e0.1, e1.1, by rw [show mtrA k x [] = 0#64 from rfl, ← U_zero]; exact e2.1, e2.2, e3.1⟩
  have hcB : (((((w.alloc (.cells #[.int .i64 (k : Int)] 3)).alloc (.cells #[.int .i64 (x : Int)] 3)).alloc (.cells #[.int .u64 0] 46)).alloc (.cells #[.int .u64 (U (reachB k x 0#64))] 46)).alloc (.cells #[.int .u64 (U (reachB k x 0#64))] 46)).cell? ⟨w.heap.size + 1 + 1 + 1 + 1, 0, none⟩ = some (.int .u64 (U (reachB k x 0#64))) := by
    have := (cell_new_l ((((w.alloc (.cells #[.int .i64 (k : Int)] 3)).alloc (.cells #[.int .i64 (x : Int)] 3)).alloc (.cells #[.int .u64 0] 46)).alloc (.cells #[.int .u64 (U (reachB k x 0#64))] 46)) (.int .u64 (U (reachB k x 0#64))) 46).1
    rwa [World.size_alloc, World.size_alloc, World.size_alloc, World.size_alloc] at this
  have hTB := hT.below hB0 ht0
  generalize (((((w.alloc (.cells #[.int .i64 (k : Int)] 3)).alloc (.cells #[.int .i64 (x : Int)] 3)).alloc (.cells #[.int .u64 0] 46)).alloc (.cells #[.int .u64 (U (reachB k x 0#64))] 46)).alloc (.cells #[.int .u64 (U (reachB k x 0#64))] 46)) = w5 at hB0 hsz hM hcB hTB ⊢
  refine wpIn_rangeFunc_ownF rfl (by omega) (gf := 41) (lb := #[.pointer (some ⟨w.heap.size + 1 + 1 + 1 + 1, 0, none⟩)]) rfl trivial (enters_of Tryd.func41 (by kernel_rfl) rfl)
    (sq_stops _ (by omega) (w.heap.size + 1 + 1 + 1 + 1) w.heap.size ht0 (reachB k x 0#64) _ (by omega) (by omega) hcB hTB) belowK_t (belowK_b (by omega)) (Below.refl _ _) (fun _ => rfl)
    (fun pre W => Mt k x w.heap.size (mtrA k x pre) W ∧ Below w.heap.size w W)
    (fun _ _ _ => False)
    (OwnFrom.and (Own.from (fun s A B row hs hg hr => ⟨cell_kept hs.kc hg hr, cell_kept hs.xc hg hr, cell_kept hs.ac hg hr, (frozen_kept hs.ac hg hr).trans hs.af, cell_kept hs.oc hg hr⟩) _) (ownFrom_below (Nat.le_refl _) (by omega)))
    (fun _ _ _ _ _ hs _ _ => hs)
    ⟨hM, hB0⟩
    (fun y => { tmps := #[.int .i64 (k : Int), .int .i64 (x : Int), .pointer (some ⟨w.heap.size, 0, none⟩), .pointer (some ⟨w.heap.size + 1, 0, none⟩), .int .u64 0, .pointer (some ⟨w.heap.size + 1 + 1, 0, none⟩), .pointer (some ⟨w.heap.size + 1 + 1 + 1, 0, none⟩), .int .i64 (y : Nat), .int .i64 (k : Int), .int .i64 (x : Int), .int .u64 (U (reachB k x 0#64)), .int .u64 (U (reachB k x 0#64)), .func (.func 41) #[] #[.pointer (some ⟨w.heap.size + 1 + 1 + 1 + 1, 0, none⟩)], .int .i64 (y : Nat), undef, undef, undef, undef, undef, undef, undef, undef, undef, undef, undef, undef], defers := [] }) ?assign ?body ?done ?stop
  case assign =>
    intro l y W K hK
    gi_wp2
    simpa using hK
  case body =>
    rintro l pre y W ⟨hM, hB⟩ hlt
    have hone : Hid (∀ W : World, Calls Tryd.prog 30 #[.int .i64 ((y : Nat) : Int)] W fun e w' => e = .returned (.int .u64 (U (1#64 <<< y))) ∧ w' = W) := hide (fun W => one_nat y W)
    have hrch : Hid (∀ W : World, Calls Tryd.prog 19 #[.int .i64 (k : Int), .int .i64 (x : Int), .int .u64 (U (1#64 <<< y))] W fun e w' => e = .returned (.int .u64 (U (reachB k x (1#64 <<< y)))) ∧ w' = W) := hide (fun W => reach_bits k x hk hx _ W)
    have d1 := hM.drew.kc
    have d2 := hM.drew.xc
    have d3 := hM.drew.oc
    gi_wp2
    have hput : Mt k x w.heap.size (mtrA k x pre ||| 1#64 <<< y) (W.setCell ⟨w.heap.size + 1 + 1, 0, none⟩ (.int .u64 (U (mtrA k x pre ||| 1#64 <<< y)))) := hM.put
    by_cases hh : hides k x y = true
    · have hne : (U (reachB k x (1#64 <<< y)) != U (reachB k x 0#64)) = true := by
        simp only [bne_iff_ne]
        intro h
        exact of_decide_eq_true hh (U_inj h)
      refine Code.wpIn_mono (Q := fun e a' w' => e = Exit.normal ∧ a' = { tmps := #[.int .i64 (k : Int), .int .i64 (x : Int), .pointer (some ⟨w.heap.size, 0, none⟩), .pointer (some ⟨w.heap.size + 1, 0, none⟩), .int .u64 0, .pointer (some ⟨w.heap.size + 1 + 1, 0, none⟩), .pointer (some ⟨w.heap.size + 1 + 1 + 1, 0, none⟩), .int .i64 (y : Nat), .int .i64 (k : Int), .int .i64 (x : Int), .int .u64 (U (reachB k x 0#64)), .int .u64 (U (reachB k x 0#64)), .func (.func 41) #[] #[.pointer (some ⟨w.heap.size + 1 + 1 + 1 + 1, 0, none⟩)], .int .i64 (y : Nat), .int .i64 (k : Int), .int .i64 (x : Int), .int .i64 (y : Nat), .int .u64 (U (1#64 <<< y)), .int .u64 (U (reachB k x (1#64 <<< y))), .int .u64 (U (reachB k x 0#64)), .bool true, undef, undef, undef, undef, undef], defers := [] } ∧ w' = W.drew) ?post ?reg
      case reg =>
        gi_region_with (first
          | (refine ⟨trivial, ?_⟩; gi_at_call 30; refine ((callsIn_wide.2 (unhide hone _)).inRound l).mono ?_; rintro e w' ⟨rfl, rfl⟩)
          | (refine ⟨trivial, ?_⟩; gi_at_call 19; refine ((callsIn_wide.2 (unhide hrch _)).inRound l).mono ?_; rintro e w' ⟨rfl, rfl⟩))
        all_goals exact ⟨rfl, rfl, rfl⟩
      rintro e a' w' ⟨rfl, rfl, rfl⟩
      gi_wp2
      have d4 : W.drew.drew.cell? ⟨w.heap.size + 1 + 1, 0, none⟩ = some (.int .u64 (U (mtrA k x pre))) := hM.ac
      have d5 : W.drew.drew.frozen? ⟨w.heap.size + 1 + 1, 0, none⟩ = false := hM.af
      have e1 : bits .or .u64 (U (mtrA k x pre)) (U (1#64 <<< y)) = U (mtrA k x pre ||| 1#64 <<< y) := or_U _ _
      gi_region_with (first
          | (refine ⟨trivial, ?_⟩; gi_at_call 30; refine ((callsIn_wide.2 (unhide hone _)).inRound l).mono ?_; rintro e w' ⟨rfl, rfl⟩)
          | (refine ⟨trivial, ?_⟩; gi_at_call 19; refine ((callsIn_wide.2 (unhide hrch _)).inRound l).mono ?_; rintro e w' ⟨rfl, rfl⟩))
      all_goals
        gi_wp2
        exact ⟨(KeepsOthers.setCell W _ _).trans ((KeepsOthers.drew _).trans (KeepsOthers.drew _)), ((Below.refl w.heap.size W).setCell (p := ⟨w.heap.size + 1 + 1, 0, none⟩) (by simp <;> omega) _).drew.drew, by rw [mtrA_add, if_pos hh]; exact hput.drew.drew, (hB.setCell (p := ⟨w.heap.size + 1 + 1, 0, none⟩) (by simp <;> omega) _).drew.drew⟩
    · have hne : (U (reachB k x (1#64 <<< y)) != U (reachB k x 0#64)) = false := by
        have : reachB k x (1#64 <<< y) = reachB k x 0#64 := Classical.byContradiction fun h => hh (decide_eq_true h)
        rw [this]; simp
      refine Code.wpIn_mono (Q := fun e a' w' => e = Exit.normal ∧ a' = { tmps := #[.int .i64 (k : Int), .int .i64 (x : Int), .pointer (some ⟨w.heap.size, 0, none⟩), .pointer (some ⟨w.heap.size + 1, 0, none⟩), .int .u64 0, .pointer (some ⟨w.heap.size + 1 + 1, 0, none⟩), .pointer (some ⟨w.heap.size + 1 + 1 + 1, 0, none⟩), .int .i64 (y : Nat), .int .i64 (k : Int), .int .i64 (x : Int), .int .u64 (U (reachB k x 0#64)), .int .u64 (U (reachB k x 0#64)), .func (.func 41) #[] #[.pointer (some ⟨w.heap.size + 1 + 1 + 1 + 1, 0, none⟩)], .int .i64 (y : Nat), .int .i64 (k : Int), .int .i64 (x : Int), .int .i64 (y : Nat), .int .u64 (U (1#64 <<< y)), .int .u64 (U (reachB k x (1#64 <<< y))), .int .u64 (U (reachB k x 0#64)), .bool false, undef, undef, undef, undef, undef], defers := [] } ∧ w' = W.drew) ?post2 ?reg2
      case reg2 =>
        gi_region_with (first
          | (refine ⟨trivial, ?_⟩; gi_at_call 30; refine ((callsIn_wide.2 (unhide hone _)).inRound l).mono ?_; rintro e w' ⟨rfl, rfl⟩)
          | (refine ⟨trivial, ?_⟩; gi_at_call 19; refine ((callsIn_wide.2 (unhide hrch _)).inRound l).mono ?_; rintro e w' ⟨rfl, rfl⟩))
        all_goals exact ⟨rfl, rfl, rfl⟩
      rintro e a' w' ⟨rfl, rfl, rfl⟩
      gi_wp2
      exact ⟨KeepsOthers.drew _, (Below.refl _ _).drew, by rw [mtrA_add, if_neg hh]; exact hM.drew, hB.drew⟩
  case done =>
    rintro D ys W hD rfl ⟨hM, hB⟩ hK
    have hac := hM.ac
    gi_wp2
    refine ⟨by simp, .inl ⟨_, _, rfl, run_takeDeferred hK, ?_⟩⟩
    exact ⟨_, results_tmp rfl _ _ _, rfl, hB.trans (belowK_b (w := w) (Nat.le_refl _) W D _ _ (by omega) hK rfl rfl)⟩
  case stop =>
    rintro D c pre W _ _ h _
    exact h.elim

end Go.Proofs.YtnfakamfmkhlbabDoor.C
