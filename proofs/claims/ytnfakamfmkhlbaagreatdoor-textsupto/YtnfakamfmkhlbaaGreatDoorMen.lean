import Derived.Test.YtnfakamfmkhlbaaGreatDoorSq
import Derived.Deep.RegionHeld3
import Derived.Deep.MidRow
namespace Go.Proofs.YtnfakamfmkhlbaaGreatDoor.C
open Go.ChangeShapes Go.WideShapes Go.ChangeAt Go.RowKit
open Go.Proofs.YtnfakamfmkhlbaaGreatDoor.P

/-- the twelve sets, as the value that is handed about. -/
def IsMen (m : Nat → BitVec 64) (M : Array Value) : Prop := M.size = 12 ∧ ∀ i, i < 12 → M[i]? = some (.int .u64 (U (m i)))
def bg (b : Bool) : Nat := if b then 0 else 6

theorem begin_any (b : Bool) (w : World) : Calls Tryz.prog 174 #[.bool b] w fun e w' => e = .returned (.int .i64 (bg b)) ∧ w' = w := by
  cases b
  · go_enter Tryz.func174, Tryz.ntmps174
    go_wp2
    go_ret
    exact ⟨rfl, rfl⟩
  · go_enter Tryz.func174, Tryz.ntmps174
    go_wp2
    go_ret
    exact ⟨rfl, rfl⟩
theorem bg_le (b : Bool) : bg b ≤ 6 := by cases b <;> decide

theorem kings_any (m : Nat → BitVec 64) (M : Array Value) (hM : IsMen m M) (b : Bool) (w : World) : Calls Tryz.prog 141 #[.agg M, .bool b] w fun e w' => e = .returned (.int .u64 (U (m (bg b + 5)))) ∧ Gr w w' := by
  have hb := bg_le b
  have hc : (w.alloc (.cells M 151)).cell? ⟨w.heap.size, bg b + 5, none⟩ = some (.int .u64 (U (m (bg b + 5)))) := by rw [World.cell?_alloc_at _ _ _ _ rfl]; exact hM.2 _ (by omega)
  clear hM
  have hbe := hide (begin_any b)
  generalize bg b = k at hb hc hbe ⊢
  go_enter Tryz.func141, Tryz.ntmps141
  go_wp2_with (go_at_call 174; refine (unhide hbe _).mono ?_; rintro e w' ⟨rfl, rfl⟩)
  go_ret
  exact ⟨rfl, (Gr.refl _).alloc _ _⟩

theorem pawns_any (m : Nat → BitVec 64) (M : Array Value) (hM : IsMen m M) (b : Bool) (w : World) : Calls Tryz.prog 144 #[.agg M, .bool b] w fun e w' => e = .returned (.int .u64 (U (m (bg b)))) ∧ Gr w w' := by
  have hb := bg_le b
  have hc : (w.alloc (.cells M 151)).cell? ⟨w.heap.size, bg b, none⟩ = some (.int .u64 (U (m (bg b)))) := by rw [World.cell?_alloc_at _ _ _ _ rfl]; exact hM.2 _ (by omega)
  clear hM
  have hbe := hide (begin_any b)
  generalize bg b = k at hb hc hbe ⊢
  go_enter Tryz.func144, Tryz.ntmps144
  go_wp2_with (go_at_call 174; refine (unhide hbe _).mono ?_; rintro e w' ⟨rfl, rfl⟩)
  go_ret
  exact ⟨rfl, (Gr.refl _).alloc _ _⟩

def orB (m : Nat → BitVec 64) (base : Nat) : Nat → BitVec 64
  | 0 => 0#64
  | k + 1 => orB m base k ||| m (base + k)
def sideB (m : Nat → BitVec 64) (b : Bool) : BitVec 64 := orB m (bg b) 6

set_option maxHeartbeats 1000000 in
theorem mside_any (m : Nat → BitVec 64) (M : Array Value) (hM : IsMen m M) (b : Bool) (w : World) : Calls Tryz.prog 143 #[.agg M, .bool b] w fun e w' => e = .returned (.int .u64 (U (sideB m b))) ∧ Gr w w' := by
  have hb := bg_le b
  unfold sideB
  have hbe := hide (begin_any b)
  generalize bg b = q at hb hbe ⊢
  have hM' := hide hM
  clear hM
  have hU0 : U 0#64 = 0 := by decide +kernel
  go_enter Tryz.func143, Tryz.ntmps143
  go_wp2
  go_loopg [5, 7] 6 (fun g a n wr => ∃ k : Nat, k + g = 6 ∧ n = .int .i64 k ∧ a = .int .u64 (U (orB m q k)) ∧ wr = w.alloc (.cells M 151))
  case atStart => exact ⟨0, rfl, rfl, by rw [show orB m q 0 = 0#64 from rfl, hU0], rfl⟩
  case round =>
    obtain ⟨k, k1, rfl, rfl, rfl⟩ := hrel
    by_cases hlt : k < 6
    · have hc : (w.alloc (.cells M 151)).cell? ⟨w.heap.size, q + k, none⟩ = some (.int .u64 (U (m (q + k)))) := by rw [World.cell?_alloc_at _ _ _ _ rfl]; exact (unhide hM').2 _ (by omega)
      have hor : bits .or .u64 (U (orB m q k)) (U (m (q + k))) = U (orB m q (k + 1)) := or_U _ _
      go_wp2_with (go_at_call 174; refine (unhide hbe _).mono ?_; rintro e w' ⟨rfl, rfl⟩)
      go_roundg (gk - 1)
      case measure => omega
      case rel => exact ⟨k + 1, by omega, by go_num, by first | rfl | rw [hor], rfl⟩
    · have ek : k = 6 := by omega
      subst ek
      go_wp2
      go_ret
      exact ⟨rfl, (Gr.refl _).alloc _ _⟩

def takenB (m : Nat → BitVec 64) : BitVec 64 := sideB m true ||| sideB m false
def kindI (bw : Bool) (i : Nat) : Int := if i = 0 then (if bw then 2 else 1) else (i : Int) + 2
def seesI (m : Nat → BitVec 64) (sq : Int) (bw : Bool) (i : Nat) : Bool := bits .and .u64 (reachI (kindI bw i) sq (U (takenB m))) (U (m (bg bw + i))) != 0
def attackedS (m : Nat → BitVec 64) (sq : Int) (bw : Bool) : Bool := (List.range 6).any (seesI m sq bw)

theorem heldM {w1 w' : World} {b : Nat} {A : List Value} (hb : b < w1.heap.size) (h : w1.rangeAt b 0 A) (g : Gr w1 w') : Gr w1 w' ∧ w'.rangeAt b 0 A :=
  ⟨g, fun j v hv => (Below.cell g (p := ⟨b, 0 + j, none⟩) hb).trans (h j v hv)⟩
theorem info12 : (Tryz.prog.info? 151).map (·.size) = some 12 := by kernel_rfl
theorem kind_ok (bw : Bool) (k : Nat) (h : k < 6) : 1 ≤ kindI bw k ∧ kindI bw k ≤ 7 := by
  unfold kindI
  by_cases hk : k = 0
  · rw [if_pos hk]; cases bw <;> decide
  · rw [if_neg hk]; omega
def kindsA (bw : Bool) : Array Value := #[.int .i64 (kindI bw 0), .int .i64 3, .int .i64 4, .int .i64 5, .int .i64 6, .int .i64 7]
theorem info6 : (Tryz.prog.info? 261).map (·.size) = some 6 := by kernel_rfl
set_option maxRecDepth 100000 in
theorem kinds_any (bw : Bool) (w : World) : Calls Tryz.prog 173 #[.bool (!bw)] w fun e w' => e = .returned (.agg (kindsA bw)) ∧ Gr w w' := by
  cases bw
  · go_enter Tryz.func173, Tryz.ntmps173
    go_wp2
    exact bodyPost_ret (v := .agg (kindsA false)) (results_cell_row Tryz.results173 _ _ w.heap.size 261 _ (0, 0) _ rfl (heap_alloc_new _ _) Tryz.underlying261 rfl info6) rfl ⟨rfl, (Gr.refl w).alloc _ _⟩
  · go_enter Tryz.func173, Tryz.ntmps173
    go_wp2
    exact bodyPost_ret (v := .agg (kindsA true)) (results_cell_row Tryz.results173 _ _ w.heap.size 261 _ (0, 0) _ rfl (heap_alloc_new _ _) Tryz.underlying261 rfl info6) rfl ⟨rfl, (Gr.refl w).alloc _ _⟩
theorem ix_t0 (w : World) : (Instr.index 261 (.agg (kindsA true)) (.int .i64 0)).run Tryz.prog w = .ok (.int .i64 (kindI true 0)) w := by kernel_rfl
theorem ix_t1 (w : World) : (Instr.index 261 (.agg (kindsA true)) (.int .i64 1)).run Tryz.prog w = .ok (.int .i64 (kindI true 1)) w := by kernel_rfl
theorem ix_t2 (w : World) : (Instr.index 261 (.agg (kindsA true)) (.int .i64 2)).run Tryz.prog w = .ok (.int .i64 (kindI true 2)) w := by kernel_rfl
theorem ix_t3 (w : World) : (Instr.index 261 (.agg (kindsA true)) (.int .i64 3)).run Tryz.prog w = .ok (.int .i64 (kindI true 3)) w := by kernel_rfl
theorem ix_t4 (w : World) : (Instr.index 261 (.agg (kindsA true)) (.int .i64 4)).run Tryz.prog w = .ok (.int .i64 (kindI true 4)) w := by kernel_rfl
theorem ix_t5 (w : World) : (Instr.index 261 (.agg (kindsA true)) (.int .i64 5)).run Tryz.prog w = .ok (.int .i64 (kindI true 5)) w := by kernel_rfl
theorem ix_f0 (w : World) : (Instr.index 261 (.agg (kindsA false)) (.int .i64 0)).run Tryz.prog w = .ok (.int .i64 (kindI false 0)) w := by kernel_rfl
theorem ix_f1 (w : World) : (Instr.index 261 (.agg (kindsA false)) (.int .i64 1)).run Tryz.prog w = .ok (.int .i64 (kindI false 1)) w := by kernel_rfl
theorem ix_f2 (w : World) : (Instr.index 261 (.agg (kindsA false)) (.int .i64 2)).run Tryz.prog w = .ok (.int .i64 (kindI false 2)) w := by kernel_rfl
theorem ix_f3 (w : World) : (Instr.index 261 (.agg (kindsA false)) (.int .i64 3)).run Tryz.prog w = .ok (.int .i64 (kindI false 3)) w := by kernel_rfl
theorem ix_f4 (w : World) : (Instr.index 261 (.agg (kindsA false)) (.int .i64 4)).run Tryz.prog w = .ok (.int .i64 (kindI false 4)) w := by kernel_rfl
theorem ix_f5 (w : World) : (Instr.index 261 (.agg (kindsA false)) (.int .i64 5)).run Tryz.prog w = .ok (.int .i64 (kindI false 5)) w := by kernel_rfl
theorem ix_one (bw : Bool) : ∀ k : Nat, k < 6 → ∀ w : World, (Instr.index 261 (.agg (kindsA bw)) (.int .i64 (k : Nat))).run Tryz.prog w = .ok (.int .i64 (kindI bw k)) w := by
  intro k hk w
  have : k = 0 ∨ k = 1 ∨ k = 2 ∨ k = 3 ∨ k = 4 ∨ k = 5 := by omega
  cases bw
  · rcases this with rfl | rfl | rfl | rfl | rfl | rfl
    · exact ix_f0 w
    · exact ix_f1 w
    · exact ix_f2 w
    · exact ix_f3 w
    · exact ix_f4 w
    · exact ix_f5 w
  · rcases this with rfl | rfl | rfl | rfl | rfl | rfl
    · exact ix_t0 w
    · exact ix_t1 w
    · exact ix_t2 w
    · exact ix_t3 w
    · exact ix_t4 w
    · exact ix_t5 w

/-- in this world the box holds the men. -/
def HeldAt (b : Nat) (M : Array Value) (w : World) : Prop := b < w.heap.size ∧ w.rangeAt b 0 M.toList ∧ M.size = 12
theorem HeldAt.gr {b : Nat} {M : Array Value} {w w' : World} (h : HeldAt b M w) (g : Gr w w') : HeldAt b M w' :=
  ⟨Nat.lt_of_lt_of_le h.1 (Below.size g), fun j v hv => (Below.cell g (p := ⟨b, 0 + j, none⟩) h.1).trans (h.2.1 j v hv), h.2.2⟩
theorem ld_men {b : Nat} {M : Array Value} {w : World} (h : HeldAt b M w) : (Instr.loadAt 151 (.pointer (some ⟨b, 0, none⟩))).run Tryz.prog w = .ok (.agg M) w := by
  have := run_loadAt_mid (P := Tryz.prog) w b 0 151 M.toList _ h.2.1 Tryz.underlying151 rfl (by rw [info12]; simp [h.2.2])
  simpa using this

/-- the men held, the heap grown from w1. -/
def St (w1 : World) (b : Nat) (M : Array Value) (w : World) : Prop := HeldAt b M w ∧ Gr w1 w
theorem St.gr {w1 w w' : World} {b : Nat} {M : Array Value} (h : St w1 b M w) (g : Gr w w') : St w1 b M w' := ⟨h.1.gr g, Gr.trans h.2 g⟩
theorem ld_st {w1 : World} {b : Nat} {M : Array Value} {w : World} (h : St w1 b M w) : (Instr.loadAt 151 (.pointer (some ⟨b, 0, none⟩))).run Tryz.prog w = .ok (.agg M) w := ld_men h.1
theorem mside_st (m : Nat → BitVec 64) (M : Array Value) (hM : IsMen m M) (bb : Bool) {w1 : World} {b : Nat} (w : World) (h : St w1 b M w) : Calls Tryz.prog 143 #[.agg M, .bool bb] w fun e w' => e = .returned (.int .u64 (U (sideB m bb))) ∧ St w1 b M w' :=
  (mside_any m M hM bb w).mono fun _ _ h' => ⟨h'.1, h.gr h'.2⟩

theorem y_men {ops : Array Oper} {op : Oper} {a : Act} {M : Array Value} (hz : M.size = 12) {S : World → Prop} (hw : Region.wanted op (yielded ops a.tmps) = true) (x : Operand) (ho : op.op = .load 151 x) (b : Nat) (hx : a.eval x = .pointer (some ⟨b, 0, none⟩)) (hS : ∀ w, S w → HeldAt b M w) : YieldsIf Tryz.prog ops S op (.agg M) a := by
  have := yieldsIf_load_mid (P := Tryz.prog) hw 151 x ho b 0 hx M.toList _ (fun w h => (hS w h).2.1) Tryz.underlying151 rfl (by rw [info12]; simp [hz])
  rwa [Array.toArray_toList] at this

theorem any_hit {f : Nat → Bool} {k : Nat} (hk : k < 6) (h : f k = true) : (List.range 6).any f = true := List.any_eq_true.2 ⟨k, List.mem_range.2 hk, h⟩
theorem any_none {f : Nat → Bool} (h : ∀ j, j < 6 → f j = false) : (List.range 6).any f = false := by
  rw [List.any_eq_false]
  intro j hj
  rw [h j (List.mem_range.1 hj)]
  decide
theorem St.cell {w1 w : World} {b : Nat} {M : Array Value} {m : Nat → BitVec 64} (h : St w1 b M w) (hM : IsMen m M) (k : Nat) (hk : k < 12) : w.cell? ⟨b, k, none⟩ = some (.int .u64 (U (m k))) := by
  have h3 := h.1.2.1 k _ (by rw [Array.getElem?_toList]; exact hM.2 k hk)
  rwa [Nat.zero_add] at h3

set_option linter.unusedSimpArgs false in
set_option maxRecDepth 100000 in
set_option maxHeartbeats 4000000 in
theorem attacked_any (m : Nat → BitVec 64) (M : Array Value) (hM : IsMen m M) (sq : Int) (h0 : 0 ≤ sq) (h1 : sq ≤ 63) (bw : Bool) (w : World) : Calls Tryz.prog 145 #[.agg M, .int .i64 sq, .bool bw] w fun e w' => e = .returned (.bool (attackedS m sq bw)) ∧ Gr w w' := by
  have hM' := hide hM
  have hz := hide hM.1
  have hh1 : HeldAt w.heap.size M (w.alloc (.cells M 151)) := ⟨by rw [World.size_alloc]; omega, (by
    intro j v hv
    rw [World.cell?_alloc_at _ _ _ _ rfl, Nat.zero_add, ← Array.getElem?_toList]; exact hv), hM.1⟩
  have hg1 : Hid (Gr w (w.alloc (.cells M 151))) := hide ((Gr.refl w).alloc _ _)
  have hbe := hide (begin_any bw)
  have hkd := hide (kinds_any bw)
  have hix' := hide (ix_one bw)
  have hq := bg_le bw
  obtain ⟨f, hf⟩ : ∃ f, Hid (f = seesI m sq bw) := ⟨_, hide rfl⟩
  have hsee : Hid (∀ k, f k = (bits .and .u64 (reachI (kindI bw k) sq (U (takenB m))) (U (m (bg bw + k))) != 0)) := hide (by rw [unhide hf]; intro k; rfl)
  have hgoal : attackedS m sq bw = (List.range 6).any f := by rw [unhide hf]; rfl
  rw [hgoal]
  clear hgoal hf
  generalize bg bw = q at hbe hq hsee
  generalize kindsA bw = KA at hkd hix'
  clear hM
  go_enter Tryz.func145, Tryz.ntmps145
  go_wp2
  generalize w.alloc (.cells M 151) = w1 at hh1 hg1 ⊢
  have hst : St w1 w.heap.size M w1.drew := ⟨hh1.gr (Gr.refl _).drew, (Gr.refl _).drew⟩
  clear hh1
  refine wp_region_held_drew (S := St w1 w.heap.size M) (by kernel_rfl) hst (fun hHeld => ?_)
  refine wpAnyH_take (i := 0) (v := .agg M) rfl (by kernel_rfl) (by kernel_rfl) (by kernel_rfl) (fun _ _ _ h => h) (y_men (unhide hz) (by rfl) _ rfl w.heap.size rfl (fun _ h => h.1)) hHeld ?_
  simp only [Act.put, List.setIfInBounds_toArray, List.set_cons_zero, List.set_cons_succ]
  refine wpAnyH_take (i := 2) (v := .agg M) rfl (by kernel_rfl) (by kernel_rfl) (by kernel_rfl) (fun _ _ _ h => h) (y_men (unhide hz) (by rfl) _ rfl w.heap.size rfl (fun _ h => h.1)) hHeld ?_
  simp only [Act.put, List.setIfInBounds_toArray, List.set_cons_zero, List.set_cons_succ]
  refine wpAnyH_ready (rs := [1]) (by kernel_rfl) (by simp) ?_
  refine AllReadyH.cons rfl (fun K hK => ?_) AllReadyH.nil
  go_simp
  refine (mside_any m M (unhide hM') true _).mono ?_
  rintro e wa ⟨rfl, hga⟩
  refine hK.out _ _ (hHeld.gr hga) (fun hHeld => ?_)
  clear hK K hst hga
  refine wpAnyH_ready (rs := [3]) (by kernel_rfl) (by simp) ?_
  refine AllReadyH.cons rfl (fun K hK => ?_) AllReadyH.nil
  go_simp
  refine (mside_any m M (unhide hM') false _).mono ?_
  rintro e wb ⟨rfl, hgb⟩
  refine hK.out _ _ (hHeld.gr hgb) (fun hHeld => ?_)
  clear hK K hgb
  have hor : ∀ x y : BitVec 64, bits .or .u64 (U x) (U y) = U (x ||| y) := or_U
  refine wpAnyH_take (i := 4) (v := .int .u64 (U (takenB m))) rfl (by kernel_rfl) (by kernel_rfl) (by kernel_rfl) (fun _ _ _ h => h) (Or.inl ⟨by rfl, fun w _ => ?_⟩) hHeld ?_
  · go_simp
    rfl
  simp only [Act.put, List.setIfInBounds_toArray, List.set_cons_zero, List.set_cons_succ]
  refine wpAnyH_ready (rs := [5]) (by kernel_rfl) (by simp) ?_
  refine AllReadyH.cons rfl (fun K hK => ?_) AllReadyH.nil
  go_simp
  refine hK.out _ _ hHeld (fun hHeld => ?_)
  clear hK K hor
  refine wpAnyH_done (by kernel_rfl) ?_ _
  have hc := hide (fun k hk => St.cell hHeld (unhide hM') k hk)
  have hgb : Hid (Gr w wb) := hide (Gr.trans (unhide hg1) hHeld.2)
  clear hHeld hg1 hz hM'
  generalize U (takenB m) = tk at hsee ⊢
  go_wp2_with (go_at_call 173; refine (unhide hkd _).mono ?_; rintro e wk ⟨rfl, hgk⟩)
  replace hc : Hid (∀ k, k < 12 → wk.cell? ⟨w.heap.size, k, none⟩ = some (.int .u64 (U (m k)))) := hide fun k hk => (Below.cell hgk (p := ⟨w.heap.size, k, none⟩) (World.block_lt_of_cell? wb _ (unhide hc k hk))).trans (unhide hc k hk)
  replace hgb : Hid (Gr w wk) := hide (Gr.trans (unhide hgb) hgk)
  clear hgk
  go_loopg [18] 6 (fun g n wr => ∃ k : Nat, k + g = 6 ∧ n = .int .i64 k ∧ (∀ j, j < k → f j = false) ∧ wr = wk)
  case atStart => exact ⟨0, rfl, rfl, fun j hj => absurd hj (Nat.not_lt_zero j), rfl⟩
  case round =>
    obtain ⟨k, k1, rfl, k3, rfl⟩ := hrel
    have k3' := hide k3
    clear k3
    by_cases hlt : k < 6
    · have hcell := unhide hc (q + k) (by omega)
      have hix := unhide hix' k hlt
      have hki := kind_ok bw k hlt
      have hse := unhide hsee k
      generalize kindI bw k = kd at hix hki hse
      have hk0 : (0 : Int) ≤ (k : Int) := by omega
      have hk6 : (k : Int) < 6 := by omega
      obtain ⟨hki0, hki1⟩ := hki
      by_cases hbz : bits .and .u64 (reachI kd sq tk) (U (m (q + k))) = 0
      · have hfk : f k = false := by rw [hse, hbz]; rfl
        clear hse
        have hfk' := hide hfk
        clear hfk
        go_wp2_with (first | (go_at_call 174; refine (unhide hbe _).mono ?_; rintro e w' ⟨rfl, rfl⟩) | (go_at_call 116; refine (reach9_any kd sq tk hki0 hki1 h0 h1 _).mono ?_; rintro e w' ⟨rfl, rfl⟩))
        go_roundg (gk - 1)
        case measure => omega
        case rel => exact ⟨k + 1, by omega, by go_num, (by
          intro j hj
          by_cases hjk : j = k
          · subst hjk; exact unhide hfk'
          · exact unhide k3' j (by omega)), rfl⟩
      · have hfk : f k = true := by rw [hse]; exact bne_iff_ne.2 hbz
        clear hse
        have hfk' := hide hfk
        clear hfk
        go_wp2_with (first | (go_at_call 174; refine (unhide hbe _).mono ?_; rintro e w' ⟨rfl, rfl⟩) | (go_at_call 116; refine (reach9_any kd sq tk hki0 hki1 h0 h1 _).mono ?_; rintro e w' ⟨rfl, rfl⟩))
        go_ret
        exact ⟨by rw [any_hit hlt (unhide hfk')]; rfl, unhide hgb⟩
    · have ek : k = 6 := by omega
      subst ek
      go_wp2
      go_ret
      exact ⟨by rw [any_none (unhide k3')]; rfl, unhide hgb⟩

end Go.Proofs.YtnfakamfmkhlbaaGreatDoor.C
