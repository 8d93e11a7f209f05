import Derived.Test.YtnfakamfmkhlbaaGreatDoorFrp
import Derived.Test.YtnfakamfmkhlbaaGreatDoorRfL
namespace Go.Proofs.YtnfakamfmkhlbaaGreatDoor.C
open Go.ChangeShapes Go.WideShapes Go.ChangeAt Go.RowKit
open Go.Proofs.YtnfakamfmkhlbaaGreatDoor.P

theorem FormEnd.plain {s : ByteArray} {e : Ending} (h : FormEnd s e) : ∃ A ok, e = .returned (.tuple #[.agg A, .bool ok]) ∧ A.size = 72 ∧ A.all (·.oneCell') = true ∧ (ok = true → ∃ p, readS s = some p ∧ A = posV p) ∧ (ok = false → readS s = none) := by
  rcases h with ⟨p, h1, rfl⟩ | ⟨h1, A, h2, h3, rfl⟩
  · obtain ⟨B, b1, b2, _⟩ := read_back s p h1
    have := posV_ones b1 b2
    exact ⟨posV p, true, rfl, this.1, this.2, fun _ => ⟨p, h1, rfl⟩, fun h => by cases h⟩
  · exact ⟨A, false, rfl, h2, h3, (fun h => by cases h), fun _ => h1⟩

/-- what the walk through the reference's Parse holds on to: the box of the answer, the box of p. -/
structure Pr (w : World) (bp : Nat) (A : Array Value) (cur : World) : Prop where
  res : cur.heap[w.heap.size]? = some (.cells Tryz.zeroCells25 25)
  p : cur.heap[bp]? = some (.cells A 25)
  lt : bp < cur.heap.size
  lr : w.heap.size < cur.heap.size
  gr : Gr w cur
theorem Pr.next {w cur cur' : World} {bp : Nat} {A : Array Value} (h : Pr w bp A cur) (g : Gr cur cur') : Pr w bp A cur' :=
  ⟨by rw [Below.block g _ h.lr]; exact h.res, by rw [Below.block g _ h.lt]; exact h.p, Nat.lt_of_lt_of_le h.lt (Below.size g), Nat.lt_of_lt_of_le h.lr (Below.size g), Gr.trans h.gr g⟩

set_option maxRecDepth 100000 in
set_option maxHeartbeats 8000000 in
theorem parseR_any (s : ByteArray) (hs : s.size < 4294967281) (w : World) : Calls Tryz.prog 38 #[.string s] w fun e w' => ParseEnd s e ∧ Gr w w' := by
  have hg1 : Gr w (w.alloc (.cells Tryz.zeroCells25 25)) := (Gr.refl w).alloc _ _
  have hr : Hid (Calls Tryz.prog 79 #[.string s] (w.alloc (.cells Tryz.zeroCells25 25)) fun e w' => ∃ A ok, e = .returned (.tuple #[.agg A, .bool ok]) ∧ A.size = 72 ∧ A.all (·.oneCell') = true ∧ (ok = true → ∃ p, readS s = some p ∧ A = posV p) ∧ (ok = false → readS s = none) ∧ Gr (w.alloc (.cells Tryz.zeroCells25 25)) w') := hide ((form_any s hs _).mono fun e w' h => by
    obtain ⟨A, ok, h1, h2, h3, h4, h5⟩ := h.1.plain
    exact ⟨A, ok, h1, h2, h3, h4, h5, h.2⟩)
  have hb1 : Hid ((w.alloc (.cells Tryz.zeroCells25 25)).heap[w.heap.size]? = some (.cells Tryz.zeroCells25 25)) := hide (heap_alloc_new _ _)
  have hl1 : Hid (w.heap.size < (w.alloc (.cells Tryz.zeroCells25 25)).heap.size) := hide (by rw [World.size_alloc]; omega)
  have hg1' := hide hg1
  clear hg1 hs
  go_enter Tryz.func38, Tryz.ntmps38
  go_upto_region 2 with (first
    | (go_at_call 79; refine (unhide hr).mono ?_; rintro e w3 ⟨A, ok, rfl, hz, ho, hy, hn, hg3⟩)
    | (refine wpList_store_row rfl 25 _ _ rfl w3.heap.size A rfl rfl 25 _ (heap_alloc_new _ _) (by rw [hz]; exact infoP) (by rw [hz]; exact zeroP.symm) ho ?_))
  generalize hw4 : (w3.alloc (.cells Tryz.zeroCells25 25)).setRow w3.heap.size A = w4
  have hg4 : Gr w3 w4 := by rw [← hw4]; exact ((Gr.refl w3).alloc _ _).setRow _ (Nat.le_refl _) _
  have hg14 := Gr.trans hg3 hg4
  have hp : Pr w w3.heap.size A w4 := ⟨by rw [Below.block hg14 _ (unhide hl1)]; exact unhide hb1, by rw [← hw4]; exact setRow_heap _ _ _ _ _ _ (heap_alloc_new w3 _), by rw [← hw4, size_setRow, World.size_alloc]; omega, Nat.lt_of_lt_of_le (unhide hl1) (Below.size hg14), Gr.trans (unhide hg1') hg14⟩
  generalize w3.heap.size = bp at hp ⊢
  clear hw4 hg4 hg14 hg3 hr hb1 hl1 hg1'
  cases ok
  · have hend : Hid (ParseEnd s (.returned (.tuple #[.agg Tryz.zeroCells25, .int .i64 1]))) := hide (.inr (.inr ⟨hn rfl, rfl⟩))
    clear hn hy
    go_wp2_with (refine wpList_store_row rfl 25 _ _ rfl w.heap.size Tryz.zeroCells25 rfl rfl 25 Tryz.zeroCells25 (Pr.res (bp := bp) (A := A) (by assumption)) (by rw [zeroP]; exact infoP) rfl zeroP_ones ?_)
    exact bodyPost_ret (v := .tuple #[.agg Tryz.zeroCells25, .int .i64 1]) (results_cell_tmp Tryz.results38 _ _ w.heap.size 25 _ (0, 0) _ rfl (setRow_heap _ _ _ _ _ _ hp.res) Tryz.underlying25 rfl (by rw [zeroP]; exact infoP)) rfl ⟨unhide hend, hp.gr.setRow _ (Nat.le_refl _) _⟩
  · obtain ⟨p, hp1, hp2⟩ := hy rfl
    have hcan : Hid (∀ W : World, Calls Tryz.prog 40 #[.agg A] W fun e w' => e = .returned (.bool (posCan p)) ∧ Gr W w') := hide fun W => by rw [hp2]; exact can_ref (row_read hp1) W
    clear hy hn
    obtain ⟨q, hq⟩ : ∃ q, posCan p = q := ⟨_, rfl⟩
    cases q
    · have hend : Hid (ParseEnd s (.returned (.tuple #[.agg Tryz.zeroCells25, .int .i64 2]))) := hide (.inr (.inl ⟨p, hp1, hq, rfl⟩))
      rw [hq] at hcan
      clear hp1 hp2 hq
      go_wp2_with (first | (refine wpList_store_row rfl 25 _ _ rfl w.heap.size Tryz.zeroCells25 rfl rfl 25 Tryz.zeroCells25 (Pr.res (bp := bp) (A := A) (by assumption)) (by rw [zeroP]; exact infoP) rfl zeroP_ones ?_) | (refine wpList_load_row rfl 25 _ rfl bp rfl 25 A (0, 0) _ (Pr.p (w := w) (by assumption)) Tryz.underlying25 rfl (by rw [hz]; exact infoP) ?_) | (go_at_call 40; refine (unhide hcan _).mono ?_; rintro e w5 ⟨rfl, hg5⟩; have hp5 := Pr.next (by assumption) hg5))
      exact bodyPost_ret (v := .tuple #[.agg Tryz.zeroCells25, .int .i64 2]) (results_cell_tmp Tryz.results38 _ _ w.heap.size 25 _ (0, 0) _ rfl (setRow_heap _ _ _ _ _ _ hp5.res) Tryz.underlying25 rfl (by rw [zeroP]; exact infoP)) rfl ⟨unhide hend, hp5.gr.setRow _ (Nat.le_refl _) _⟩
    · have hend : Hid (ParseEnd s (.returned (.tuple #[.agg A, .int .i64 0]))) := hide (.inl ⟨p, hp1, hq, by rw [hp2]⟩)
      rw [hq] at hcan
      clear hp1 hp2 hq
      go_wp2_with (first | (refine wpList_store_row rfl 25 _ _ rfl w.heap.size A rfl rfl 25 Tryz.zeroCells25 (Pr.res (bp := bp) (A := A) (by assumption)) (by rw [hz]; exact infoP) (by rw [hz]; exact zeroP.symm) ho ?_) | (refine wpList_load_row rfl 25 _ rfl bp rfl 25 A (0, 0) _ (Pr.p (w := w) (by assumption)) Tryz.underlying25 rfl (by rw [hz]; exact infoP) ?_) | (go_at_call 40; refine (unhide hcan _).mono ?_; rintro e w5 ⟨rfl, hg5⟩; have hp5 := Pr.next (by assumption) hg5))
      exact bodyPost_ret (v := .tuple #[.agg A, .int .i64 0]) (results_cell_tmp Tryz.results38 _ _ w.heap.size 25 _ (0, 0) _ rfl (setRow_heap _ _ _ _ _ _ hp5.res) Tryz.underlying25 rfl (by rw [hz]; exact infoP)) rfl ⟨unhide hend, hp5.gr.setRow _ (Nat.le_refl _) _⟩

end Go.Proofs.YtnfakamfmkhlbaaGreatDoor.C
