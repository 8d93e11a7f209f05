import Derived.Test.YtnfakamfmkhlbaaGreatDoorPar
namespace Go.Proofs.YtnfakamfmkhlbaaGreatDoor.C
open Go.ChangeShapes Go.WideShapes Go.ChangeAt Go.RowKit
open Go.Proofs.YtnfakamfmkhlbaaGreatDoor.P
attribute [local go_sem] setCell_drewN alloc_drewN

/-- what Format answers. -/
def formatS (z : Nat → UInt8) (wh : Bool) (f : Nat → Bool) (b h g : Int) : Value :=
  if canS z wh f b h g = true then .tuple #[.string ⟨(writeS z wh f b h g).toArray⟩, .int .i64 0] else .tuple #[.string ⟨#[]⟩, .int .i64 2]

theorem beh_in {z : Nat → UInt8} {wh : Bool} {b : Int} (h : behOk z wh b = true) : b = -1 ∨ (0 ≤ b ∧ b < 64) := by
  unfold behOk at h
  cases wh <;> simp at h <;> omega
theorem clk_in {h g : Int} (k : clkOk h g = true) : (0 ≤ h ∧ h ≤ 65535) ∧ (1 ≤ g ∧ g ≤ 65535) := by
  unfold clkOk at k
  simp at k
  omega
theorem okY_okL : ∀ c : UInt8, okY c = true → okL c = true := by
  have : ∀ n : Fin 256, okY (UInt8.ofNat n.val) = true → okL (UInt8.ofNat n.val) = true := by decide +kernel
  intro c
  have := this ⟨c.toNat, c.toNat_lt⟩
  simpa using this
/-- what CanBe gives. -/
theorem can_gives {z : Nat → UInt8} {wh : Bool} {f : Nat → Bool} {b h g : Int} (k : canS z wh f b h g = true) : (∀ i, i < 64 → okL (z i) = true) ∧ (b = -1 ∨ (0 ≤ b ∧ b < 64)) ∧ (0 ≤ h ∧ h ≤ 65535) ∧ (1 ≤ g ∧ g ≤ 65535) := by
  unfold canS canM at k
  simp only [Bool.and_eq_true] at k
  obtain ⟨k0, ⟨⟨⟨⟨⟨_, _⟩, _⟩, k4⟩, k5⟩, _⟩⟩ := k
  refine ⟨fun i hi => ?_, beh_in k4, (clk_in k5).1, (clk_in k5).2⟩
  unfold layOk at k0
  exact okY_okL _ (List.all_eq_true.1 k0 i (List.mem_range.2 hi))

theorem rowp_is {z : Nat → UInt8} {wh : Bool} {f : Nat → Bool} {b h g : Int} {PA : Array Value} (r : Row z wh f b h g PA) : ∃ A, A.size = 64 ∧ (∀ i, i < 64 → A[i]? = some (.int .u8 ((z i).toNat : Int))) ∧ PA = posA A wh (f 0) (f 1) (f 2) (f 3) b h g := by
  have hs : (PA.extract 0 64).size = 64 := by rw [Array.size_extract, r.size]; rfl
  have ha : ∀ i, i < 64 → (PA.extract 0 64)[i]? = some (.int .u8 ((z i).toNat : Int)) := fun i hi => by
    rw [Array.getElem?_extract, if_pos (by rw [r.size]; omega), Nat.zero_add]; exact r.sq i hi
  refine ⟨PA.extract 0 64, hs, ha, ?_⟩
  have r2 := row_posA z _ hs ha wh f b h g
  apply Array.ext_getElem?
  intro i
  by_cases h0 : i < 64
  · rw [r.sq i h0, r2.sq i h0]
  · by_cases h1 : i < 72
    · have : i = 64 ∨ i = 65 + 0 ∨ i = 65 + 1 ∨ i = 65 + 2 ∨ i = 65 + 3 ∨ i = 69 ∨ i = 70 ∨ i = 71 := by omega
      rcases this with rfl | rfl | rfl | rfl | rfl | rfl | rfl | rfl
      · rw [r.wh, r2.wh]
      · rw [r.c 0 (by omega), r2.c 0 (by omega)]
      · rw [r.c 1 (by omega), r2.c 1 (by omega)]
      · rw [r.c 2 (by omega), r2.c 2 (by omega)]
      · rw [r.c 3 (by omega), r2.c 3 (by omega)]
      · rw [r.b, r2.b]
      · rw [r.h, r2.h]
      · rw [r.g, r2.g]
    · rw [Array.getElem?_eq_none (by rw [r.size]; omega), Array.getElem?_eq_none (by rw [r2.size]; omega)]

theorem write_row {z : Nat → UInt8} {wh : Bool} {f : Nat → Bool} {b h g : Int} {PA : Array Value} (r : Row z wh f b h g PA) (k : canS z wh f b h g = true) (w : World) (ht : Tab w) : Calls Tryz.prog 39 #[.agg PA] w fun e w' => e = .returned (.string ⟨(writeS z wh f b h g).toArray⟩) ∧ Gr w w' := by
  obtain ⟨A, a1, a2, rfl⟩ := rowp_is r
  obtain ⟨_, k1, k2, k3⟩ := can_gives k
  exact write_any z A a1 a2 wh f b h g k1 k2.1 k2.2 (by omega) k3.2 w ht

/-- what the walk through Format holds on to: the box of p. -/
structure Pf (w : World) (PA : Array Value) (cur : World) : Prop where
  p : cur.heap[w.heap.size]? = some (.cells PA 25)
  lt : w.heap.size < cur.heap.size
  gr : Gr w cur
  tab : TabIn cur
  homes : Homes cur
  pow : Tab cur
theorem Pf.next {w cur cur' : World} {PA : Array Value} (h : Pf w PA cur) (g : Gr cur cur') : Pf w PA cur' :=
  ⟨by rw [Below.block g _ h.lt]; exact h.p, Nat.lt_of_lt_of_le h.lt (Below.size g), Gr.trans h.gr g, h.tab.gr g, h.homes.gr g, h.pow.gr g⟩

set_option maxRecDepth 100000 in
set_option maxHeartbeats 8000000 in
theorem format_any {z : Nat → UInt8} {wh : Bool} {f : Nat → Bool} {b h g : Int} {PA : Array Value} (r : Row z wh f b h g PA) (w : World) (hT : TabIn w) (hH : Homes w) (hP : Tab w) : Calls Tryz.prog 14 #[.agg PA] w fun e w' => e = .returned (formatS z wh f b h g) ∧ Gr w w' := by
  have hg1 : Gr w (w.alloc (.cells PA 25)) := (Gr.refl w).alloc _ _
  have hp : Pf w PA (w.alloc (.cells PA 25)) := ⟨heap_alloc_new _ _, by rw [World.size_alloc]; omega, hg1, hT.gr hg1, hH.gr hg1, hP.gr hg1⟩
  have hcan : Hid (∀ W : World, TabIn W → Homes W → Calls Tryz.prog 37 #[.agg PA] W fun e w' => e = .returned (.bool (canS z wh f b h g)) ∧ Gr W w') := hide fun W t h => can_any r W t h
  have hwr : Hid (canS z wh f b h g = true → ∀ W : World, Tab W → Calls Tryz.prog 39 #[.agg PA] W fun e w' => e = .returned (.string ⟨(writeS z wh f b h g).toArray⟩) ∧ Gr W w') := hide fun k W t => write_row r k W t
  have hz := r.size
  have hfm : Hid (formatS z wh f b h g = if canS z wh f b h g = true then .tuple #[.string ⟨(writeS z wh f b h g).toArray⟩, .int .i64 0] else .tuple #[.string ⟨#[]⟩, .int .i64 2]) := hide rfl
  clear r hT hH hP hg1
  generalize formatS z wh f b h g = V at hfm ⊢
  generalize canS z wh f b h g = q at hcan hwr hfm
  generalize (⟨(writeS z wh f b h g).toArray⟩ : ByteArray) = S at hwr hfm
  cases q
  · clear hwr
    go_enter Tryz.func14, Tryz.ntmps14
    go_wp2_with (first | (refine wpList_load_row rfl 25 _ rfl w.heap.size rfl 25 PA (0, 0) _ (Pf.p (by assumption)) Tryz.underlying25 rfl (by rw [hz]; exact infoP) ?_) | (go_at_call 37; refine (unhide hcan _ (Pf.tab (w := w) (PA := PA) (by assumption)) (Pf.homes (w := w) (PA := PA) (by assumption))).mono ?_; rintro e w5 ⟨rfl, hg5⟩; have hp5 := Pf.next (by assumption) hg5))
    go_ret2
    exact ⟨by rw [unhide hfm]; rfl, hp5.gr⟩
  · replace hwr := hide (unhide hwr rfl)
    go_enter Tryz.func14, Tryz.ntmps14
    go_wp2_with (first | (refine wpList_load_row rfl 25 _ rfl w.heap.size rfl 25 PA (0, 0) _ (Pf.p (by assumption)) Tryz.underlying25 rfl (by rw [hz]; exact infoP) ?_) | (go_at_call 37; refine (unhide hcan _ (Pf.tab (w := w) (PA := PA) (by assumption)) (Pf.homes (w := w) (PA := PA) (by assumption))).mono ?_; rintro e w5 ⟨rfl, hg5⟩; have hp5 := Pf.next (by assumption) hg5) | (go_at_call 39; refine (unhide hwr _ (Pf.pow (w := w) (PA := PA) (by assumption))).mono ?_; rintro e w6 ⟨rfl, hg6⟩; have hp6 := Pf.next (by assumption) hg6))
    go_ret2
    exact ⟨by rw [unhide hfm]; rfl, hp6.gr⟩

end Go.Proofs.YtnfakamfmkhlbaaGreatDoor.C
