import Derived.Test.YtnfakamfmkhlbaaGreatDoorPos6
import Derived.Test.YtnfakamfmkhlbaaGreatDoorInv5
namespace Go.Proofs.YtnfakamfmkhlbaaGreatDoor.C
open Go.ChangeShapes Go.WideShapes Go.ChangeAt Go.RowKit
open Go.Proofs.YtnfakamfmkhlbaaGreatDoor.P
attribute [local go_sem] setCell_drewN alloc_drewN

/-- the letters of a position that was read. -/
def posZ (p : Pos) (i : Nat) : UInt8 := UInt8.ofNat (p.board.getD i 0).toNat
def posCan (p : Pos) : Bool := canS (posZ p) p.white p.castle p.behind p.half p.full

theorem posZ_is {p : Pos} {B : List UInt8} (h : p.board = nI B) : posZ p = zB B := by
  funext i
  unfold posZ zB nI at *
  rw [h]
  rcases Nat.lt_or_ge i B.length with hi | hi
  · rw [List.getD_eq_getElem?_getD, List.getElem?_map, List.getElem?_eq_getElem hi, List.getD_eq_getElem?_getD, List.getElem?_eq_getElem hi]
    simp
  · rw [List.getD_eq_getElem?_getD, List.getElem?_map, List.getElem?_eq_none hi, List.getD_eq_getElem?_getD, List.getElem?_eq_none hi]
    rfl

theorem row_posA (z : Nat → UInt8) (A : Array Value) (hs : A.size = 64) (hA : ∀ i, i < 64 → A[i]? = some (.int .u8 ((z i).toNat : Int))) (wh : Bool) (f : Nat → Bool) (b h g : Int) : Row z wh f b h g (posA A wh (f 0) (f 1) (f 2) (f 3) b h g) := by
  have hp : ∀ i, (posA A wh (f 0) (f 1) (f 2) (f 3) b h g)[i]? = if i < 64 then A[i]? else (#[.bool wh, .bool (f 0), .bool (f 1), .bool (f 2), .bool (f 3), .int .i64 b, .int .i64 h, .int .i64 g] : Array Value)[i - 64]? := fun i => by
    unfold posA; rw [Array.getElem?_append, hs]
  refine ⟨by unfold posA; rw [Array.size_append, hs]; rfl, fun i hi => ?_, ?_, fun i hi => ?_, ?_, ?_, ?_⟩
  · rw [hp, if_pos hi]; exact hA i hi
  · rw [hp]; rfl
  · rw [hp, if_neg (by omega)]
    have : i = 0 ∨ i = 1 ∨ i = 2 ∨ i = 3 := by omega
    rcases this with rfl | rfl | rfl | rfl <;> rfl
  · rw [hp]; rfl
  · rw [hp]; rfl
  · rw [hp]; rfl

theorem boardA_at {p : Pos} {B : List UInt8} (h : p.board = nI B) (hl : B.length = 64) : ((p.board.map (Value.int .u8)).toArray).size = 64 ∧ ∀ i, i < 64 → ((p.board.map (Value.int .u8)).toArray)[i]? = some (.int .u8 ((posZ p i).toNat : Int)) := by
  refine ⟨by rw [h]; simp [nI, hl], fun i hi => ?_⟩
  rw [posZ_is h, h]
  unfold nI zB
  rw [List.getElem?_toArray, List.getElem?_map, List.getElem?_map, List.getElem?_eq_getElem (by omega), List.getD_eq_getElem?_getD, List.getElem?_eq_getElem (by omega)]
  rfl

theorem row_read {s : ByteArray} {p : Pos} (h : readS s = some p) : Row (posZ p) p.white p.castle p.behind p.half p.full (posV p) := by
  obtain ⟨B, h1, h2, _⟩ := read_back s p h
  obtain ⟨a1, a2⟩ := boardA_at h1 h2
  exact row_posA _ _ a1 a2 _ _ _ _ _

/-- what Parse answers. -/
def ParseEnd (s : ByteArray) (e : Ending) : Prop :=
  (∃ p, readS s = some p ∧ posCan p = true ∧ e = .returned (.tuple #[.agg (posV p), .int .i64 0])) ∨
  (∃ p, readS s = some p ∧ posCan p = false ∧ e = .returned (.tuple #[.agg Tryz.zeroCells25, .int .i64 2])) ∨
  (readS s = none ∧ e = .returned (.tuple #[.agg Tryz.zeroCells25, .int .i64 1]))

theorem posV_ones {p : Pos} {B : List UInt8} (h : p.board = nI B) (hl : B.length = 64) : (posV p).size = 72 ∧ (posV p).all (·.oneCell') = true := by
  obtain ⟨a1, a2⟩ := boardA_at h hl
  refine posA_ones ⟨a1, ?_⟩ _ _ _ _ _ _ _ _
  rw [List.all_toArray, List.all_eq_true]
  intro v hv
  obtain ⟨z, _, rfl⟩ := List.mem_map.mp hv; rfl

theorem ReadEnd.plain {s : ByteArray} {e : Ending} (h : ReadEnd s e) : ∃ A ok, e = .returned (.tuple #[.agg A, .bool ok]) ∧ A.size = 72 ∧ A.all (·.oneCell') = true ∧ (ok = true → ∃ p, readS s = some p ∧ A = posV p) ∧ (ok = false → readS s = none) := by
  rcases h with ⟨p, h1, h2, rfl⟩ | ⟨h1, rfl⟩
  · obtain ⟨B, b1, b2, _⟩ := read_back s p h1
    have := posV_ones b1 b2
    exact ⟨posV p, true, rfl, this.1, this.2, fun _ => ⟨p, h1, rfl⟩, fun h => by cases h⟩
  · exact ⟨Tryz.zeroCells25, false, rfl, zeroP, zeroP_ones, (fun h => by cases h), fun _ => h1⟩

/-- what the walk through Parse holds on to: the box of the answer, the box of p. -/
structure Pp (w : World) (bp : Nat) (A : Array Value) (cur : World) : Prop where
  res : cur.heap[w.heap.size]? = some (.cells Tryz.zeroCells25 25)
  p : cur.heap[bp]? = some (.cells A 25)
  lt : bp < cur.heap.size
  lr : w.heap.size < cur.heap.size
  gr : Gr w cur
  tab : TabIn cur
  homes : Homes cur
theorem Pp.next {w cur cur' : World} {bp : Nat} {A : Array Value} (h : Pp w bp A cur) (g : Gr cur cur') : Pp w bp A cur' :=
  ⟨by rw [Below.block g _ h.lr]; exact h.res, by rw [Below.block g _ h.lt]; exact h.p, Nat.lt_of_lt_of_le h.lt (Below.size g), Nat.lt_of_lt_of_le h.lr (Below.size g), Gr.trans h.gr g, h.tab.gr g, h.homes.gr g⟩

set_option maxRecDepth 100000 in
set_option maxHeartbeats 8000000 in
theorem parse_any (s : ByteArray) (hs : s.size < 4294967281) (m : Int) (w : World) (hm : w.cell? ⟨4, 0, none⟩ = some (.int .i64 m)) (hz : 4 < w.heap.size) (hT : TabIn w) (hH : Homes w) : Calls Tryz.prog 12 #[.string s] w fun e w' => ParseEnd s e ∧ Gr w w' := by
  have hg1 : Gr w (w.alloc (.cells Tryz.zeroCells25 25)) := (Gr.refl w).alloc _ _
  have hT1 := hide (hT.gr hg1)
  have hH1 := hide (hH.gr hg1)
  have hr : Hid (Calls Tryz.prog 36 #[.string s] (w.alloc (.cells Tryz.zeroCells25 25)) fun e w' => ∃ A ok, e = .returned (.tuple #[.agg A, .bool ok]) ∧ A.size = 72 ∧ A.all (·.oneCell') = true ∧ (ok = true → ∃ p, readS s = some p ∧ A = posV p) ∧ (ok = false → readS s = none) ∧ Gr (w.alloc (.cells Tryz.zeroCells25 25)) w') := hide ((read_any s hs m _ (by rw [World.cell?_alloc_past _ _ _ hz]; exact hm) (by rw [World.size_alloc]; omega)).mono fun e w' h => by
    obtain ⟨A, ok, h1, h2, h3, h4, h5⟩ := h.1.plain
    exact ⟨A, ok, h1, h2, h3, h4, h5, h.2⟩)
  have hb1 : Hid ((w.alloc (.cells Tryz.zeroCells25 25)).heap[w.heap.size]? = some (.cells Tryz.zeroCells25 25)) := hide (heap_alloc_new _ _)
  have hl1 : Hid (w.heap.size < (w.alloc (.cells Tryz.zeroCells25 25)).heap.size) := hide (by rw [World.size_alloc]; omega)
  have hg1' := hide hg1
  clear hg1 hT hH hm hz hs
  go_enter Tryz.func12, Tryz.ntmps12
  go_upto_region 2 with (first
    | (go_at_call 36; refine (unhide hr).mono ?_; rintro e w3 ⟨A, ok, rfl, hz, ho, hy, hn, hg3⟩)
    | (refine wpList_store_row rfl 25 _ _ rfl w3.heap.size A rfl rfl 25 _ (heap_alloc_new _ _) (by rw [hz]; exact infoP) (by rw [hz]; exact zeroP.symm) ho ?_))
  generalize hw4 : (w3.alloc (.cells Tryz.zeroCells25 25)).setRow w3.heap.size A = w4
  have hg4 : Gr w3 w4 := by rw [← hw4]; exact ((Gr.refl w3).alloc _ _).setRow _ (Nat.le_refl _) _
  have hg14 := Gr.trans hg3 hg4
  have hp : Pp w w3.heap.size A w4 := ⟨by rw [Below.block hg14 _ (unhide hl1)]; exact unhide hb1, by rw [← hw4]; exact setRow_heap _ _ _ _ _ _ (heap_alloc_new w3 _), by rw [← hw4, size_setRow, World.size_alloc]; omega, Nat.lt_of_lt_of_le (unhide hl1) (Below.size hg14), Gr.trans (unhide hg1') hg14, (unhide hT1).gr hg14, (unhide hH1).gr hg14⟩
  generalize w3.heap.size = bp at hp ⊢
  clear hw4 hg4 hg14 hg3 hr hb1 hl1 hg1' hT1 hH1
  cases ok
  · have hend : Hid (ParseEnd s (.returned (.tuple #[.agg Tryz.zeroCells25, .int .i64 1]))) := hide (.inr (.inr ⟨hn rfl, rfl⟩))
    clear hn hy
    go_wp2_with (refine wpList_store_row rfl 25 _ _ rfl w.heap.size Tryz.zeroCells25 rfl rfl 25 Tryz.zeroCells25 (Pp.res (bp := bp) (A := A) (by assumption)) (by rw [zeroP]; exact infoP) rfl zeroP_ones ?_)
    exact bodyPost_ret (v := .tuple #[.agg Tryz.zeroCells25, .int .i64 1]) (results_cell_tmp Tryz.results12 _ _ w.heap.size 25 _ (0, 0) _ rfl (setRow_heap _ _ _ _ _ _ hp.res) Tryz.underlying25 rfl (by rw [zeroP]; exact infoP)) rfl ⟨unhide hend, hp.gr.setRow _ (Nat.le_refl _) _⟩
  · obtain ⟨p, hp1, hp2⟩ := hy rfl
    have hcan : Hid (∀ W : World, TabIn W → Homes W → Calls Tryz.prog 37 #[.agg A] W fun e w' => e = .returned (.bool (posCan p)) ∧ Gr W w') := hide fun W t h => by rw [hp2]; exact can_any (row_read hp1) W t h
    clear hy hn
    obtain ⟨q, hq⟩ : ∃ q, posCan p = q := ⟨_, rfl⟩
    cases q
    · have hend : Hid (ParseEnd s (.returned (.tuple #[.agg Tryz.zeroCells25, .int .i64 2]))) := hide (.inr (.inl ⟨p, hp1, hq, rfl⟩))
      rw [hq] at hcan
      clear hp1 hp2 hq
      go_wp2_with (first | (refine wpList_store_row rfl 25 _ _ rfl w.heap.size Tryz.zeroCells25 rfl rfl 25 Tryz.zeroCells25 (Pp.res (bp := bp) (A := A) (by assumption)) (by rw [zeroP]; exact infoP) rfl zeroP_ones ?_) | (refine wpList_load_row rfl 25 _ rfl bp rfl 25 A (0, 0) _ (Pp.p (w := w) (by assumption)) Tryz.underlying25 rfl (by rw [hz]; exact infoP) ?_) | (go_at_call 37; refine (unhide hcan _ (Pp.tab (w := w) (bp := bp) (A := A) (by assumption)) (Pp.homes (w := w) (bp := bp) (A := A) (by assumption))).mono ?_; rintro e w5 ⟨rfl, hg5⟩; have hp5 := Pp.next (by assumption) hg5))
      exact bodyPost_ret (v := .tuple #[.agg Tryz.zeroCells25, .int .i64 2]) (results_cell_tmp Tryz.results12 _ _ w.heap.size 25 _ (0, 0) _ rfl (setRow_heap _ _ _ _ _ _ hp5.res) Tryz.underlying25 rfl (by rw [zeroP]; exact infoP)) rfl ⟨unhide hend, hp5.gr.setRow _ (Nat.le_refl _) _⟩
    · have hend : Hid (ParseEnd s (.returned (.tuple #[.agg A, .int .i64 0]))) := hide (.inl ⟨p, hp1, hq, by rw [hp2]⟩)
      rw [hq] at hcan
      clear hp1 hp2 hq
      go_wp2_with (first | (refine wpList_store_row rfl 25 _ _ rfl w.heap.size A rfl rfl 25 Tryz.zeroCells25 (Pp.res (bp := bp) (A := A) (by assumption)) (by rw [hz]; exact infoP) (by rw [hz]; exact zeroP.symm) ho ?_) | (refine wpList_load_row rfl 25 _ rfl bp rfl 25 A (0, 0) _ (Pp.p (w := w) (by assumption)) Tryz.underlying25 rfl (by rw [hz]; exact infoP) ?_) | (go_at_call 37; refine (unhide hcan _ (Pp.tab (w := w) (bp := bp) (A := A) (by assumption)) (Pp.homes (w := w) (bp := bp) (A := A) (by assumption))).mono ?_; rintro e w5 ⟨rfl, hg5⟩; have hp5 := Pp.next (by assumption) hg5))
      exact bodyPost_ret (v := .tuple #[.agg A, .int .i64 0]) (results_cell_tmp Tryz.results12 _ _ w.heap.size 25 _ (0, 0) _ rfl (setRow_heap _ _ _ _ _ _ hp5.res) Tryz.underlying25 rfl (by rw [hz]; exact infoP)) rfl ⟨unhide hend, hp5.gr.setRow _ (Nat.le_refl _) _⟩

end Go.Proofs.YtnfakamfmkhlbaaGreatDoor.C
