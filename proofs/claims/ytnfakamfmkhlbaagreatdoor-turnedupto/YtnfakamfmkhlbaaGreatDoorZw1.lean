import Derived.Test.YtnfakamfmkhlbaaGreatDoorZx36
import Derived.ChangeKeysEq
import Derived.Lib.IndexLaws
import Derived.LoopTactic
import Derived.Deep.LoopGhost
import Derived.Below
import Derived.Laws.Rows
import Derived.Deep.RegionHeld3
import Derived.Deep.QuietTactic
import Derived.BigQuiet
namespace Go.Proofs.YtnfakamfmkhlbaaGreatDoor.C
end Go.Proofs.YtnfakamfmkhlbaaGreatDoor.C
namespace Go.Proofs.YtnfakamfmkhlbaaGreatDoor.C
open Go.ChangeShapes Go.WideShapes Go.ChangeAt Go.RowKit
open Go.Proofs.YtnfakamfmkhlbaaGreatDoor.P
attribute [local go_sem] qb qd
end Go.Proofs.YtnfakamfmkhlbaaGreatDoor.C
namespace Go.Proofs.YtnfakamfmkhlbaaGreatDoor.C
open Go.ChangeShapes Go.WideShapes Go.ChangeAt Go.RowKit
open Go.Proofs.YtnfakamfmkhlbaaGreatDoor.P
attribute [local go_sem] qb qd
/-- what Format answers. -/
def formatS (z : Nat → UInt8) (wh : Bool) (f : Nat → Bool) (b h g : Int) : Value :=
  if canS z wh f b h g = true then .tuple #[.string ⟨(writeS z wh f b h g).toArray⟩, .int .i64 0] else .tuple #[.string ⟨#[]⟩, .int .i64 2]
theorem write_row {z : Nat → UInt8} {wh : Bool} {f : Nat → Bool} {b h g : Int} {PA : Array Value} (r : Row z wh f b h g PA) (k : canS z wh f b h g = true) (w : World) (ht : Tab w) : Calls Tryz.prog 39 #[.agg PA] w fun e w' => e = .returned (.string ⟨(writeS z wh f b h g).toArray⟩) ∧ Gr w w' := by
  obtain ⟨A, a1, a2, rfl⟩ := rowp_is r
  obtain ⟨_, k1, k2, k3⟩ := can_gives k
  exact write_any z A a1 a2 wh f b h g k1 k2.1 k2.2 (by omega) k3.2 w ht
/-- what the walk through Format holds on to: the box of p. -/
structure Pf (w : World) (PA : Array Value) (cur : World) : Prop where
  p : cur.heap[w.heap.size]? = some (.cells PA 25)
  lt : w.heap.size < cur.heap.size
  gr : Gr w cur
  tab : TabIn cur
  homes : Homes cur
  pow : Tab cur
theorem Pf.next {w cur cur' : World} {PA : Array Value} (h : Pf w PA cur) (g : Gr cur cur') : Pf w PA cur' :=
  ⟨by rw [Below.block g _ h.lt]; exact h.p, Nat.lt_of_lt_of_le h.lt (Below.size g), Gr.trans h.gr g, h.tab.gr g, h.homes.gr g, h.pow.gr g⟩
set_option maxRecDepth 100000 in
set_option maxHeartbeats 8000000 in
theorem format_any {z : Nat → UInt8} {wh : Bool} {f : Nat → Bool} {b h g : Int} {PA : Array Value} (r : Row z wh f b h g PA) (w : World) (hT : TabIn w) (hH : Homes w) (hP : Tab w) : Calls Tryz.prog 14 #[.agg PA] w fun e w' => e = .returned (formatS z wh f b h g) ∧ Gr w w' := by
  have hg1 : Gr w (w.alloc (.cells PA 25)) := (Gr.refl w).alloc _ _
  have hp : Pf w PA (w.alloc (.cells PA 25)) := ⟨heap_alloc_new _ _, by rw [World.size_alloc]; omega, hg1, hT.gr hg1, hH.gr hg1, hP.gr hg1⟩
  have hcan : Hid (∀ W : World, TabIn W → Homes W → Calls Tryz.prog 37 #[.agg PA] W fun e w' => e = .returned (.bool (canS z wh f b h g)) ∧ Gr W w') := hide fun W t h => can_any r W t h
  have hwr : Hid (canS z wh f b h g = true → ∀ W : World, Tab W → Calls Tryz.prog 39 #[.agg PA] W fun e w' => e = .returned (.string ⟨(writeS z wh f b h g).toArray⟩) ∧ Gr W w') := hide fun k W t => write_row r k W t
  have hz := r.size
  have hfm : Hid (formatS z wh f b h g = if canS z wh f b h g = true then .tuple #[.string ⟨(writeS z wh f b h g).toArray⟩, .int .i64 0] else .tuple #[.string ⟨#[]⟩, .int .i64 2]) := hide rfl
  clear r hT hH hP hg1
  generalize formatS z wh f b h g = V at hfm ⊢
  generalize canS z wh f b h g = q at hcan hwr hfm
  generalize (⟨(writeS z wh f b h g).toArray⟩ : ByteArray) = S at hwr hfm
  cases q
  · clear hwr
    go_enter Tryz.func14, Tryz.ntmps14
    go_wp2_with (first | (refine wpList_load_row rfl 25 _ rfl w.heap.size rfl 25 PA (0, 0) _ (Pf.p (by assumption)) Tryz.underlying25 rfl (by rw [hz]; exact infoP) ?_) | (go_at_call 37; refine (qa hcan _ (Pf.tab (w := w) (PA := PA) (by assumption)) (Pf.homes (w := w) (PA := PA) (by assumption))).mono ?_; rintro e w5 ⟨rfl, hg5⟩; have hp5 := Pf.next (by assumption) hg5))
    go_ret2
    exact ⟨by rw [qa hfm]; rfl, hp5.gr⟩
  · replace hwr := hide (qa hwr rfl)
    go_enter Tryz.func14, Tryz.ntmps14
    go_wp2_with (first | (refine wpList_load_row rfl 25 _ rfl w.heap.size rfl 25 PA (0, 0) _ (Pf.p (by assumption)) Tryz.underlying25 rfl (by rw [hz]; exact infoP) ?_) | (go_at_call 37; refine (qa hcan _ (Pf.tab (w := w) (PA := PA) (by assumption)) (Pf.homes (w := w) (PA := PA) (by assumption))).mono ?_; rintro e w5 ⟨rfl, hg5⟩; have hp5 := Pf.next (by assumption) hg5) | (go_at_call 39; refine (qa hwr _ (Pf.pow (w := w) (PA := PA) (by assumption))).mono ?_; rintro e w6 ⟨rfl, hg6⟩; have hp6 := Pf.next (by assumption) hg6))
    go_ret2
    exact ⟨by rw [qa hfm]; rfl, hp6.gr⟩
end Go.Proofs.YtnfakamfmkhlbaaGreatDoor.C
namespace Go.Proofs.YtnfakamfmkhlbaaGreatDoor.C
open Go.ChangeShapes Go.WideShapes Go.ChangeAt Go.RowKit
open Go.Proofs.YtnfakamfmkhlbaaGreatDoor.P
end Go.Proofs.YtnfakamfmkhlbaaGreatDoor.C
namespace Go.Proofs.YtnfakamfmkhlbaaGreatDoor.C
open Go.ChangeShapes Go.WideShapes Go.ChangeAt Go.RowKit
open Go.Proofs.YtnfakamfmkhlbaaGreatDoor.P
end Go.Proofs.YtnfakamfmkhlbaaGreatDoor.C
namespace Go.Proofs.YtnfakamfmkhlbaaGreatDoor.C
open Go.ChangeShapes Go.WideShapes Go.ChangeAt Go.RowKit
end Go.Proofs.YtnfakamfmkhlbaaGreatDoor.C
namespace Go.Proofs.YtnfakamfmkhlbaaGreatDoor.C
open Go.ChangeShapes Go.WideShapes Go.ChangeAt Go.RowKit
open Go.Proofs.YtnfakamfmkhlbaaGreatDoor.P
end Go.Proofs.YtnfakamfmkhlbaaGreatDoor.C
namespace Go.Proofs.YtnfakamfmkhlbaaGreatDoor.C
open Go.ChangeShapes Go.WideShapes Go.ChangeAt Go.RowKit
open Go.Proofs.YtnfakamfmkhlbaaGreatDoor.P
attribute [local go_sem] qb qd
end Go.Proofs.YtnfakamfmkhlbaaGreatDoor.C
namespace Go.Proofs.YtnfakamfmkhlbaaGreatDoor.C
open Go.ChangeShapes Go.WideShapes Go.ChangeAt Go.RowKit
open Go.Proofs.YtnfakamfmkhlbaaGreatDoor.P
attribute [local go_sem] qb qd
attribute [local go_sem] manI_t5 manI_t3 manI_f5 manI_f3
end Go.Proofs.YtnfakamfmkhlbaaGreatDoor.C
namespace Go.Proofs.YtnfakamfmkhlbaaGreatDoor.C
open Go.ChangeShapes Go.WideShapes Go.ChangeAt Go.RowKit
end Go.Proofs.YtnfakamfmkhlbaaGreatDoor.C
namespace Go.Proofs.YtnfakamfmkhlbaaGreatDoor.C
open Go.ChangeShapes Go.WideShapes Go.ChangeAt Go.RowKit
attribute [local go_sem] qb qd
end Go.Proofs.YtnfakamfmkhlbaaGreatDoor.C
namespace Go.Proofs.YtnfakamfmkhlbaaGreatDoor.C
open Go.ChangeShapes Go.WideShapes Go.ChangeAt Go.RowKit
attribute [local go_sem] qb qd
end Go.Proofs.YtnfakamfmkhlbaaGreatDoor.C
namespace Go.Proofs.YtnfakamfmkhlbaaGreatDoor.C
end Go.Proofs.YtnfakamfmkhlbaaGreatDoor.C
namespace Go.Proofs.YtnfakamfmkhlbaaGreatDoor.C
end Go.Proofs.YtnfakamfmkhlbaaGreatDoor.C
namespace Go.Proofs.YtnfakamfmkhlbaaGreatDoor.C
open Go.ChangeShapes Go.WideShapes Go.ChangeAt Go.RowKit
open Go.Proofs.YtnfakamfmkhlbaaGreatDoor.P
section
variable {z : Nat → UInt8} {wh : Bool} {f : Nat → Bool} {b h g : Int} {PA : Array Value}
theorem set_ne {PA : Array Value} {i j : Nat} {v : Value} (h : i ≠ j) : (PA.setIfInBounds i v)[j]? = PA[j]? := by
  rw [Array.getElem?_setIfInBounds, if_neg h]
theorem set_eq {PA : Array Value} {i : Nat} {v : Value} (h : i < PA.size) : (PA.setIfInBounds i v)[i]? = some v := by
  rw [Array.getElem?_setIfInBounds, if_pos rfl, if_pos h]
theorem Row.setWh (r : Row z wh f b h g PA) (x : Bool) : Row z x f b h g (PA.setIfInBounds 64 (.bool x)) := by
  refine ⟨by rw [Array.size_setIfInBounds]; exact r.size, fun j hj => ?_, set_eq (by rw [r.size]; omega), fun j hj => ?_, ?_, ?_, ?_⟩
  · rw [set_ne (by omega)]; exact r.sq j hj
  · rw [set_ne (by omega)]; exact r.c j hj
  · rw [set_ne (by omega)]; exact r.b
  · rw [set_ne (by omega)]; exact r.h
  · rw [set_ne (by omega)]; exact r.g
theorem Row.setC (r : Row z wh f b h g PA) (i : Nat) (hi : i < 4) (x : Bool) : Row z wh (fun j => if j = i then x else f j) b h g (PA.setIfInBounds (65 + i) (.bool x)) := by
  refine ⟨by rw [Array.size_setIfInBounds]; exact r.size, fun j hj => ?_, ?_, fun j hj => ?_, ?_, ?_, ?_⟩
  · rw [set_ne (by omega)]; exact r.sq j hj
  · rw [set_ne (by omega)]; exact r.wh
  · by_cases e : j = i
    · subst e; rw [set_eq (by rw [r.size]; omega), if_pos rfl]
    · rw [set_ne (by omega), if_neg e]; exact r.c j hj
  · rw [set_ne (by omega)]; exact r.b
  · rw [set_ne (by omega)]; exact r.h
  · rw [set_ne (by omega)]; exact r.g
theorem Row.setB (r : Row z wh f b h g PA) (x : Int) : Row z wh f x h g (PA.setIfInBounds 69 (.int .i64 x)) := by
  refine ⟨by rw [Array.size_setIfInBounds]; exact r.size, fun j hj => ?_, ?_, fun j hj => ?_, set_eq (by rw [r.size]; omega), ?_, ?_⟩
  · rw [set_ne (by omega)]; exact r.sq j hj
  · rw [set_ne (by omega)]; exact r.wh
  · rw [set_ne (by omega)]; exact r.c j hj
  · rw [set_ne (by omega)]; exact r.h
  · rw [set_ne (by omega)]; exact r.g
end
end Go.Proofs.YtnfakamfmkhlbaaGreatDoor.C
namespace Go.Proofs.YtnfakamfmkhlbaaGreatDoor.C
open Go.ChangeShapes Go.WideShapes Go.ChangeAt Go.RowKit
open Go.Proofs.YtnfakamfmkhlbaaGreatDoor.P
attribute [local go_sem] qb qd
end Go.Proofs.YtnfakamfmkhlbaaGreatDoor.C
namespace Go.Proofs.YtnfakamfmkhlbaaGreatDoor.C
open Go.ChangeShapes Go.WideShapes Go.ChangeAt Go.RowKit
open Go.Proofs.YtnfakamfmkhlbaaGreatDoor.P
attribute [local go_sem] qb qd
end Go.Proofs.YtnfakamfmkhlbaaGreatDoor.C
namespace Go.Proofs.YtnfakamfmkhlbaaGreatDoor.C
open Go.ChangeShapes Go.WideShapes Go.ChangeAt Go.RowKit
open Go.Proofs.YtnfakamfmkhlbaaGreatDoor.P
/-! what is left of Form behind the ranks: the castlings, the clocks, the square behind -/
end Go.Proofs.YtnfakamfmkhlbaaGreatDoor.C
namespace Go.Proofs.YtnfakamfmkhlbaaGreatDoor.C
open Go.ChangeShapes Go.WideShapes Go.ChangeAt Go.RowKit
attribute [local go_sem] qb qd
end Go.Proofs.YtnfakamfmkhlbaaGreatDoor.C
namespace Go.Proofs.YtnfakamfmkhlbaaGreatDoor.C
open Go.ChangeShapes Go.WideShapes Go.ChangeAt Go.RowKit
attribute [local go_sem] qb qd
end Go.Proofs.YtnfakamfmkhlbaaGreatDoor.C
