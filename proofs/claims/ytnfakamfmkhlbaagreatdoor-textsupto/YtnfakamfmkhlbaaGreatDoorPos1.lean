import Derived.Test.YtnfakamfmkhlbaaGreatDoorLay
import Derived.Test.YtnfakamfmkhlbaaGreatDoorWr4
namespace Go.Proofs.YtnfakamfmkhlbaaGreatDoor.C
open Go.ChangeShapes Go.WideShapes Go.ChangeAt Go.RowKit
open Go.Proofs.YtnfakamfmkhlbaaGreatDoor.P
attribute [local go_sem] setCell_drewN alloc_drewN

/-- the cells of a position, as a row. -/
structure Row (z : Nat → UInt8) (wh : Bool) (f : Nat → Bool) (b h g : Int) (PA : Array Value) : Prop where
  size : PA.size = 72
  sq : ∀ i, i < 64 → PA[i]? = some (.int .u8 ((z i).toNat : Int))
  wh : PA[64]? = some (.bool wh)
  c : ∀ i, i < 4 → PA[65 + i]? = some (.bool (f i))
  b : PA[69]? = some (.int .i64 b)
  h : PA[70]? = some (.int .i64 h)
  g : PA[71]? = some (.int .i64 g)

def clkOk (h g : Int) : Bool := decide (0 ≤ h) && decide (h ≤ 65535) && decide (1 ≤ g) && decide (g ≤ 65535)

set_option maxRecDepth 100000 in
set_option maxHeartbeats 4000000 in
theorem clocks_any {z : Nat → UInt8} {wh : Bool} {f : Nat → Bool} {b h g : Int} {PA : Array Value} (r : Row z wh f b h g PA) (w : World) : Calls Tryz.prog 77 #[.agg PA] w fun e w' => e = .returned (.bool (clkOk h g)) ∧ Gr w w' := by
  have hc70 : (w.alloc (.cells PA 25)).cell? ⟨w.heap.size, 70, none⟩ = some (.int .i64 h) := by rw [World.cell?_alloc_at _ _ _ _ rfl]; exact r.h
  have hc71 : (w.alloc (.cells PA 25)).cell? ⟨w.heap.size, 71, none⟩ = some (.int .i64 g) := by rw [World.cell?_alloc_at _ _ _ _ rfl]; exact r.g
  clear r
  obtain ⟨v, hv⟩ : ∃ v, Hid (clkOk h g = v) := ⟨_, hide rfl⟩
  rw [unhide hv]
  by_cases h0 : 0 ≤ h
  · by_cases h1 : h ≤ 65535
    · by_cases g0 : 1 ≤ g
      · by_cases g1 : g ≤ 65535
        · have e : true = v := by rw [← unhide hv]; simp [clkOk, h0, h1, g0, g1]
          subst e
          clear hv
          go_enter Tryz.func77, Tryz.ntmps77
          go_wp2
          go_ret
          exact ⟨rfl, (Gr.refl _).alloc _ _⟩
        · have e : false = v := by rw [← unhide hv]; simp [clkOk, g1]
          subst e
          clear hv
          go_enter Tryz.func77, Tryz.ntmps77
          go_wp2
          go_ret
          exact ⟨rfl, (Gr.refl _).alloc _ _⟩
      · have e : false = v := by rw [← unhide hv]; simp [clkOk, g0]
        subst e
        clear hv
        go_enter Tryz.func77, Tryz.ntmps77
        go_wp2
        go_ret
        exact ⟨rfl, (Gr.refl _).alloc _ _⟩
    · have e : false = v := by rw [← unhide hv]; simp [clkOk, h1]
      subst e
      clear hv
      go_enter Tryz.func77, Tryz.ntmps77
      go_wp2
      go_ret
      exact ⟨rfl, (Gr.refl _).alloc _ _⟩
  · have e : false = v := by rw [← unhide hv]; simp [clkOk, h0]
    subst e
    clear hv
    go_enter Tryz.func77, Tryz.ntmps77
    go_wp2
    go_ret
    exact ⟨rfl, (Gr.refl _).alloc _ _⟩

end Go.Proofs.YtnfakamfmkhlbaaGreatDoor.C
