import Derived.Test.YtnfakamfmkhlbaaGreatDoorPos1
namespace Go.Proofs.YtnfakamfmkhlbaaGreatDoor.C
open Go.ChangeShapes Go.WideShapes Go.ChangeAt Go.RowKit
open Go.Proofs.YtnfakamfmkhlbaaGreatDoor.P
attribute [local go_sem] setCell_drewN alloc_drewN

def zi (z : Nat → UInt8) (n : Nat) : Int := ((z n).toNat : Int)
def behOk (z : Nat → UInt8) (wh : Bool) (b : Int) : Bool :=
  decide (b = -1) || (if wh then decide (40 ≤ b) && decide (b < 48) && decide (((z b.toNat).toNat : Int) = 46) && decide (((z (b + 8).toNat).toNat : Int) = 46) && decide (((z (b - 8).toNat).toNat : Int) = 112)
    else decide (16 ≤ b) && decide (b < 24) && decide (((z b.toNat).toNat : Int) = 46) && decide (((z (b - 8).toNat).toNat : Int) = 46) && decide (((z (b + 8).toNat).toNat : Int) = 80))

set_option linter.unusedSimpArgs false in
set_option maxRecDepth 100000 in
set_option maxHeartbeats 4000000 in
theorem behok_t {z : Nat → UInt8} {f : Nat → Bool} {b h g : Int} {PA : Array Value} (r : Row z true f b h g PA) (hb1 : b ≠ -1) (w : World) : Calls Tryz.prog 76 #[.agg PA] w fun e w' => e = .returned (.bool (behOk z true b)) ∧ Gr w w' := by
  have hc : ∀ o, (w.alloc (.cells PA 25)).cell? ⟨w.heap.size, o, none⟩ = PA[o]? := fun o => World.cell?_alloc_at _ _ _ _ rfl
  have hc64 : (w.alloc (.cells PA 25)).cell? ⟨w.heap.size, 64, none⟩ = some (.bool true) := by rw [hc]; exact r.wh
  have hc69 : (w.alloc (.cells PA 25)).cell? ⟨w.heap.size, 69, none⟩ = some (.int .i64 b) := by rw [hc]; exact r.b
  by_cases h0 : 40 ≤ b
  · by_cases h1 : b < 48
    · obtain ⟨n, rfl⟩ : ∃ n : Nat, b = n := ⟨b.toNat, by omega⟩
      have n0 : 40 ≤ n := by omega
      have hn8 : ((n : Int) + -8).toNat = n - 8 := by omega
      have n1 : n < 48 := by omega
      have hx0 : (w.alloc (.cells PA 25)).cell? ⟨w.heap.size, n, none⟩ = some (.int .u8 ((z n).toNat : Int)) := by rw [hc]; exact r.sq n (by omega)
      have hx1 : (w.alloc (.cells PA 25)).cell? ⟨w.heap.size, n + 8, none⟩ = some (.int .u8 ((z (n + 8)).toNat : Int)) := by rw [hc]; exact r.sq _ (by omega)
      have hx2 : (w.alloc (.cells PA 25)).cell? ⟨w.heap.size, n - 8, none⟩ = some (.int .u8 ((z (n - 8)).toNat : Int)) := by rw [hc]; exact r.sq _ (by omega)
      have hv0 : behOk z true (n : Int) = (decide (((z n).toNat : Int) = 46) && decide (((z (n + 8)).toNat : Int) = 46) && decide (((z (n - 8)).toNat : Int) = 112)) := by
        have e1 : ((n : Int) + 8).toNat = n + 8 := by omega
        have e2 : ((n : Int) - 8).toNat = n - 8 := by omega
        have d0 : decide ((n : Int) = -1) = false := decide_eq_false (by omega)
        have d1 : decide ((40 : Int) ≤ n) = true := decide_eq_true (by omega)
        have d2 : decide ((n : Int) < 48) = true := decide_eq_true (by omega)
        unfold behOk
        rw [d0, d1, d2, e1, e2, Int.toNat_natCast]
        simp only [Bool.false_or, Bool.true_and, if_true, if_false, Bool.false_eq_true]
      rw [hv0]
      clear hv0 r hc
      generalize ((z n).toNat : Int) = x0 at hx0 ⊢
      generalize ((z (n + 8)).toNat : Int) = x1 at hx1 ⊢
      generalize ((z (n - 8)).toNat : Int) = x2 at hx2 ⊢
      obtain ⟨v, hv⟩ : ∃ v, Hid ((decide (x0 = 46) && decide (x1 = 46) && decide (x2 = 112)) = v) := ⟨_, hide rfl⟩
      rw [unhide hv]
      by_cases k0 : x0 = 46
      · by_cases k1 : x1 = 46
        · by_cases k2 : x2 = 112
          · have e : true = v := by rw [← unhide hv]; simp [k0, k1, k2]
            subst e
            clear hv
            go_enter Tryz.func76, Tryz.ntmps76
            go_wp2
            go_ret
            exact ⟨rfl, (Gr.refl _).alloc _ _⟩
          · have e : false = v := by rw [← unhide hv]; simp [k2]
            subst e
            clear hv
            have k2b := beq_eq_false_iff_ne.2 k2
            go_enter Tryz.func76, Tryz.ntmps76
            go_wp2
            go_ret
            exact ⟨rfl, (Gr.refl _).alloc _ _⟩
        · have e : false = v := by rw [← unhide hv]; simp [k1]
          subst e
          clear hv
          go_enter Tryz.func76, Tryz.ntmps76
          go_wp2
          go_ret
          exact ⟨rfl, (Gr.refl _).alloc _ _⟩
      · have e : false = v := by rw [← unhide hv]; simp [k0]
        subst e
        clear hv
        go_enter Tryz.func76, Tryz.ntmps76
        go_wp2
        go_ret
        exact ⟨rfl, (Gr.refl _).alloc _ _⟩
    · obtain ⟨v, hv⟩ : ∃ v, Hid (behOk z true b = v) := ⟨_, hide rfl⟩
      rw [unhide hv]
      clear r hc
      have e : false = v := by rw [← unhide hv]; simp [behOk, hb1]; omega
      subst e
      clear hv
      go_enter Tryz.func76, Tryz.ntmps76
      go_wp2
      go_ret
      exact ⟨rfl, (Gr.refl _).alloc _ _⟩
  · obtain ⟨v, hv⟩ : ∃ v, Hid (behOk z true b = v) := ⟨_, hide rfl⟩
    rw [unhide hv]
    clear r hc
    have e : false = v := by rw [← unhide hv]; simp [behOk, hb1]; omega
    subst e
    clear hv
    go_enter Tryz.func76, Tryz.ntmps76
    go_wp2
    go_ret
    exact ⟨rfl, (Gr.refl _).alloc _ _⟩

set_option linter.unusedSimpArgs false in
set_option maxRecDepth 100000 in
set_option maxHeartbeats 4000000 in
theorem behok_f {z : Nat → UInt8} {f : Nat → Bool} {b h g : Int} {PA : Array Value} (r : Row z false f b h g PA) (hb1 : b ≠ -1) (w : World) : Calls Tryz.prog 76 #[.agg PA] w fun e w' => e = .returned (.bool (behOk z false b)) ∧ Gr w w' := by
  have hc : ∀ o, (w.alloc (.cells PA 25)).cell? ⟨w.heap.size, o, none⟩ = PA[o]? := fun o => World.cell?_alloc_at _ _ _ _ rfl
  have hc64 : (w.alloc (.cells PA 25)).cell? ⟨w.heap.size, 64, none⟩ = some (.bool false) := by rw [hc]; exact r.wh
  have hc69 : (w.alloc (.cells PA 25)).cell? ⟨w.heap.size, 69, none⟩ = some (.int .i64 b) := by rw [hc]; exact r.b
  by_cases h0 : 16 ≤ b
  · by_cases h1 : b < 24
    · obtain ⟨n, rfl⟩ : ∃ n : Nat, b = n := ⟨b.toNat, by omega⟩
      have n0 : 16 ≤ n := by omega
      have n1 : n < 24 := by omega
      have hx0 : (w.alloc (.cells PA 25)).cell? ⟨w.heap.size, n, none⟩ = some (.int .u8 ((z n).toNat : Int)) := by rw [hc]; exact r.sq n (by omega)
      have hx1 : (w.alloc (.cells PA 25)).cell? ⟨w.heap.size, n - 8, none⟩ = some (.int .u8 ((z (n - 8)).toNat : Int)) := by rw [hc]; exact r.sq _ (by omega)
      have hx2 : (w.alloc (.cells PA 25)).cell? ⟨w.heap.size, n + 8, none⟩ = some (.int .u8 ((z (n + 8)).toNat : Int)) := by rw [hc]; exact r.sq _ (by omega)
      have hv0 : behOk z false (n : Int) = (decide (((z n).toNat : Int) = 46) && decide (((z (n - 8)).toNat : Int) = 46) && decide (((z (n + 8)).toNat : Int) = 80)) := by
        have e1 : ((n : Int) + 8).toNat = n + 8 := by omega
        have e2 : ((n : Int) - 8).toNat = n - 8 := by omega
        have d0 : decide ((n : Int) = -1) = false := decide_eq_false (by omega)
        have d1 : decide ((16 : Int) ≤ n) = true := decide_eq_true (by omega)
        have d2 : decide ((n : Int) < 24) = true := decide_eq_true (by omega)
        unfold behOk
        rw [d0, d1, d2, e1, e2, Int.toNat_natCast]
        simp only [Bool.false_or, Bool.true_and, if_true, if_false, Bool.false_eq_true]
      rw [hv0]
      clear hv0 r hc
      generalize ((z n).toNat : Int) = x0 at hx0 ⊢
      generalize ((z (n - 8)).toNat : Int) = x1 at hx1 ⊢
      generalize ((z (n + 8)).toNat : Int) = x2 at hx2 ⊢
      obtain ⟨v, hv⟩ : ∃ v, Hid ((decide (x0 = 46) && decide (x1 = 46) && decide (x2 = 80)) = v) := ⟨_, hide rfl⟩
      rw [unhide hv]
      by_cases k0 : x0 = 46
      · by_cases k1 : x1 = 46
        · by_cases k2 : x2 = 80
          · have e : true = v := by rw [← unhide hv]; simp [k0, k1, k2]
            subst e
            clear hv
            go_enter Tryz.func76, Tryz.ntmps76
            go_wp2
            go_ret
            exact ⟨rfl, (Gr.refl _).alloc _ _⟩
          · have e : false = v := by rw [← unhide hv]; simp [k2]
            subst e
            clear hv
            have k2b := beq_eq_false_iff_ne.2 k2
            go_enter Tryz.func76, Tryz.ntmps76
            go_wp2
            go_ret
            exact ⟨rfl, (Gr.refl _).alloc _ _⟩
        · have e : false = v := by rw [← unhide hv]; simp [k1]
          subst e
          clear hv
          go_enter Tryz.func76, Tryz.ntmps76
          go_wp2
          go_ret
          exact ⟨rfl, (Gr.refl _).alloc _ _⟩
      · have e : false = v := by rw [← unhide hv]; simp [k0]
        subst e
        clear hv
        go_enter Tryz.func76, Tryz.ntmps76
        go_wp2
        go_ret
        exact ⟨rfl, (Gr.refl _).alloc _ _⟩
    · obtain ⟨v, hv⟩ : ∃ v, Hid (behOk z false b = v) := ⟨_, hide rfl⟩
      rw [unhide hv]
      clear r hc
      have e : false = v := by rw [← unhide hv]; simp [behOk, hb1]; omega
      subst e
      clear hv
      go_enter Tryz.func76, Tryz.ntmps76
      go_wp2
      go_ret
      exact ⟨rfl, (Gr.refl _).alloc _ _⟩
  · obtain ⟨v, hv⟩ : ∃ v, Hid (behOk z false b = v) := ⟨_, hide rfl⟩
    rw [unhide hv]
    clear r hc
    have e : false = v := by rw [← unhide hv]; simp [behOk, hb1]; omega
    subst e
    clear hv
    go_enter Tryz.func76, Tryz.ntmps76
    go_wp2
    go_ret
    exact ⟨rfl, (Gr.refl _).alloc _ _⟩

theorem behok_m {z : Nat → UInt8} {wh : Bool} {f : Nat → Bool} {h g : Int} {PA : Array Value} (r : Row z wh f (-1) h g PA) (w : World) : Calls Tryz.prog 76 #[.agg PA] w fun e w' => e = .returned (.bool (behOk z wh (-1))) ∧ Gr w w' := by
  have hc69 : (w.alloc (.cells PA 25)).cell? ⟨w.heap.size, 69, none⟩ = some (.int .i64 (-1)) := by rw [World.cell?_alloc_at _ _ _ _ rfl]; exact r.b
  clear r
  have e : behOk z wh (-1) = true := by simp [behOk]
  rw [e]
  clear e
  go_enter Tryz.func76, Tryz.ntmps76
  go_wp2
  go_ret
  exact ⟨rfl, (Gr.refl _).alloc _ _⟩
theorem behok_any {z : Nat → UInt8} {wh : Bool} {f : Nat → Bool} {b h g : Int} {PA : Array Value} (r : Row z wh f b h g PA) (w : World) : Calls Tryz.prog 76 #[.agg PA] w fun e w' => e = .returned (.bool (behOk z wh b)) ∧ Gr w w' := by
  by_cases hb : b = -1
  · subst hb; exact behok_m r w
  · cases wh
    · exact behok_f r hb w
    · exact behok_t r hb w

end Go.Proofs.YtnfakamfmkhlbaaGreatDoor.C
