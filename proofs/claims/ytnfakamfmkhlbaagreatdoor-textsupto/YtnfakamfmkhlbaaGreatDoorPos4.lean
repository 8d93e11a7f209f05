import Derived.Test.YtnfakamfmkhlbaaGreatDoorPos3
import Derived.Deep.QuietTactic
import Derived.BigQuiet
namespace Go.Proofs.YtnfakamfmkhlbaaGreatDoor.C
open Go.ChangeShapes Go.WideShapes Go.ChangeAt Go.RowKit
open Go.Proofs.YtnfakamfmkhlbaaGreatDoor.P
attribute [local go_sem] setCell_drewN alloc_drewN

def homesL : List Value := [.int .i64 4, .int .u8 75, .int .i64 7, .int .u8 82, .int .i64 4, .int .u8 75, .int .i64 0, .int .u8 82, .int .i64 60, .int .u8 107, .int .i64 63, .int .u8 114, .int .i64 60, .int .u8 107, .int .i64 56, .int .u8 114]
/-- the table of the castlings, as it is laid. -/
def Homes (w : World) : Prop := w.rangeAt 0 0 homesL ∧ 0 < w.heap.size
theorem Homes.gr {w w' : World} (h : Homes w) (g : Gr w w') : Homes w' :=
  ⟨fun j v hv => (Below.cell g (p := ⟨_, 0 + j, none⟩) h.2).trans (h.1 j v hv), Nat.lt_of_lt_of_le h.2 (Below.size g)⟩
theorem info16 : (Tryz.prog.info? 222).map (·.size) = some homesL.length := by kernel_rfl

def castAt (z : Nat → UInt8) (f : Nat → Bool) (ks : Nat) (kl : Int) (rs : Nat) (rl : Int) (k : Nat) : Bool := !(f k) || (decide (((z ks).toNat : Int) = kl) && decide (((z rs).toNat : Int) = rl))
def castN (z : Nat → UInt8) (f : Nat → Bool) : Nat → Bool
  | 0 => castAt z f 4 75 7 82 0
  | 1 => castAt z f 4 75 0 82 1
  | 2 => castAt z f 60 107 63 114 2
  | 3 => castAt z f 60 107 56 114 3
  | _ => true
def castOk (z : Nat → UInt8) (f : Nat → Bool) : Bool := (List.range 4).all (castN z f)
theorem castOk_bad {z : Nat → UInt8} {f : Nat → Bool} {k : Nat} (hk : k < 4) (h : castN z f k = false) : castOk z f = false := by
  unfold castOk
  rw [List.all_eq_false]
  exact ⟨k, List.mem_range.2 hk, by rw [h]; decide⟩
theorem castOk_all {z : Nat → UInt8} {f : Nat → Bool} (h : ∀ j, j < 4 → castN z f j = true) : castOk z f = true := by
  unfold castOk
  rw [List.all_eq_true]
  intro j hj
  exact h j (List.mem_range.1 hj)
theorem ixh0 (w : World) : (Instr.index 222 (.agg homesL.toArray) (.int .i64 0)).run Tryz.prog w = .ok (.agg #[.int .i64 4, .int .u8 75, .int .i64 7, .int .u8 82]) w := by kernel_rfl
theorem ixh1 (w : World) : (Instr.index 222 (.agg homesL.toArray) (.int .i64 1)).run Tryz.prog w = .ok (.agg #[.int .i64 4, .int .u8 75, .int .i64 0, .int .u8 82]) w := by kernel_rfl
theorem ixh2 (w : World) : (Instr.index 222 (.agg homesL.toArray) (.int .i64 2)).run Tryz.prog w = .ok (.agg #[.int .i64 60, .int .u8 107, .int .i64 63, .int .u8 114]) w := by kernel_rfl
theorem ixh3 (w : World) : (Instr.index 222 (.agg homesL.toArray) (.int .i64 3)).run Tryz.prog w = .ok (.agg #[.int .i64 60, .int .u8 107, .int .i64 56, .int .u8 114]) w := by kernel_rfl

set_option maxRecDepth 100000 in
set_option maxHeartbeats 8000000 in
theorem cast_any {z : Nat → UInt8} {wh : Bool} {f : Nat → Bool} {b h g : Int} {PA : Array Value} (r : Row z wh f b h g PA) (w : World) (hH : Homes w) : Calls Tryz.prog 75 #[.agg PA] w fun e w' => e = .returned (.bool (castOk z f)) ∧ Gr w w' := by
  have r' := hide r
  clear r
  have hH' := hide hH
  clear hH
  have hc : Hid (∀ o, (w.alloc (.cells PA 25)).cell? ⟨w.heap.size, o, none⟩ = PA[o]?) := hide (fun o => World.cell?_alloc_at _ _ _ _ rfl)
  have hg0 : Hid (Gr w (w.alloc (.cells PA 25))) := hide ((Gr.refl w).alloc _ _)
  have hsz : Hid (w.heap.size < (w.alloc (.cells PA 25)).heap.size) := hide (by rw [World.size_alloc]; omega)
  generalize hL : homesL.toArray = HL
  go_enter Tryz.func75, Tryz.ntmps75
  go_wp2_with (refine wpList_load_mid rfl 222 _ rfl 0 0 rfl homesL _ ((unhide hH').gr (unhide hg0)).1 Tryz.underlying222 rfl info16 ?_)
  go_loopg [6] 4 (fun gg n wr => ∃ k : Nat, k + gg = 4 ∧ n = .int .i64 k ∧ (∀ j, j < k → castN z f j = true) ∧ Gr (w.alloc (.cells PA 25)) wr)
  case atStart => exact ⟨0, rfl, rfl, fun j hj => absurd hj (Nat.not_lt_zero j), Gr.refl _⟩
  case round =>
    obtain ⟨k, k1, rfl, k3, hgr⟩ := hrel
    have k3' := hide k3
    have hgr' := hide hgr
    clear k3
    have hcell : ∀ o v, PA[o]? = some v → wr.cell? ⟨w.heap.size, o, none⟩ = some v := fun o v hv => (Below.cell hgr (p := ⟨w.heap.size, o, none⟩) (unhide hsz)).trans ((unhide hc o).trans hv)
    have hwr : w.heap.size < wr.heap.size := Nat.lt_of_lt_of_le (unhide hsz) (Below.size hgr)
    clear hgr
    by_cases hlt : k < 4
    · have hk : k = 0 ∨ k = 1 ∨ k = 2 ∨ k = 3 := by omega
      rcases hk with rfl | rfl | rfl | rfl
      · have hix := ixh0
        rw [hL] at hix
        have hA : ∀ o v, PA[o]? = some v → (wr.alloc (.cells #[.int .i64 4, .int .u8 75, .int .i64 7, .int .u8 82] 221)).cell? ⟨w.heap.size, o, none⟩ = some v := fun o v hv => (Below.cell ((Gr.refl wr).alloc _ _) (p := ⟨w.heap.size, o, none⟩) hwr).trans (hcell o v hv)
        have hF : (wr.alloc (.cells #[.int .i64 4, .int .u8 75, .int .i64 7, .int .u8 82] 221)).cell? ⟨w.heap.size, 65, none⟩ = some (.bool (f 0)) := hA _ _ ((unhide r').c 0 (by decide))
        have hK : (wr.alloc (.cells #[.int .i64 4, .int .u8 75, .int .i64 7, .int .u8 82] 221)).cell? ⟨w.heap.size, 4, none⟩ = some (.int .u8 ((z 4).toNat : Int)) := hA _ _ ((unhide r').sq 4 (by decide))
        have hR : (wr.alloc (.cells #[.int .i64 4, .int .u8 75, .int .i64 7, .int .u8 82] 221)).cell? ⟨w.heap.size, 7, none⟩ = some (.int .u8 ((z 7).toNat : Int)) := hA _ _ ((unhide r').sq 7 (by decide))
        clear hA hcell
        obtain ⟨cc, hcc⟩ : ∃ cc, Hid (f 0 = cc) := ⟨_, hide rfl⟩
        obtain ⟨x, hx⟩ : ∃ x, Hid (((z 4).toNat : Int) = x) := ⟨_, hide rfl⟩
        obtain ⟨y, hy⟩ : ∃ y, Hid (((z 7).toNat : Int) = y) := ⟨_, hide rfl⟩
        rw [unhide hcc] at hF
        rw [unhide hx] at hK
        rw [unhide hy] at hR
        cases cc
        · -- no right to castle so
          go_wp2
          go_quiet (fail)
          go_wp2
          go_roundg (gk - 1)
          case measure => omega
          case rel => exact ⟨0 + 1, by omega, by go_num, (by
            intro j hj
            by_cases hjk : j = 0
            · subst hjk; show castAt z f 4 75 7 82 0 = true; unfold castAt; rw [unhide hcc]; rfl
            · exact unhide k3' j (by omega)), Gr.drewN ((unhide hgr').alloc _ _) _⟩
        · by_cases hxe : x = 75
          · subst hxe
            by_cases hye : y = 82
            · subst hye
              go_wp2
              go_quiet (fail)
              go_wp2
              go_roundg (gk - 1)
              case measure => omega
              case rel => exact ⟨0 + 1, by omega, by go_num, (by
                intro j hj
                by_cases hjk : j = 0
                · subst hjk; show castAt z f 4 75 7 82 0 = true; unfold castAt; rw [unhide hcc, unhide hx, unhide hy]; rfl
                · exact unhide k3' j (by omega)), Gr.drewN ((unhide hgr').alloc _ _) _⟩
            · have hyb : (y != 82) = true := bne_iff_ne.2 hye
              have e := hide (show castOk z f = false from castOk_bad (k := 0) (by decide) (show castAt z f 4 75 7 82 0 = false by unfold castAt; rw [unhide hcc, unhide hy, decide_eq_false hye, Bool.and_false]; rfl))
              go_wp2
              go_quiet (fail)
              go_wp2
              go_ret
              exact ⟨by rw [unhide e]; rfl, Gr.trans (unhide hg0) (Gr.drewN ((unhide hgr').alloc _ _) _)⟩
          · have hxb : (x != 75) = true := bne_iff_ne.2 hxe
            have e := hide (show castOk z f = false from castOk_bad (k := 0) (by decide) (show castAt z f 4 75 7 82 0 = false by unfold castAt; rw [unhide hcc, unhide hx, decide_eq_false hxe, Bool.false_and]; rfl))
            go_wp2
            go_quiet (fail)
            go_wp2
            go_ret
            exact ⟨by rw [unhide e]; rfl, Gr.trans (unhide hg0) (Gr.drewN ((unhide hgr').alloc _ _) _)⟩
      · have hix := ixh1
        rw [hL] at hix
        have hA : ∀ o v, PA[o]? = some v → (wr.alloc (.cells #[.int .i64 4, .int .u8 75, .int .i64 0, .int .u8 82] 221)).cell? ⟨w.heap.size, o, none⟩ = some v := fun o v hv => (Below.cell ((Gr.refl wr).alloc _ _) (p := ⟨w.heap.size, o, none⟩) hwr).trans (hcell o v hv)
        have hF : (wr.alloc (.cells #[.int .i64 4, .int .u8 75, .int .i64 0, .int .u8 82] 221)).cell? ⟨w.heap.size, 66, none⟩ = some (.bool (f 1)) := hA _ _ ((unhide r').c 1 (by decide))
        have hK : (wr.alloc (.cells #[.int .i64 4, .int .u8 75, .int .i64 0, .int .u8 82] 221)).cell? ⟨w.heap.size, 4, none⟩ = some (.int .u8 ((z 4).toNat : Int)) := hA _ _ ((unhide r').sq 4 (by decide))
        have hR : (wr.alloc (.cells #[.int .i64 4, .int .u8 75, .int .i64 0, .int .u8 82] 221)).cell? ⟨w.heap.size, 0, none⟩ = some (.int .u8 ((z 0).toNat : Int)) := hA _ _ ((unhide r').sq 0 (by decide))
        clear hA hcell
        obtain ⟨cc, hcc⟩ : ∃ cc, Hid (f 1 = cc) := ⟨_, hide rfl⟩
        obtain ⟨x, hx⟩ : ∃ x, Hid (((z 4).toNat : Int) = x) := ⟨_, hide rfl⟩
        obtain ⟨y, hy⟩ : ∃ y, Hid (((z 0).toNat : Int) = y) := ⟨_, hide rfl⟩
        rw [unhide hcc] at hF
        rw [unhide hx] at hK
        rw [unhide hy] at hR
        cases cc
        · -- no right to castle so
          go_wp2
          go_quiet (fail)
          go_wp2
          go_roundg (gk - 1)
          case measure => omega
          case rel => exact ⟨1 + 1, by omega, by go_num, (by
            intro j hj
            by_cases hjk : j = 1
            · subst hjk; show castAt z f 4 75 0 82 1 = true; unfold castAt; rw [unhide hcc]; rfl
            · exact unhide k3' j (by omega)), Gr.drewN ((unhide hgr').alloc _ _) _⟩
        · by_cases hxe : x = 75
          · subst hxe
            by_cases hye : y = 82
            · subst hye
              go_wp2
              go_quiet (fail)
              go_wp2
              go_roundg (gk - 1)
              case measure => omega
              case rel => exact ⟨1 + 1, by omega, by go_num, (by
                intro j hj
                by_cases hjk : j = 1
                · subst hjk; show castAt z f 4 75 0 82 1 = true; unfold castAt; rw [unhide hcc, unhide hx, unhide hy]; rfl
                · exact unhide k3' j (by omega)), Gr.drewN ((unhide hgr').alloc _ _) _⟩
            · have hyb : (y != 82) = true := bne_iff_ne.2 hye
              have e := hide (show castOk z f = false from castOk_bad (k := 1) (by decide) (show castAt z f 4 75 0 82 1 = false by unfold castAt; rw [unhide hcc, unhide hy, decide_eq_false hye, Bool.and_false]; rfl))
              go_wp2
              go_quiet (fail)
              go_wp2
              go_ret
              exact ⟨by rw [unhide e]; rfl, Gr.trans (unhide hg0) (Gr.drewN ((unhide hgr').alloc _ _) _)⟩
          · have hxb : (x != 75) = true := bne_iff_ne.2 hxe
            have e := hide (show castOk z f = false from castOk_bad (k := 1) (by decide) (show castAt z f 4 75 0 82 1 = false by unfold castAt; rw [unhide hcc, unhide hx, decide_eq_false hxe, Bool.false_and]; rfl))
            go_wp2
            go_quiet (fail)
            go_wp2
            go_ret
            exact ⟨by rw [unhide e]; rfl, Gr.trans (unhide hg0) (Gr.drewN ((unhide hgr').alloc _ _) _)⟩
      · have hix := ixh2
        rw [hL] at hix
        have hA : ∀ o v, PA[o]? = some v → (wr.alloc (.cells #[.int .i64 60, .int .u8 107, .int .i64 63, .int .u8 114] 221)).cell? ⟨w.heap.size, o, none⟩ = some v := fun o v hv => (Below.cell ((Gr.refl wr).alloc _ _) (p := ⟨w.heap.size, o, none⟩) hwr).trans (hcell o v hv)
        have hF : (wr.alloc (.cells #[.int .i64 60, .int .u8 107, .int .i64 63, .int .u8 114] 221)).cell? ⟨w.heap.size, 67, none⟩ = some (.bool (f 2)) := hA _ _ ((unhide r').c 2 (by decide))
        have hK : (wr.alloc (.cells #[.int .i64 60, .int .u8 107, .int .i64 63, .int .u8 114] 221)).cell? ⟨w.heap.size, 60, none⟩ = some (.int .u8 ((z 60).toNat : Int)) := hA _ _ ((unhide r').sq 60 (by decide))
        have hR : (wr.alloc (.cells #[.int .i64 60, .int .u8 107, .int .i64 63, .int .u8 114] 221)).cell? ⟨w.heap.size, 63, none⟩ = some (.int .u8 ((z 63).toNat : Int)) := hA _ _ ((unhide r').sq 63 (by decide))
        clear hA hcell
        obtain ⟨cc, hcc⟩ : ∃ cc, Hid (f 2 = cc) := ⟨_, hide rfl⟩
        obtain ⟨x, hx⟩ : ∃ x, Hid (((z 60).toNat : Int) = x) := ⟨_, hide rfl⟩
        obtain ⟨y, hy⟩ : ∃ y, Hid (((z 63).toNat : Int) = y) := ⟨_, hide rfl⟩
        rw [unhide hcc] at hF
        rw [unhide hx] at hK
        rw [unhide hy] at hR
        cases cc
        · -- no right to castle so
          go_wp2
          go_quiet (fail)
          go_wp2
          go_roundg (gk - 1)
          case measure => omega
          case rel => exact ⟨2 + 1, by omega, by go_num, (by
            intro j hj
            by_cases hjk : j = 2
            · subst hjk; show castAt z f 60 107 63 114 2 = true; unfold castAt; rw [unhide hcc]; rfl
            · exact unhide k3' j (by omega)), Gr.drewN ((unhide hgr').alloc _ _) _⟩
        · by_cases hxe : x = 107
          · subst hxe
            by_cases hye : y = 114
            · subst hye
              go_wp2
              go_quiet (fail)
              go_wp2
              go_roundg (gk - 1)
              case measure => omega
              case rel => exact ⟨2 + 1, by omega, by go_num, (by
                intro j hj
                by_cases hjk : j = 2
                · subst hjk; show castAt z f 60 107 63 114 2 = true; unfold castAt; rw [unhide hcc, unhide hx, unhide hy]; rfl
                · exact unhide k3' j (by omega)), Gr.drewN ((unhide hgr').alloc _ _) _⟩
            · have hyb : (y != 114) = true := bne_iff_ne.2 hye
              have e := hide (show castOk z f = false from castOk_bad (k := 2) (by decide) (show castAt z f 60 107 63 114 2 = false by unfold castAt; rw [unhide hcc, unhide hy, decide_eq_false hye, Bool.and_false]; rfl))
              go_wp2
              go_quiet (fail)
              go_wp2
              go_ret
              exact ⟨by rw [unhide e]; rfl, Gr.trans (unhide hg0) (Gr.drewN ((unhide hgr').alloc _ _) _)⟩
          · have hxb : (x != 107) = true := bne_iff_ne.2 hxe
            have e := hide (show castOk z f = false from castOk_bad (k := 2) (by decide) (show castAt z f 60 107 63 114 2 = false by unfold castAt; rw [unhide hcc, unhide hx, decide_eq_false hxe, Bool.false_and]; rfl))
            go_wp2
            go_quiet (fail)
            go_wp2
            go_ret
            exact ⟨by rw [unhide e]; rfl, Gr.trans (unhide hg0) (Gr.drewN ((unhide hgr').alloc _ _) _)⟩
      · have hix := ixh3
        rw [hL] at hix
        have hA : ∀ o v, PA[o]? = some v → (wr.alloc (.cells #[.int .i64 60, .int .u8 107, .int .i64 56, .int .u8 114] 221)).cell? ⟨w.heap.size, o, none⟩ = some v := fun o v hv => (Below.cell ((Gr.refl wr).alloc _ _) (p := ⟨w.heap.size, o, none⟩) hwr).trans (hcell o v hv)
        have hF : (wr.alloc (.cells #[.int .i64 60, .int .u8 107, .int .i64 56, .int .u8 114] 221)).cell? ⟨w.heap.size, 68, none⟩ = some (.bool (f 3)) := hA _ _ ((unhide r').c 3 (by decide))
        have hK : (wr.alloc (.cells #[.int .i64 60, .int .u8 107, .int .i64 56, .int .u8 114] 221)).cell? ⟨w.heap.size, 60, none⟩ = some (.int .u8 ((z 60).toNat : Int)) := hA _ _ ((unhide r').sq 60 (by decide))
        have hR : (wr.alloc (.cells #[.int .i64 60, .int .u8 107, .int .i64 56, .int .u8 114] 221)).cell? ⟨w.heap.size, 56, none⟩ = some (.int .u8 ((z 56).toNat : Int)) := hA _ _ ((unhide r').sq 56 (by decide))
        clear hA hcell
        obtain ⟨cc, hcc⟩ : ∃ cc, Hid (f 3 = cc) := ⟨_, hide rfl⟩
        obtain ⟨x, hx⟩ : ∃ x, Hid (((z 60).toNat : Int) = x) := ⟨_, hide rfl⟩
        obtain ⟨y, hy⟩ : ∃ y, Hid (((z 56).toNat : Int) = y) := ⟨_, hide rfl⟩
        rw [unhide hcc] at hF
        rw [unhide hx] at hK
        rw [unhide hy] at hR
        cases cc
        · -- no right to castle so
          go_wp2
          go_quiet (fail)
          go_wp2
          go_roundg (gk - 1)
          case measure => omega
          case rel => exact ⟨3 + 1, by omega, by go_num, (by
            intro j hj
            by_cases hjk : j = 3
            · subst hjk; show castAt z f 60 107 56 114 3 = true; unfold castAt; rw [unhide hcc]; rfl
            · exact unhide k3' j (by omega)), Gr.drewN ((unhide hgr').alloc _ _) _⟩
        · by_cases hxe : x = 107
          · subst hxe
            by_cases hye : y = 114
            · subst hye
              go_wp2
              go_quiet (fail)
              go_wp2
              go_roundg (gk - 1)
              case measure => omega
              case rel => exact ⟨3 + 1, by omega, by go_num, (by
                intro j hj
                by_cases hjk : j = 3
                · subst hjk; show castAt z f 60 107 56 114 3 = true; unfold castAt; rw [unhide hcc, unhide hx, unhide hy]; rfl
                · exact unhide k3' j (by omega)), Gr.drewN ((unhide hgr').alloc _ _) _⟩
            · have hyb : (y != 114) = true := bne_iff_ne.2 hye
              have e := hide (show castOk z f = false from castOk_bad (k := 3) (by decide) (show castAt z f 60 107 56 114 3 = false by unfold castAt; rw [unhide hcc, unhide hy, decide_eq_false hye, Bool.and_false]; rfl))
              go_wp2
              go_quiet (fail)
              go_wp2
              go_ret
              exact ⟨by rw [unhide e]; rfl, Gr.trans (unhide hg0) (Gr.drewN ((unhide hgr').alloc _ _) _)⟩
          · have hxb : (x != 107) = true := bne_iff_ne.2 hxe
            have e := hide (show castOk z f = false from castOk_bad (k := 3) (by decide) (show castAt z f 60 107 56 114 3 = false by unfold castAt; rw [unhide hcc, unhide hx, decide_eq_false hxe, Bool.false_and]; rfl))
            go_wp2
            go_quiet (fail)
            go_wp2
            go_ret
            exact ⟨by rw [unhide e]; rfl, Gr.trans (unhide hg0) (Gr.drewN ((unhide hgr').alloc _ _) _)⟩
    · have ek : k = 4 := by omega
      subst ek
      go_wp2
      go_ret
      exact ⟨by rw [castOk_all (unhide k3')]; rfl, Gr.trans (unhide hg0) (unhide hgr')⟩

end Go.Proofs.YtnfakamfmkhlbaaGreatDoor.C
