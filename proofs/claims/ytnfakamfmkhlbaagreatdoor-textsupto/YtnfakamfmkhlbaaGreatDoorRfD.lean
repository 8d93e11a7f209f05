import Derived.Test.YtnfakamfmkhlbaaGreatDoorRfC
namespace Go.Proofs.YtnfakamfmkhlbaaGreatDoor.C
open Go.ChangeShapes Go.WideShapes Go.ChangeAt Go.RowKit
open Go.Proofs.YtnfakamfmkhlbaaGreatDoor.P
attribute [local go_sem] setCell_drewN alloc_drewN

theorem find_at {p : Nat → Bool} {k : Nat} (h : ∀ j, j < k → p j = false) (hk : p k = true) (h64 : k < 64) : (List.range 64).find? p = some k := by
  rw [List.find?_eq_some_iff_getElem]
  refine ⟨hk, k, by simpa using h64, by simp, fun j hj => by simp [h j hj]⟩
theorem find_no {p : Nat → Bool} (h : ∀ j, j < 64 → p j = false) : (List.range 64).find? p = none := by
  rw [List.find?_eq_none]
  intro j hj
  rw [h j (List.mem_range.1 hj)]; decide
theorem kingR_at {z : Nat → UInt8} {b : Bool} {k : Nat} (h : ∀ j, j < k → (z j == kingL b) = false) (hk : (z k == kingL b) = true) (h64 : k < 64) : kingR z b = (k : Int) := by
  unfold kingR; rw [find_at h hk h64]
theorem kingR_no {z : Nat → UInt8} {b : Bool} (h : ∀ j, j < 64 → (z j == kingL b) = false) : kingR z b = -1 := by
  unfold kingR; rw [find_no h]
theorem man5 (b : Bool) (w : World) : Calls Tryz.prog 89 #[.int .i64 5, .int .i64 (sdb b)] w fun e w' => e = .returned (.int .u8 ((kingL b).toNat : Int)) ∧ Gr w w' := by
  rw [← king_man]; exact (man_5 b w).mono fun _ _ h => ⟨h.1, by rw [h.2]; exact Gr.refl _⟩
theorem heldC {w1 w' : World} {b k : Nat} {A : Array Value} {v : Value} (h : Bd b A w1) (hv : A[k]? = some v) (g : Gr w1 w') : Gr w1 w' ∧ w'.cell? ⟨b, k, none⟩ = some v :=
  ⟨g, (h.gr g).cell hv⟩

set_option maxRecDepth 100000 in
set_option maxHeartbeats 4000000 in
theorem kingR_any (z : Nat → UInt8) (A : Array Value) (hA : ∀ i, i < 64 → A[i]? = some (.int .u8 ((z i).toNat : Int))) (b : Bool) (w : World) : Calls Tryz.prog 92 #[.agg A, .int .i64 (sdb b)] w fun e w' => e = .returned (.int .i64 (kingR z b)) ∧ Gr w w' := by
  have hbd : Hid (Bd w.heap.size A (w.alloc (.cells A 22))) := hide ⟨heap_alloc_new _ _, by rw [World.size_alloc]; omega⟩
  have hg1 : Hid (Gr w (w.alloc (.cells A 22))) := hide ((Gr.refl w).alloc _ _)
  have hA' := hide hA
  clear hA
  have hm := hide (man5 b)
  have hat := hide (fun k h hk h64 => kingR_at (z := z) (b := b) (k := k) h hk h64)
  have hno := hide (fun h => kingR_no (z := z) (b := b) h)
  generalize kingL b = L at hm hat hno
  generalize sdb b = sd at hm ⊢
  generalize kingR z b = V at hat hno ⊢
  go_enter Tryz.func92, Tryz.ntmps92
  go_wp2
  go_loopg [5] 64 (fun g n wr => ∃ k : Nat, k + g = 64 ∧ n = .int .i64 k ∧ (∀ j, j < k → (z j == L) = false) ∧ Gr (w.alloc (.cells A 22)) wr)
  case atStart => exact ⟨0, rfl, rfl, fun j hj => absurd hj (Nat.not_lt_zero j), Gr.refl _⟩
  case round =>
    obtain ⟨k, k1, rfl, k3, hgr⟩ := hrel
    have k3' := hide k3
    clear k3
    by_cases hlt : k < 64
    · have hbw := (unhide hbd).gr hgr
      have hv := unhide hA' k hlt
      by_cases hc : z k = L
      · have hend : Hid (V = (k : Int)) := hide (unhide hat k (unhide k3') (by simp [hc]) hlt)
        subst hc
        go_wp2
        go_region_held3 (fun w' => Gr wr w' ∧ w'.cell? ⟨w.heap.size, k, none⟩ = some (.int .u8 ((z k).toNat : Int))) (first | exact heldC hbw hv (Gr.refl _).drew | exact heldC hbw hv (by assumption) | exact heldC hbw hv (Gr.alloc (heldL (by assumption)) _ _)) (first | (go_at_call 89; refine (unhide hm _).mono ?_; rintro e w' ⟨rfl, hg⟩; have hg2 := Gr.trans (heldL (by assumption)) hg))
        go_wp2
        go_ret
        exact ⟨ret_int (unhide hend).symm, Gr.trans (unhide hg1) (Gr.trans hgr hg2)⟩
      · have hne : (((z k).toNat : Int) == (L.toNat : Int)) = false := by
          rw [beq_eq_false_iff_ne]
          intro h
          exact hc (UInt8.toNat_inj.1 (by omega))
        have hff : Hid ((z k == L) = false) := hide (by simpa using hc)
        clear hc
        go_wp2
        go_region_held3 (fun w' => Gr wr w' ∧ w'.cell? ⟨w.heap.size, k, none⟩ = some (.int .u8 ((z k).toNat : Int))) (first | exact heldC hbw hv (Gr.refl _).drew | exact heldC hbw hv (by assumption) | exact heldC hbw hv (Gr.alloc (heldL (by assumption)) _ _)) (first | (go_at_call 89; refine (unhide hm _).mono ?_; rintro e w' ⟨rfl, hg⟩; have hg2 := Gr.trans (heldL (by assumption)) hg))
        go_wp2
        go_roundg (gk - 1)
        case measure => omega
        case rel => exact ⟨k + 1, by omega, by go_num, (by
          intro j hj
          by_cases hjk : j = k
          · subst hjk; exact unhide hff
          · exact unhide k3' j (by omega)), Gr.trans hgr hg2⟩
    · have ek : k = 64 := by omega
      subst ek
      have hend : Hid (V = -1) := hide (unhide hno (unhide k3'))
      go_wp2
      go_ret
      exact ⟨ret_int (unhide hend).symm, Gr.trans (unhide hg1) hgr⟩

end Go.Proofs.YtnfakamfmkhlbaaGreatDoor.C
