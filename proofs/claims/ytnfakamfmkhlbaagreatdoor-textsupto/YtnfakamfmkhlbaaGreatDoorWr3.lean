import Derived.Test.YtnfakamfmkhlbaaGreatDoorWr2
namespace Go.Proofs.YtnfakamfmkhlbaaGreatDoor.C
open Go.ChangeShapes Go.WideShapes Go.ChangeAt Go.RowKit
attribute [local go_sem] setCell_drewN alloc_drewN

def wrowS (z : Nat → UInt8) (i : Nat) : List UInt8 := wrankS (fun f => z (8 * (7 - i) + f))
def wrowsS (z : Nat → UInt8) : List ByteArray := (List.range 8).map (fun i => ⟨(wrowS z i).toArray⟩)
def wboardS (z : Nat → UInt8) : List UInt8 := Lib.join ((wrowsS z).map (·.data.toList)) [47]

theorem Gr.setCell {a b : World} (h : Gr a b) {p : Addr} (hp : a.heap.size ≤ p.block) (v : Value) : Gr a (b.setCell p v) := Below.setCell h hp v

theorem wrowS_len (z : Nat → UInt8) (i : Nat) : (wrowS z i).length ≤ 17 := by
  unfold wrowS wrankS
  have h := wrK_bd (fun f => z (8 * (7 - i) + f)) 8
  have hg : (gapS (wrK (fun f => z (8 * (7 - i) + f)) 8).2).length ≤ 1 := by unfold gapS; split <;> simp
  rw [List.length_append]; omega

theorem join_len (sep : List UInt8) (n : Nat) : ∀ xs : List (List UInt8), (∀ x ∈ xs, x.length ≤ n) → (Lib.join xs sep).length ≤ xs.length * (n + sep.length)
  | [], _ => by simp [Lib.join, List.intercalate]
  | [x], h => by
      have := h x (by simp)
      rw [Lib.join_one]; simp; omega
  | x :: y :: r, h => by
      have ih := join_len sep n (y :: r) (fun a ha => h a (by simp at ha ⊢; right; exact ha))
      have hx := h x (by simp)
      have e : Lib.join (x :: y :: r) sep = x ++ sep ++ Lib.join (y :: r) sep := by simp [Lib.join, List.intercalate, List.intersperse]
      rw [e, List.length_append, List.length_append, List.length_cons, Nat.add_mul]
      omega

set_option maxRecDepth 100000 in
set_option maxHeartbeats 4000000 in
theorem wboard_any (z : Nat → UInt8) (A : Array Value) (hA : ∀ i, i < 64 → A[i]? = some (.int .u8 ((z i).toNat : Int))) (w : World) :
    Calls Tryz.prog 80 #[.agg A] w fun e w' => e = .returned (.string ⟨(wboardS z).toArray⟩) ∧ Gr w w' := by
  have hA' := hide hA
  clear hA
  go_enter Tryz.func80, Tryz.ntmps80
  go_wp2
  go_loopg [6] 8 (fun G i wr => ∃ k : Nat, k + G = 8 ∧ i = .int .i64 k ∧ wr.heap[w.heap.size]? = some (.cells A 22) ∧ (∃ R : Array Value, R.size = 8 ∧ wr.heap[w.heap.size + 1]? = some (.cells R 227) ∧ ∀ j, j < k → R[j]? = some (.string ⟨(wrowS z j).toArray⟩)) ∧ w.heap.size + 2 ≤ wr.heap.size ∧ Gr w wr)
  case atStart => exact ⟨0, rfl, rfl, heap_alloc2_old _ _ _, ⟨_, rfl, heap_alloc2_new _ _ _, fun j h => by omega⟩, by simp, ((Gr.refl w).alloc _ _).alloc _ _⟩
  case round =>
    obtain ⟨k, k1, rfl, hb0, ⟨R, hR, hb1, hrows⟩, hsz, hgr⟩ := hrel
    have hb0' := hide hb0
    have hb1' := hide hb1
    have hR' := hide hR
    have hrows' := hide hrows
    have hgr' := hide hgr
    clear hb0 hb1 hR hrows hgr
    by_cases hlt : k < 8
    · obtain ⟨q, hq⟩ : ∃ q : Nat, q = 8 * (7 - k) := ⟨_, rfl⟩
      have hw : 8 * (7 - (k : Int)) = (q : Int) := by omega
      have hq1 : (q : Int) + 8 ≤ 64 := by omega
      have hq2 : (q : Int) ≤ (q : Int) + 8 := by omega
      have hq56 : q ≤ 56 := by omega
      have hq' := hide hq
      clear hq
      go_wp2_with fail
      refine (wrank_any (fun f => z (8 * (7 - k) + f)) w.heap.size q (64 - q) _ (by omega) (fun i hi => by
        rw [cell_of_row _ _ _ _ _ _ (unhide hb0'), unhide hA' (q + i) (by omega), unhide hq'])).mono ?_
      rintro e w1 ⟨rfl, hg1⟩
      have hs1 := Below.size hg1
      have hB0 : Hid (w1.heap[w.heap.size]? = some (.cells A 22)) := hide (by rw [Below.block hg1 _ (by omega)]; exact unhide hb0')
      have hB1 : Hid (w1.heap[w.heap.size + 1]? = some (.cells R 227)) := hide (by rw [Below.block hg1 _ (by omega)]; exact unhide hb1')
      have hG1 : Hid (Gr w w1) := hide ((unhide hgr').trans hg1)
      have hRk : k < R.size := by rw [unhide hR']; exact hlt
      have hcell : w1.cell? ⟨w.heap.size + 1, k, none⟩ = some (R[k]'hRk) := by rw [cell_of_row _ _ _ _ _ _ (unhide hB1)]; exact Array.getElem?_eq_getElem _
      have hfro : w1.frozen? ⟨w.heap.size + 1, k, none⟩ = false := frozen_of_row _ _ _ _ _ (unhide hB1)
      clear hb0' hb1' hgr' hg1
      go_wp2
      go_roundg (gk - 1)
      case measure => omega
      case rel =>
        refine ⟨k + 1, by omega, by go_num, ?_, ⟨R.setIfInBounds k (.string ⟨(wrowS z k).toArray⟩), by simpa using unhide hR', ?_, ?_⟩, ?_, ?_⟩
        · rw [heap_setCell_other _ _ _ _ (by show w.heap.size ≠ w.heap.size + 1; omega)]; exact unhide hB0
        · exact heap_setCell_same _ _ _ _ _ _ (unhide hB1)
        · intro j hj
          rw [Array.getElem?_setIfInBounds]
          by_cases e : k = j
          · subst e; rw [if_pos rfl, if_pos hRk]
          · rw [if_neg e]; exact unhide hrows' j (by omega)
        · simp [World.setCell]; omega
        · exact (unhide hG1).setCell (p := ⟨w.heap.size + 1, k, none⟩) (by show w.heap.size ≤ w.heap.size + 1; omega) _
    · have ek : k = 8 := by omega
      subst ek
      have hlen8 : (wrowsS z).length = 8 := by simp [wrowsS]
      have hj := Tryz.strings_Join (w.heap.size + 1) 0 8 (wrowsS z) ⟨#[47]⟩ wr (by
        intro j x hx
        have hj8 : j < 8 := by rw [← hlen8]; exact (List.getElem?_eq_some_iff.mp hx).1
        rw [Nat.zero_add, cell_of_row _ _ _ _ _ _ (unhide hb1'), unhide hrows' j hj8]
        have : x = ⟨(wrowS z j).toArray⟩ := by
          unfold wrowsS at hx
          rw [List.getElem?_map, List.getElem?_range hj8] at hx
          simpa using hx.symm
        rw [this]) (by omega) (by rw [hlen8]; omega) (by rw [hlen8]; omega) (by
        have := join_len [47] 17 ((wrowsS z).map (·.data.toList)) (by
          intro x hx
          obtain ⟨y, hy, rfl⟩ := List.mem_map.mp hx
          obtain ⟨i, _, rfl⟩ := List.mem_map.mp hy
          exact wrowS_len z i)
        rw [List.length_map, hlen8] at this
        exact Nat.le_trans this (by simp))
      rw [hlen8] at hj
      have hj' := hide hj
      clear hj
      go_wp2_with (go_at_call 85; refine (unhide hj').mono ?_; rintro e w1 ⟨rfl, hg1⟩)
      go_ret
      exact ⟨rfl, (unhide hgr').trans hg1⟩

end Go.Proofs.YtnfakamfmkhlbaaGreatDoor.C
