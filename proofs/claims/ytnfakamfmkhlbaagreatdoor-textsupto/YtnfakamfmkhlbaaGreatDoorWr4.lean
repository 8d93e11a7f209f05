import Derived.Test.YtnfakamfmkhlbaaGreatDoorWr3
import Derived.Test.YtnfakamfmkhlbaaGreatDoorNota5
import Derived.Deep.RegionHeld3
import Derived.Deep.MidRow
namespace Go.Proofs.YtnfakamfmkhlbaaGreatDoor.C
open Go.ChangeShapes Go.WideShapes Go.ChangeAt Go.RowKit
attribute [local go_sem] setCell_drewN alloc_drewN

/-- the table by which Itoa writes. -/
def Tab (w : World) : Prop := Lib.TabIs Tryz.prog w "internal/strconv.uint64pow10" .u64 Lib.pow10Tab
theorem pow10_named : ∃ g, Tryz.prog.globalNamed "internal/strconv.uint64pow10" = some g := ⟨5, by kernel_rfl⟩
theorem Tab.gr {w w' : World} (h : Tab w) (g : Gr w w') : Tab w' := by
  obtain ⟨i, hi⟩ := pow10_named
  unfold Tab Lib.TabIs World.var? at h ⊢
  rw [hi] at h ⊢
  simp only [Option.bind_some] at h ⊢
  have hlt : i < w.heap.size := by
    rcases Nat.lt_or_ge i w.heap.size with h' | h'
    · exact h'
    · rw [Array.getElem?_eq_none h'] at h; cases h
  rw [Below.block g i hlt]
  exact h
theorem Gr.grow (w : World) (k : Nat) (os : Array Obj) : Gr w (Go.Sort.grow (w.drewN k) os) := by
  refine ⟨rfl, rfl, rfl, ?_, fun i hi => ?_⟩
  · show w.heap.size ≤ (w.heap ++ os).size; simp
  · show (w.heap ++ os)[i]? = _; rw [Array.getElem?_append, if_pos hi]

theorem itoa_any (n : Int) (h0 : 0 ≤ n) (h1 : n ≤ 65535) (w : World) (ht : Tab w) : Calls Tryz.prog 84 #[.int .i64 n] w fun e w' => e = .returned (.string ⟨(Lib.itoa n).toArray⟩) ∧ Gr w w' := by
  refine (Tryz.strconv_Itoa n (by omega) (by omega) w ht).mono ?_
  rintro e w' ⟨rfl, k, os, rfl⟩
  exact ⟨rfl, Gr.grow w k os⟩

def PS (w : World) (A : List Value) (wh c0 c1 c2 c3 : Bool) (b h f : Int) (w' : World) : Prop :=
  w'.rangeAt w.heap.size 0 A ∧ w'.cell? ⟨w.heap.size, 64, none⟩ = some (.bool wh) ∧ w'.cell? ⟨w.heap.size, 65, none⟩ = some (.bool c0) ∧ w'.cell? ⟨w.heap.size, 66, none⟩ = some (.bool c1) ∧ w'.cell? ⟨w.heap.size, 67, none⟩ = some (.bool c2) ∧ w'.cell? ⟨w.heap.size, 68, none⟩ = some (.bool c3) ∧ w'.cell? ⟨w.heap.size, 69, none⟩ = some (.int .i64 b) ∧ w'.cell? ⟨w.heap.size, 70, none⟩ = some (.int .i64 h) ∧ w'.cell? ⟨w.heap.size, 71, none⟩ = some (.int .i64 f) ∧ (w.heap.size < w'.heap.size ∧ Gr w w' ∧ Tab w')
theorem PS.gr {w : World} {A : List Value} {wh c0 c1 c2 c3 : Bool} {b h f : Int} {w1 w2 : World} (p : PS w A wh c0 c1 c2 c3 b h f w1) (g : Gr w1 w2) : PS w A wh c0 c1 c2 c3 b h f w2 := by
  obtain ⟨p0, p1, p2, p3, p4, p5, p6, p7, p8, hs, hg, ht⟩ := p
  have k : ∀ o, w2.cell? ⟨w.heap.size, o, none⟩ = w1.cell? ⟨w.heap.size, o, none⟩ := fun o => Below.cell g (p := ⟨w.heap.size, o, none⟩) hs
  exact ⟨fun j v hv => (k _).trans (p0 j v hv), (k _).trans p1, (k _).trans p2, (k _).trans p3, (k _).trans p4, (k _).trans p5, (k _).trans p6, (k _).trans p7, (k _).trans p8, Nat.lt_of_lt_of_le hs (Below.size g), hg.trans g, ht.gr g⟩

theorem join6 (x0 x1 x2 x3 x4 x5 : ByteArray) (hb : ∀ x ∈ [x0, x1, x2, x3, x4, x5], x.data.toList.length ≤ 100000) (w : World) :
    Calls Tryz.prog 85 #[.slice (some ⟨w.heap.size, 0, none⟩) 6 6, .string ⟨#[32]⟩] (w.alloc (.cells #[.string x0, .string x1, .string x2, .string x3, .string x4, .string x5] 9)) fun e w' =>
      e = .returned (.string ⟨(Lib.join ([x0, x1, x2, x3, x4, x5].map (·.data.toList)) [32]).toArray⟩) ∧ Gr w w' := by
  have hj := Tryz.strings_Join w.heap.size 0 6 [x0, x1, x2, x3, x4, x5] ⟨#[32]⟩ (w.alloc (.cells #[.string x0, .string x1, .string x2, .string x3, .string x4, .string x5] 9)) (by
    intro j x hx
    rw [Nat.zero_add, World.cell?_alloc_at _ _ _ _ rfl]
    have hj : j < 6 := by simpa using (List.getElem?_eq_some_iff.mp hx).1
    have : j = 0 ∨ j = 1 ∨ j = 2 ∨ j = 3 ∨ j = 4 ∨ j = 5 := by omega
    rcases this with rfl | rfl | rfl | rfl | rfl | rfl <;> simp at hx <;> subst hx <;> rfl) (by rw [World.size_alloc]; omega) (by simp) (by simp) (by
    have := join_len [32] 100000 ([x0, x1, x2, x3, x4, x5].map (·.data.toList)) (by
      intro y hy
      obtain ⟨x, hx, rfl⟩ := List.mem_map.mp hy
      exact hb x hx)
    exact Nat.le_trans this (by simp))
  refine hj.mono ?_
  rintro e w' ⟨rfl, hg⟩
  exact ⟨rfl, ((Gr.refl w).alloc _ _).trans hg⟩

theorem digits_le : ∀ n u, u ≤ n → (Lib.decDigits u).length ≤ u + 1 := by
  intro n
  induction n with
  | zero => intro u h; unfold Lib.decDigits; rw [dif_pos (by omega)]; simp
  | succ n ih =>
    intro u h
    unfold Lib.decDigits
    by_cases hu : u < 10
    · rw [dif_pos hu]; simp
    · rw [dif_neg hu, List.length_append]
      have := ih (u / 10) (by omega)
      simp; omega
theorem itoa_len (n : Int) (h0 : 0 ≤ n) (h1 : n ≤ 65535) : (Lib.itoa n).length ≤ 65536 := by
  unfold Lib.itoa; rw [if_neg (by omega)]
  have := digits_le n.toNat n.toNat (Nat.le_refl _)
  omega
theorem wboardS_len (z : Nat → UInt8) : (wboardS z).length ≤ 144 := by
  have hlen8 : (wrowsS z).length = 8 := by simp [wrowsS]
  have := join_len [47] 17 ((wrowsS z).map (·.data.toList)) (by
    intro x hx
    obtain ⟨y, hy, rfl⟩ := List.mem_map.mp hx
    obtain ⟨i, _, rfl⟩ := List.mem_map.mp hy
    exact wrowS_len z i)
  rw [List.length_map, hlen8] at this
  exact Nat.le_trans this (by simp)
theorem wcS_len (f : Nat → Bool) : ∀ i, (wcS f i).length ≤ i
  | 0 => Nat.le_refl _
  | i + 1 => by
      have := wcS_len f i
      rw [wcS_step, List.length_append]
      split <;> simp <;> omega
theorem wcastS_len (f : Nat → Bool) : (wcastS f).length ≤ 4 := by
  unfold wcastS; split
  · simp
  · exact wcS_len f 4
theorem wbehS_len (b : Int) : (wbehS b).length ≤ 2 := by unfold wbehS nameS; split <;> simp

/-- the text of a position. -/
def writeS (z : Nat → UInt8) (wh : Bool) (f : Nat → Bool) (b h g : Int) : List UInt8 :=
  Lib.join [wboardS z, [if wh then 119 else 98], wcastS f, wbehS b, Lib.itoa h, Lib.itoa g] [32]

def sideW (b : Bool) : ByteArray := ⟨#[if b then 119 else 98]⟩
theorem wside_gr (b : Bool) (w : World) : Calls Tryz.prog 81 #[.bool b] w fun e w' => e = .returned (.string (sideW b)) ∧ Gr w w' :=
  (wside_any b w).mono (by rintro e w' ⟨rfl, rfl⟩; exact ⟨rfl, Gr.refl _⟩)
theorem heldL {w1 w2 : World} {q : Prop} (h : Gr w1 w2 ∧ q) : Gr w1 w2 := h.1
theorem held {w : World} {A : List Value} {wh c0 c1 c2 c3 : Bool} {b h f : Int} {w1 w' : World} (p : PS w A wh c0 c1 c2 c3 b h f w1) (g : Gr w1 w') :
    Gr w1 w' ∧ w'.rangeAt w.heap.size 0 A ∧ w'.cell? ⟨w.heap.size, 64, none⟩ = some (.bool wh) ∧ w'.cell? ⟨w.heap.size, 65, none⟩ = some (.bool c0) ∧ w'.cell? ⟨w.heap.size, 66, none⟩ = some (.bool c1) ∧ w'.cell? ⟨w.heap.size, 67, none⟩ = some (.bool c2) ∧ w'.cell? ⟨w.heap.size, 68, none⟩ = some (.bool c3) ∧ w'.cell? ⟨w.heap.size, 69, none⟩ = some (.int .i64 b) ∧ w'.cell? ⟨w.heap.size, 70, none⟩ = some (.int .i64 h) ∧ w'.cell? ⟨w.heap.size, 71, none⟩ = some (.int .i64 f) := by
  obtain ⟨p0, p1, p2, p3, p4, p5, p6, p7, p8, _⟩ := p.gr g
  exact ⟨g, p0, p1, p2, p3, p4, p5, p6, p7, p8⟩

set_option maxRecDepth 100000 in
set_option maxHeartbeats 8000000 in
theorem write_any (z : Nat → UInt8) (A : Array Value) (hs : A.size = 64) (hA : ∀ i, i < 64 → A[i]? = some (.int .u8 ((z i).toNat : Int))) (wh : Bool) (f : Nat → Bool) (b h g : Int) (hb : b = -1 ∨ (0 ≤ b ∧ b < 64)) (h0 : 0 ≤ h) (h1 : h ≤ 65535) (g0 : 0 ≤ g) (g1 : g ≤ 65535) (w : World) (ht : Tab w) :
    Calls Tryz.prog 39 #[.agg (posA A wh (f 0) (f 1) (f 2) (f 3) b h g)] w fun e w' => e = .returned (.string ⟨(writeS z wh f b h g).toArray⟩) ∧ Gr w w' := by
  have hu := Tryz.underlying22
  have hi : (Tryz.prog.info? 22).map (·.size) = some A.toList.length := by rw [info64]; simp [hs]
  have hl : A.toList.length = 64 := by simpa using hs
  have h1c : ∀ v ∈ A.toList, v.oneCell' = true := by
    intro v hv
    obtain ⟨i, hi, rfl⟩ := List.getElem_of_mem hv
    have := hA i (by omega)
    rw [← Array.getElem?_toList, List.getElem?_eq_getElem hi] at this
    simp at this; simp [this, Value.oneCell']
  have hps : PS w A.toList wh (f 0) (f 1) (f 2) (f 3) b h g (w.alloc (.cells (posA A wh (f 0) (f 1) (f 2) (f 3) b h g) 25)) := by
    have hc : ∀ o, (w.alloc (.cells (posA A wh (f 0) (f 1) (f 2) (f 3) b h g) 25)).cell? ⟨w.heap.size, o, none⟩ = (posA A wh (f 0) (f 1) (f 2) (f 3) b h g)[o]? := fun o => World.cell?_alloc_at _ _ _ _ rfl
    refine ⟨fun j v hv => ?_, ?_, ?_, ?_, ?_, ?_, ?_, ?_, ?_, by rw [World.size_alloc]; omega, (Gr.refl w).alloc _ _, ht.gr ((Gr.refl w).alloc _ _)⟩
    · rw [hc, Nat.zero_add]
      unfold posA
      rw [Array.getElem?_append, if_pos (by rw [hs, ← hl]; exact (List.getElem?_eq_some_iff.mp hv).1), ← Array.getElem?_toList]; exact hv
    all_goals (rw [hc]; unfold posA; rw [Array.getElem?_append, if_neg (by omega), hs]; rfl)
  have hps' := hide hps
  clear hps
  generalize hP : posA A wh (f 0) (f 1) (f 2) (f 3) b h g = PA at hps' ⊢
  clear hP
  have hA' := hide hA
  clear hA
  go_enter Tryz.func39, Tryz.ntmps39
  go_wp2
  obtain ⟨w1, hw1⟩ : ∃ w1, w1 = w.alloc (.cells PA 25) := ⟨_, rfl⟩
  rw [← hw1] at hps' ⊢
  clear hw1
  have htab : Hid (Tab w1) := hide (unhide hps').2.2.2.2.2.2.2.2.2.2.2
  go_region_held3 (fun w' => Gr w1 w' ∧ w'.rangeAt w.heap.size 0 A.toList ∧ w'.cell? ⟨w.heap.size, 64, none⟩ = some (.bool wh) ∧ w'.cell? ⟨w.heap.size, 65, none⟩ = some (.bool (f 0)) ∧ w'.cell? ⟨w.heap.size, 66, none⟩ = some (.bool (f 1)) ∧ w'.cell? ⟨w.heap.size, 67, none⟩ = some (.bool (f 2)) ∧ w'.cell? ⟨w.heap.size, 68, none⟩ = some (.bool (f 3)) ∧ w'.cell? ⟨w.heap.size, 69, none⟩ = some (.int .i64 b) ∧ w'.cell? ⟨w.heap.size, 70, none⟩ = some (.int .i64 h) ∧ w'.cell? ⟨w.heap.size, 71, none⟩ = some (.int .i64 g)) (first | exact held (unhide hps') (Gr.refl _).drew | exact held (unhide hps') (by assumption) | exact held (unhide hps') (Gr.alloc (heldL (by assumption)) _ _)) (first | (go_at_call 80; refine (wboard_any z A (unhide hA') _).mono ?_; rintro e w' ⟨rfl, hg⟩; have hg2 := Gr.trans (heldL (by assumption)) hg) | (go_at_call 81; refine (wside_gr wh _).mono ?_; rintro e w' ⟨rfl, hg⟩; have hg2 := Gr.trans (heldL (by assumption)) hg) | (go_at_call 82; refine (wcastle_any f _).mono ?_; rintro e w' ⟨rfl, hg⟩; have hg2 := Gr.trans (heldL (by assumption)) hg) | (go_at_call 83; refine (wbehind_any b hb _).mono ?_; rintro e w' ⟨rfl, hg⟩; have hg2 := Gr.trans (heldL (by assumption)) hg) | (go_at_call 84; refine (itoa_any _ (by assumption) (by assumption) _ (Tab.gr (unhide htab) (heldL (by assumption)))).mono ?_; rintro e w' ⟨rfl, hg⟩; have hg2 := Gr.trans (heldL (by assumption)) hg))
  have hj := fun W => join6 ⟨(wboardS z).toArray⟩ (sideW wh) ⟨(wcastS f).toArray⟩ ⟨(wbehS b).toArray⟩ ⟨(Lib.itoa h).toArray⟩ ⟨(Lib.itoa g).toArray⟩ (by
    intro x hx
    simp only [List.mem_cons, List.mem_nil_iff, or_false] at hx
    rcases hx with rfl | rfl | rfl | rfl | rfl | rfl
    · exact Nat.le_trans (wboardS_len z) (by omega)
    · show ([if wh then 119 else 98] : List UInt8).length ≤ _; simp
    · exact Nat.le_trans (wcastS_len f) (by omega)
    · exact Nat.le_trans (wbehS_len b) (by omega)
    · exact Nat.le_trans (itoa_len h h0 h1) (by omega)
    · exact Nat.le_trans (itoa_len g g0 g1) (by omega)) W
  have hj' := hide hj
  clear hj
  have hw0 : Hid (Gr w w1) := hide (unhide hps').2.2.2.2.2.2.2.2.2.2.1
  go_wp2_with (go_at_call 85; refine (unhide hj' w').mono ?_; rintro e w9 ⟨rfl, hg9⟩)
  go_ret
  exact ⟨rfl, ((unhide hw0).trans hg2).trans hg9⟩

end Go.Proofs.YtnfakamfmkhlbaaGreatDoor.C
