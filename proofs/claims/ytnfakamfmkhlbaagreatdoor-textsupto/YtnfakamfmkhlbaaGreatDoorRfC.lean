import Derived.Test.YtnfakamfmkhlbaaGreatDoorRefD
import Derived.Deep.RegionHeld3
import Derived.Test.YtnfakamfmkhlbaaGreatDoorWr4
namespace Go.Proofs.YtnfakamfmkhlbaaGreatDoor.C
open Go.ChangeShapes Go.WideShapes Go.ChangeAt Go.RowKit
open Go.Proofs.YtnfakamfmkhlbaaGreatDoor.P
attribute [local go_sem] setCell_drewN alloc_drewN

theorem attacks_all (A : Array Value) (f : Nat → Int) (hA : ∀ i, i < 64 → A[i]? = some (.int .u8 (f i))) (hs : A.size = 64) (k : Nat) (hk : k ≤ 5) (s : Int) (x y : Int) (h0 : 0 ≤ x) (h1 : x ≤ 63) (h2 : 0 ≤ y) (h3 : y ≤ 63) (w : World) :
    Calls Tryz.prog 156 #[.agg A, .int .i64 (k : Int), .int .i64 s, .int .i64 x, .int .i64 y] w fun e w' => e = .returned (.bool (attI f k s x y)) ∧ Gr w w' := by
  have : k = 0 ∨ k = 1 ∨ k = 2 ∨ k = 3 ∨ k = 4 ∨ k = 5 := by omega
  rcases this with rfl | rfl | rfl | rfl | rfl | rfl
  · exact attacks_0 A f hA hs s x y h0 h1 h2 h3 w
  · exact attacks_1 A f hA hs s x y h0 h1 h2 h3 w
  · exact attacks_2 A f hA hs s x y h0 h1 h2 h3 w
  · exact attacks_3 A f hA hs s x y h0 h1 h2 h3 w
  · exact attacks_4 A f hA hs s x y h0 h1 h2 h3 w
  · exact attacks_5 A f hA hs s x y h0 h1 h2 h3 w

theorem kd_of_co {c : UInt8} {b : Bool} (h : coc c = sdb b) : ∃ k : Nat, k ≤ 5 ∧ kdc c = (k : Int) := by
  have := ix_bd c
  unfold coc sdb at h
  unfold kdc
  cases b
  · simp only [Bool.false_eq_true, if_false] at h
    refine ⟨(ixc c - 6).toNat, ?_, ?_⟩
    · split at h <;> (try split at h) <;> omega
    · rw [if_pos (by split at h <;> (try split at h) <;> omega)]
      split at h <;> (try split at h) <;> omega
  · simp only [if_true] at h
    refine ⟨(ixc c).toNat, ?_, ?_⟩
    · split at h <;> (try split at h) <;> omega
    · rw [if_neg (by split at h <;> (try split at h) <;> omega)]
      split at h <;> (try split at h) <;> omega

/-- in this world the block holds this board. -/
def Bd (b : Nat) (A : Array Value) (w : World) : Prop := w.heap[b]? = some (.cells A 22) ∧ b < w.heap.size
theorem Bd.gr {b : Nat} {A : Array Value} {w w' : World} (h : Bd b A w) (g : Gr w w') : Bd b A w' := ⟨by rw [Below.block g _ h.2]; exact h.1, Nat.lt_of_lt_of_le h.2 (Below.size g)⟩
theorem Bd.cell {b : Nat} {A : Array Value} {w : World} (h : Bd b A w) {i : Nat} {v : Value} (hv : A[i]? = some v) : w.cell? ⟨b, i, none⟩ = some v := by
  rw [cell_of_row _ _ _ _ _ _ h.1]; exact hv

theorem kind_gr (c : UInt8) (w : World) : Calls Tryz.prog 86 #[.int .u8 (c.toNat : Int)] w fun e w' => e = .returned (.int .i64 (kdc c)) ∧ Gr w w' :=
  (kind_any c w).mono fun _ _ h => ⟨h.1, by rw [h.2]; exact Gr.refl _⟩
theorem heldB {w1 w' : World} {b k : Nat} {A : Array Value} {v : Value} (h : Bd b A w1) (hv : A[k]? = some v) (g : Gr w1 w') : Gr w1 w' ∧ w'.rangeAt b 0 A.toList ∧ w'.cell? ⟨b, k, none⟩ = some v :=
  ⟨g, (fun j u hu => by rw [Nat.zero_add]; exact (h.gr g).cell (by rw [← Array.getElem?_toList]; exact hu)), (h.gr g).cell hv⟩
theorem bytes_one {z : Nat → UInt8} {A : Array Value} (hs : A.size = 64) (hA : ∀ i, i < 64 → A[i]? = some (.int .u8 ((z i).toNat : Int))) : ∀ v ∈ A.toList, v.oneCell' = true := by
  intro v hv
  obtain ⟨i, hi, rfl⟩ := List.getElem_of_mem hv
  have hi' : i < 64 := by simpa [hs] using hi
  have := hA i hi'
  rw [← Array.getElem?_toList, List.getElem?_eq_getElem hi] at this
  simp at this; simp [this, Value.oneCell']

set_option maxRecDepth 100000 in
set_option maxHeartbeats 4000000 in
theorem attackedR_any (z : Nat → UInt8) (A : Array Value) (hs : A.size = 64) (hA : ∀ i, i < 64 → A[i]? = some (.int .u8 ((z i).toNat : Int))) (y : Int) (h0 : 0 ≤ y) (h1 : y ≤ 63) (b : Bool) (w : World) : Calls Tryz.prog 91 #[.agg A, .int .i64 y, .int .i64 (sdb b)] w fun e w' => e = .returned (.bool (attR z y b)) ∧ Gr w w' := by
  obtain ⟨f, hf⟩ : ∃ f : Nat → Bool, Hid (f = fun n => decide (coc (z n) = sdb b) && attI (zI z) (kdc (z n)).toNat (sdb b) (n : Int) y) := ⟨_, hide rfl⟩
  have hgoal : attR z y b = (List.range 64).any f := by rw [unhide hf]; rfl
  rw [hgoal]
  clear hgoal
  have hat := hide (fun (k : Nat) (hk : k ≤ 5) (n : Nat) (hn : n < 64) W => attacks_all A (zI z) (fun i hi => hA i hi) hs k hk (sdb b) (n : Int) y (by omega) (by omega) h0 h1 W)
  have hbd : Hid (Bd w.heap.size A (w.alloc (.cells A 22))) := hide ⟨heap_alloc_new _ _, by rw [World.size_alloc]; omega⟩
  have hg1 : Hid (Gr w (w.alloc (.cells A 22))) := hide ((Gr.refl w).alloc _ _)
  have hA' := hide hA
  have hu := Tryz.underlying22
  have hi : (Tryz.prog.info? 22).map (·.size) = some A.toList.length := by rw [info64]; simp [hs]
  have hl : A.toList.length = 64 := by simpa using hs
  have h1c : ∀ v ∈ A.toList, v.oneCell' = true := bytes_one hs hA
  clear hA
  have hsb : sdb b = 1 ∨ sdb b = -1 := by cases b <;> simp [sdb]
  have hkd : Hid (∀ c : UInt8, coc c = sdb b → ∃ k : Nat, k ≤ 5 ∧ kdc c = (k : Int)) := hide fun c h => kd_of_co h
  generalize sdb b = sd at hf hat hsb hkd ⊢
  go_enter Tryz.func91, Tryz.ntmps91
  go_wp2
  go_loopg [7] 64 (fun g n wr => ∃ k : Nat, k + g = 64 ∧ n = .int .i64 k ∧ (∀ j, j < k → f j = false) ∧ Gr (w.alloc (.cells A 22)) wr)
  case atStart => exact ⟨0, rfl, rfl, fun j hj => absurd hj (Nat.not_lt_zero j), Gr.refl _⟩
  case round =>
    obtain ⟨k, k1, rfl, k3, hgr⟩ := hrel
    have k3' := hide k3
    clear k3
    by_cases hlt : k < 64
    · have hbw := (unhide hbd).gr hgr
      have hv := unhide hA' k hlt
      have hcell := Bd.cell hbw hv
      have hfk : Hid (f k = (decide (coc (z k) = sd) && attI (zI z) (kdc (z k)).toNat sd (k : Int) y)) := hide (by rw [unhide hf])
      by_cases hc : coc (z k) = sd
      · obtain ⟨kk, hkk5, hkk0⟩ := unhide hkd (z k) hc
        have hkk := hide hkk0
        have hcb : (coc (z k) == sd) = true := by rw [hc]; simp
        have hfk2 : Hid (f k = attI (zI z) kk sd (k : Int) y) := hide (by rw [unhide hfk, decide_eq_true hc, hkk0]; simp)
        obtain ⟨av, hav⟩ : ∃ v, attI (zI z) kk sd (k : Int) y = v := ⟨_, rfl⟩
        clear hfk hkk0 hc
        cases av
        · have hff : Hid (f k = false) := hide (by rw [unhide hfk2, hav])
          go_wp2_with (go_at_call 87; refine (colour_any _ _).mono ?_; rintro e w' ⟨rfl, hw'⟩; obtain rfl := hw'.symm)
          go_region_held3 (fun w' => Gr wr w' ∧ w'.rangeAt w.heap.size 0 A.toList ∧ w'.cell? ⟨w.heap.size, k, none⟩ = some (.int .u8 ((z k).toNat : Int))) (first | exact heldB hbw hv (Gr.refl _).drew | exact heldB hbw hv (by assumption) | exact heldB hbw hv (Gr.alloc (heldL (by assumption)) _ _)) (first | (go_at_call 86; refine (kind_gr _ _).mono ?_; rintro e w' ⟨rfl, hg⟩; rw [unhide hkk]; have hg2 := Gr.trans (heldL (by assumption)) hg) | (go_at_call 156; refine (unhide hat kk hkk5 k hlt _).mono ?_; rintro e w' ⟨rfl, hg⟩; rw [hav]; have hg2 := Gr.trans (heldL (by assumption)) hg))
          go_wp2
          go_roundg (gk - 1)
          case measure => omega
          case rel => exact ⟨k + 1, by omega, by go_num, (by
            intro j hj
            by_cases hjk : j = k
            · subst hjk; exact unhide hff
            · exact unhide k3' j (by omega)), Gr.trans hgr hg2⟩
        · have hff : Hid (f k = true) := hide (by rw [unhide hfk2, hav])
          go_wp2_with (go_at_call 87; refine (colour_any _ _).mono ?_; rintro e w' ⟨rfl, hw'⟩; obtain rfl := hw'.symm)
          go_region_held3 (fun w' => Gr wr w' ∧ w'.rangeAt w.heap.size 0 A.toList ∧ w'.cell? ⟨w.heap.size, k, none⟩ = some (.int .u8 ((z k).toNat : Int))) (first | exact heldB hbw hv (Gr.refl _).drew | exact heldB hbw hv (by assumption) | exact heldB hbw hv (Gr.alloc (heldL (by assumption)) _ _)) (first | (go_at_call 86; refine (kind_gr _ _).mono ?_; rintro e w' ⟨rfl, hg⟩; rw [unhide hkk]; have hg2 := Gr.trans (heldL (by assumption)) hg) | (go_at_call 156; refine (unhide hat kk hkk5 k hlt _).mono ?_; rintro e w' ⟨rfl, hg⟩; rw [hav]; have hg2 := Gr.trans (heldL (by assumption)) hg))
          go_wp2
          go_ret
          exact ⟨by rw [List.any_eq_true.2 ⟨k, List.mem_range.2 hlt, unhide hff⟩]; rfl, Gr.trans (unhide hg1) (Gr.trans hgr hg2)⟩
      · have hcb : (coc (z k) == sd) = false := by simpa using hc
        have hff : Hid (f k = false) := hide (by rw [unhide hfk, decide_eq_false hc]; rfl)
        clear hfk hc
        go_wp2_with (go_at_call 87; refine (colour_any _ _).mono ?_; rintro e w' ⟨rfl, hw'⟩; obtain rfl := hw'.symm)
        go_roundg (gk - 1)
        case measure => omega
        case rel => exact ⟨k + 1, by omega, by go_num, (by
          intro j hj
          by_cases hjk : j = k
          · subst hjk; exact unhide hff
          · exact unhide k3' j (by omega)), hgr⟩
    · have ek : k = 64 := by omega
      subst ek
      go_wp2
      go_ret
      exact ⟨by
        have : (List.range 64).any f = false := by
          rw [List.any_eq_false]
          intro j hj
          rw [unhide k3' j (List.mem_range.1 hj)]; decide
        rw [this]; rfl, Gr.trans (unhide hg1) hgr⟩

end Go.Proofs.YtnfakamfmkhlbaaGreatDoor.C
