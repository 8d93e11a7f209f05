import Derived.Test.YtnfakamfmkhlbabDoorMr3
namespace Go.Proofs.YtnfakamfmkhlbabDoor.C
open Go.ChangeShapes Go.WideShapes Go.ChangeAt Go.RowKit Go.Shelf
open Go.Proofs.YtnfakamfmkhlbabDoor.P

theorem thr_hit (t : BitVec 64) : ∀ (l : List Nat) (j : Nat) (hj : j < l.length), (∀ i, (hi : i < j) → t.getLsbD (l[i]'(by omega)) = false) → t.getLsbD l[j] = true → thr t l = l.take (j + 1)
  | a :: r, 0, _, _, h => by unfold thr; rw [show t.getLsbD a = true from h]; simp
  | a :: r, j + 1, hj, hn, h => by
      have h0 : t.getLsbD a = false := hn 0 (by omega)
      have ih := thr_hit t r j (by simpa using hj) (fun i hi => hn (i + 1) (by omega)) (by simpa using h)
      unfold thr
      rw [h0, ih]; simp
theorem thr_none (t : BitVec 64) : ∀ (l : List Nat), (∀ i, (hi : i < l.length) → t.getLsbD l[i] = false) → thr t l = l
  | [], _ => rfl
  | a :: r, hn => by
      have h0 : t.getLsbD a = false := hn 0 (by simp)
      have ih := thr_none t r (fun i hi => hn (i + 1) (by simpa using hi))
      unfold thr
      rw [h0, ih]; simp
def snP (k x : Nat) (t : BitVec 64) : Nat → BitVec 64
  | 0 => 0#64
  | d + 1 => sumB (thr t (lnR k x d)) (snP k x t d)
theorem snP_4 (k x : Nat) (t : BitVec 64) : snP k x t 4 = seenR k x t := by
  unfold seenR
  rw [sumB_app, sumB_app, sumB_app]; rfl
theorem sum_take (l : List Nat) (j : Nat) (hj : j < l.length) (o : BitVec 64) : sumB (l.take (j + 1)) o = sumB (l.take j) o + 1#64 <<< l[j] := by
  rw [List.take_succ_eq_append_getElem hj, sumB_app]; rfl
theorem pow_U (y : Nat) (hy : y < 64) : U (1#64 <<< y) = ((2 ^ y : Nat) : Int) := by
  unfold U
  rw [BitVec.toNat_shiftLeft, Nat.shiftLeft_eq]
  have h : 2 ^ y < 2 ^ 64 := Nat.pow_lt_pow_right (by decide) hy
  rw [show (1#64).toNat = 1 from rfl, Nat.one_mul, Nat.mod_eq_of_lt h]
theorem div_U (t : BitVec 64) (y : Nat) (hy : y < 64) : IntKind.u64.wrap ((U t).tdiv (U (1#64 <<< y))) = U (t >>> y) := by
  have hp : (0 : Int) < U (1#64 <<< y) := by rw [pow_U y hy]; exact Int.natCast_pos.2 (Nat.two_pow_pos y)
  rw [tq t _ hp, pow_U y hy, shr_U]
theorem odd_bit (t : BitVec 64) (y : Nat) : (U (t >>> y) % 2 == 1) = t.getLsbD y := by
  rw [BitVec.getLsbD, Nat.testBit_eq_decide_div_mod_eq]
  unfold U
  rw [BitVec.toNat_ushiftRight, Nat.shiftRight_eq_div_pow]
  generalize t.toNat / 2 ^ y = q
  by_cases h : q % 2 = 1
  · have : ((q : Int) % 2 == 1) = true := by rw [beq_iff_eq]; omega
    rw [this]; simp [h]
  · have : ((q : Int) % 2 == 1) = false := by rw [beq_eq_false_iff_ne]; omega
    rw [this]; simp [h]
theorem odd_bitT (t : BitVec 64) (y : Nat) : ((U (t >>> y)).tmod 2 == 1) = t.getLsbD y := by
  rw [Int.tmod_eq_emod_of_nonneg (U_nonneg _)]; exact odd_bit t y

set_option maxRecDepth 100000 in
set_option maxHeartbeats 8000000 in
theorem seenR_any (k x : Nat) (hk : k = 4 ∨ k = 5) (hx : x < 64) (A : Array Value) (t : BitVec 64) (w : World) (hA : ∀ i, i < 4 → ∃ u, A[i]? = some u ∧ ∃ b, Sq b u (lnR k x i) w) : Calls Tryd.prog 24 #[.agg A, .int .u64 (U t)] w fun e w' => e = .returned (.int .u64 (U (reachB k x t))) ∧ Gr w w' := by
  rw [← seen_is k x hk hx t, ← snP_4]
  have hAw : ∀ i, i < 4 → ∃ u, A[i]? = some u ∧ ∃ b, Sq b u (lnR k x i) (w.alloc (.cells A 52)) := fun i hi => by
    obtain ⟨u, u1, b, u2⟩ := hA i hi
    exact ⟨u, u1, b, World.ownsRow.alloc u2 _⟩
  have hbox : ∀ d u, A[d]? = some u → (w.alloc (.cells A 52)).cell? ⟨w.heap.size, d, none⟩ = some u := fun d u h => by
    have hh : (w.alloc (.cells A 52)).heap[w.heap.size]? = some (.cells A 52 (0, 0)) := World.alloc_heap_new w _
    simp only [World.cell?]
    rw [hh]; exact h
  have hgr : Gr w (w.alloc (.cells A 52)) := Gr.alloc' (Gr.refl w) _
  have hgr' := hide hgr
  have hAw' := hide hAw
  have hbox' := hide hbox
  clear hA hgr hAw hbox
  go_enter Tryd.func24, Tryd.ntmps24
  go_wp2_with fail
  generalize w.alloc (.cells A 52) = wa at hgr' hAw' hbox' ⊢
  have hz : (0 : Int) = U (snP k x t 0) := U_zero
  go_loopg [5, 6] 4 (fun g o i wr => ∃ d : Nat, d + g = 4 ∧ i = .int .i64 (d : Int) ∧ o = .int .u64 (U (snP k x t d)) ∧ wr = wa)
  case atStart => exact ⟨0, by omega, rfl, by rw [← hz], rfl⟩
  case round =>
    clear hz
    obtain ⟨d, d1, rfl, rfl, rfl⟩ := hrel
    by_cases hlt : d < 4
    · obtain ⟨u, u1, b, u2⟩ := unhide hAw' d hlt
      obtain ⟨a, cap, rfl, hf⟩ := u2.form
      have hc := unhide hbox' d _ u1
      have hl7 := len_ok k x d hk hx hlt
      have hall : ∀ (j : Nat) (hj : j < (lnR k x d).length), (lnR k x d)[j] < 64 := fun j hj => (allR_ok k x hk hx).2 _ (by
        have h0 := List.getElem_mem hj
        have : d = 0 ∨ d = 1 ∨ d = 2 ∨ d = 3 := by omega
        unfold allR
        rcases this with rfl | rfl | rfl | rfl <;> simp [h0])
      have hall' := hide hall
      have hf' := hide hf
      have hs1 : Hid (snP k x t (d + 1) = sumB (thr t (lnR k x d)) (snP k x t d)) := hide rfl
      clear u1 u2 hf hall
      generalize snP k x t d = o0 at hs1 ⊢
      go_wp2_with fail
      have hdt : decide ((d : Int) < 4) = true := decide_eq_true (by omega)
      simp only [hdt]
      clear hdt
      generalize hL : lnR k x d = L at hs1 hf' hall' hl7 hc ⊢
      clear hL
      go_loopg [5, 7] L.length (fun g o i wr2 => ∃ j : Nat, j + g = L.length ∧ i = .int .i64 (j : Int) ∧ o = .int .u64 (U (sumB (L.take j) o0)) ∧ (∀ i, (hi : i < j) → (hl : i < L.length) → t.getLsbD L[i] = false) ∧ wr2 = wr)
      case atStart => exact ⟨0, by omega, rfl, rfl, fun i hi => absurd hi (Nat.not_lt_zero _), rfl⟩
      case round =>
        obtain ⟨j, j1, rfl, rfl, hno, hww⟩ := hrel
        subst hww
        by_cases hj : j < L.length
        · obtain ⟨g, rfl, hcap, hcells⟩ := unhide hf' (by omega)
          have hcj := hcells j hj
          have hy64 := unhide hall' j hj
          have hst := hide (sum_take L j hj o0)
          have hno' := hide hno
          have hbit := hide (fun W => bit_any L[j] hy64 W)
          have e0 : (0 : Int) < U (1#64 <<< L[j]) := by rw [pow_U L[j] hy64]; exact Int.natCast_pos.2 (Nat.two_pow_pos _)
          have e00 : U (1#64 <<< L[j]) ≠ 0 := by omega
          have e01 : (U (1#64 <<< L[j]) == 0) = false := by rw [beq_eq_false_iff_ne]; exact e00
          have e1 := div_U t L[j] hy64
          have e2 := odd_bitT t L[j]
          have e3 : IntKind.u64.wrap (U (sumB (L.take j) o0) + U (1#64 <<< L[j])) = U (sumB (L.take j) o0 + 1#64 <<< L[j]) := add_U _ _
          clear hno hcells
          by_cases hb : t.getLsbD L[j] = true
          · have hend : Hid (snP k x t (d + 1) = sumB (L.take j) o0 + 1#64 <<< L[j]) := hide (by
              rw [unhide hs1, thr_hit t L j hj (fun i hi => unhide hno' i hi (by omega)) hb, unhide hst])
            rw [hb] at e2
            clear hs1 hst hno' hb
            generalize L[j] = y at *
            go_wp2_with (go_at_call 23; refine (unhide hbit _).mono ?_; rintro e w' ⟨rfl, hww⟩; have hww' := hww.symm; subst hww'; clear hww)
            go_roundg (4 - d - 1)
            case measure => omega
            case rel => exact ⟨d + 1, by omega, rfl, by rw [unhide hend], rfl⟩
          · have hbf : t.getLsbD L[j] = false := by simpa using hb
            have hno2 : Hid (∀ i, (hi : i < j + 1) → (hl : i < L.length) → t.getLsbD L[i] = false) := hide (fun i hi hl => by
              by_cases e : i = j
              · subst e; exact hbf
              · exact unhide hno' i (by omega) hl)
            rw [hbf] at e2
            clear hno' hb hbf
            generalize hyy : L[j] = y at hcj hy64 hst hbit e0 e00 e01 e1 e2 e3
            clear hyy
            go_wp2_with (go_at_call 23; refine (unhide hbit _).mono ?_; rintro e w' ⟨rfl, hww⟩; have hww' := hww.symm; subst hww'; clear hww)
            go_roundg (gk - 1)
            case measure => omega
            case rel => exact ⟨j + 1, by omega, rfl, by rw [unhide hst], unhide hno2, rfl⟩
        · have ej : j = L.length := by omega
          have hend : Hid (snP k x t (d + 1) = sumB (L.take j) o0) := hide (by
            rw [unhide hs1, thr_none t L (fun i hi => hno i (by omega) hi), ej, List.take_length])
          clear hs1 hno
          go_wp2_with fail
          go_roundg (4 - d - 1)
          case measure => omega
          case rel => exact ⟨d + 1, by omega, rfl, by rw [unhide hend], rfl⟩
    · have ed : d = 4 := by omega
      subst ed
      go_wp2_with fail
      go_ret
      exact ⟨rfl, unhide hgr'⟩

end Go.Proofs.YtnfakamfmkhlbabDoor.C
