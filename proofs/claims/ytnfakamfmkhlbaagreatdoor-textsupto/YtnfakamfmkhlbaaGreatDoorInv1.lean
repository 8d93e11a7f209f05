import Derived.Test.YtnfakamfmkhlbaaGreatDoorWr4
namespace Go.Proofs.YtnfakamfmkhlbaaGreatDoor.C

/-! ### ranks: what is read is what is written -/
def nI (l : List UInt8) : List Int := l.map (fun c => (c.toNat : Int))
def wrStep (st : List UInt8 × Nat) (c : UInt8) : List UInt8 × Nat := if c = 46 then (st.1, st.2 + 1) else (st.1 ++ gapS st.2 ++ [c], 0)
def wrL (zs : List UInt8) : List UInt8 × Nat := zs.foldl wrStep ([], 0)
theorem wrL_snoc (zs : List UInt8) (c : UInt8) : wrL (zs ++ [c]) = wrStep (wrL zs) c := by unfold wrL; rw [List.foldl_append]; rfl
theorem wrK_wrL (z : Nat → UInt8) : ∀ k, wrK z k = wrL ((List.range k).map z)
  | 0 => rfl
  | k + 1 => by
      rw [List.range_succ, List.map_append, List.map_cons, List.map_nil, wrL_snoc, ← wrK_wrL z k]
      rfl
theorem wrL_dots (zs : List UInt8) : ∀ d, wrL (zs ++ List.replicate d 46) = ((wrL zs).1, (wrL zs).2 + d)
  | 0 => by simp
  | d + 1 => by
      rw [List.replicate_succ', ← List.append_assoc, wrL_snoc, wrL_dots zs d]
      unfold wrStep; rw [if_pos rfl]; rfl

def okL (c : UInt8) : Bool := c == 46 || letS c

theorem let_46 : letS 46 = false := by decide
theorem dig_let_n : ∀ n, n < 256 → letS (UInt8.ofNat n) = true → digS (UInt8.ofNat n) = false := by decide +kernel
theorem dig_let (c : UInt8) (h : letS c = true) : digS c = false := by
  have := dig_let_n c.toNat c.toNat_lt
  rw [UInt8.ofNat_toNat] at this
  exact this h
theorem gap_dig : ∀ g, g < 9 → 1 ≤ g → digS (UInt8.ofNat (48 + g)) = true ∧ (UInt8.ofNat (48 + g)).toNat - 48 = g := by decide +kernel
theorem nI_app (a b : List UInt8) : nI (a ++ b) = nI a ++ nI b := List.map_append
theorem nI_rep (d : Nat) : nI (List.replicate d 46) = List.replicate d 46 := by unfold nI; rw [List.map_replicate]; rfl
theorem nI_len (a : List UInt8) : (nI a).length = a.length := List.length_map _

theorem dig_val (c : UInt8) (h : digS c = true) : 1 ≤ c.toNat - 48 ∧ c.toNat - 48 ≤ 8 ∧ UInt8.ofNat (48 + (c.toNat - 48)) = c := by
  unfold digS at h
  simp only [Bool.and_eq_true, decide_eq_true_eq] at h
  refine ⟨by omega, by omega, ?_⟩
  rw [show 48 + (c.toNat - 48) = c.toNat from by omega]; simp

/-- what a rank's text says, and how it is written again. -/
theorem read_write (l : List UInt8) : ∀ acc a, rkFold l = some (acc, a) → ∃ zs, acc = nI zs ∧ zs.all okL = true ∧ (a = false → wrL zs = (l, 0)) ∧ (a = true → ∃ t g, wrL zs = (t, g) ∧ 1 ≤ g ∧ l = t ++ [UInt8.ofNat (48 + g)]) := by
  induction hn : l.length generalizing l with
  | zero =>
    have : l = [] := List.length_eq_zero_iff.mp hn
    subst this
    intro acc a h
    unfold rkFold at h
    simp at h
    obtain ⟨rfl, rfl⟩ := h
    exact ⟨[], rfl, rfl, fun _ => rfl, fun h => by simp at h⟩
  | succ n ih =>
    have hne : l ≠ [] := fun e => by subst e; simp at hn
    obtain ⟨m, c, rfl⟩ : ∃ m c, l = m ++ [c] := ⟨l.dropLast, l.getLast hne, (List.dropLast_concat_getLast hne).symm⟩
    intro acc a h
    rw [rkFold_snoc] at h
    cases hm : rkFold m with
    | none => rw [hm] at h; simp [rkStep] at h
    | some st =>
      obtain ⟨acc0, a0⟩ := st
      rw [hm] at h
      obtain ⟨zs, e1, e2, e3, e4⟩ := ih m (by simpa using hn) acc0 a0 hm
      unfold rkStep at h
      simp only at h
      by_cases hd : digS c = true
      · rw [if_pos hd] at h
        split at h
        · simp at h
        · rename_i hc
          simp only [Bool.or_eq_true, decide_eq_true_eq, not_or] at hc
          have ha0 : a0 = false := by simpa using hc.1
          simp only [Option.some.injEq, Prod.mk.injEq] at h
          obtain ⟨h1, h2⟩ := h
          obtain ⟨d1, d2, d3⟩ := dig_val c hd
          refine ⟨zs ++ List.replicate (c.toNat - 48) 46, by rw [nI_app, nI_rep, ← e1]; exact h1.symm, ?_, fun h => by rw [← h2] at h; simp at h, fun _ => ⟨m, c.toNat - 48, ?_, d1, by rw [d3]⟩⟩
          · rw [List.all_append, e2]; simp [okL]
          · rw [wrL_dots, e3 ha0]; simp
      · rw [if_neg hd] at h
        by_cases hl : letS c = true
        · rw [if_pos hl] at h
          split at h
          · simp at h
          · simp only [Option.some.injEq, Prod.mk.injEq] at h
            obtain ⟨h1, h2⟩ := h
            have hc46 : ¬ c = 46 := fun e => by rw [e, let_46] at hl; simp at hl
            refine ⟨zs ++ [c], by rw [nI_app, ← e1]; exact h1.symm, ?_, fun _ => ?_, fun h => by rw [← h2] at h; simp at h⟩
            · rw [List.all_append, e2]; simp [okL, hl]
            · rw [wrL_snoc]
              unfold wrStep
              rw [if_neg hc46]
              cases ha : a0 with
              | false => rw [e3 ha]; simp [gapS]
              | true =>
                obtain ⟨t, g, k1, k2, k3⟩ := e4 ha
                rw [k1, k3]
                have : gapS g = [UInt8.ofNat (48 + g)] := by unfold gapS; rw [if_neg (by omega)]
                simp [this]
        · rw [if_neg hl] at h; simp at h

theorem rank_back (l : List UInt8) (r : List Int) (h : rankS l = some r) : ∃ zs, r = nI zs ∧ zs.length = 8 ∧ zs.all okL = true ∧ (wrL zs).1 ++ gapS (wrL zs).2 = l := by
  unfold rankS at h
  cases hf : rkFold l with
  | none => rw [hf] at h; simp at h
  | some st =>
    obtain ⟨acc, a⟩ := st
    rw [hf] at h
    simp only at h
    split at h
    · rename_i h8
      simp at h
      subst h
      obtain ⟨zs, e1, e2, e3, e4⟩ := read_write l acc a hf
      refine ⟨zs, e1, by rw [e1, nI_len] at h8; exact h8, e2, ?_⟩
      cases a with
      | false => rw [e3 rfl]; simp [gapS]
      | true =>
        obtain ⟨t, g, k1, k2, k3⟩ := e4 rfl
        rw [k1, k3]
        have : gapS g = [UInt8.ofNat (48 + g)] := by unfold gapS; rw [if_neg (by omega)]
        simp [this]
    · simp at h

theorem rk_gap (t : List UInt8) (ys : List UInt8) (g : Nat) (h : rkFold t = some (nI ys, false)) (h8 : ys.length + g ≤ 8) : rkFold (t ++ gapS g) = some (nI (ys ++ List.replicate g 46), decide (1 ≤ g)) := by
  by_cases h0 : g = 0
  · subst h0; simp [gapS, h]
  · have e : gapS g = [UInt8.ofNat (48 + g)] := by unfold gapS; rw [if_neg h0]
    obtain ⟨d1, d2⟩ := gap_dig g (by omega) (by omega)
    rw [e, rkFold_snoc, h]
    unfold rkStep
    simp only [d1, if_true, d2, Bool.false_or, nI_len]
    rw [if_neg (by simp; omega), nI_app, nI_rep]
    simp; omega

theorem write_read (zs : List UInt8) (h : zs.all okL = true) (h8 : zs.length ≤ 8) : ∃ ys g, zs = ys ++ List.replicate g 46 ∧ (wrL zs).2 = g ∧ rkFold (wrL zs).1 = some (nI ys, false) := by
  induction hn : zs.length generalizing zs with
  | zero =>
    have : zs = [] := List.length_eq_zero_iff.mp hn
    subst this
    exact ⟨[], 0, rfl, rfl, rfl⟩
  | succ n ih =>
    have hne : zs ≠ [] := fun e => by subst e; simp at hn
    obtain ⟨m, c, rfl⟩ : ∃ m c, zs = m ++ [c] := ⟨zs.dropLast, zs.getLast hne, (List.dropLast_concat_getLast hne).symm⟩
    rw [List.all_append] at h
    simp only [Bool.and_eq_true, List.all_cons, List.all_nil, Bool.and_true] at h
    obtain ⟨ys, g, e1, e2, e3⟩ := ih m h.1 (by simp at h8; omega) (by simpa using hn)
    rw [wrL_snoc]
    unfold wrStep
    by_cases hc : c = 46
    · rw [if_pos hc]
      exact ⟨ys, g + 1, by rw [e1, hc, List.append_assoc, ← List.replicate_succ'], by simp [e2], e3⟩
    · rw [if_neg hc]
      have hl : letS c = true := by have := h.2; unfold okL at this; simpa [hc] using this
      have hlen : ys.length + g + 1 ≤ 8 := by have := congrArg List.length e1; simp at this h8; omega
      refine ⟨m ++ [c], 0, by simp, rfl, ?_⟩
      simp only [e2]
      rw [rkFold_snoc, rk_gap _ ys g e3 (by omega), ← e1]
      unfold rkStep
      simp only [dig_let c hl, hl, Bool.false_eq_true, if_false, if_true, nI_len]
      rw [if_neg (by simp at h8; omega), nI_app]
      rfl

theorem rank_forth (zs : List UInt8) (h : zs.all okL = true) (h8 : zs.length = 8) : rankS ((wrL zs).1 ++ gapS (wrL zs).2) = some (nI zs) := by
  obtain ⟨ys, g, e1, e2, e3⟩ := write_read zs h (by omega)
  have hlen : ys.length + g ≤ 8 := by have := congrArg List.length e1; simp at this; omega
  unfold rankS
  rw [e2, rk_gap _ ys g e3 hlen, ← e1]
  simp [nI_len, h8]

end Go.Proofs.YtnfakamfmkhlbaaGreatDoor.C
