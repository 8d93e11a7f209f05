import Derived.Test.YtnfakamfmkhlbaaGreatDoorInv3
namespace Go.Proofs.YtnfakamfmkhlbaaGreatDoor.C

/-! ### the board -/
def zB (B : List UInt8) (i : Nat) : UInt8 := B.getD i 0
def rowL (B : List UInt8) (j : Nat) : List UInt8 := (B.drop (8 * j)).take 8
def wr1 (zs : List UInt8) : List UInt8 := (wrL zs).1 ++ gapS (wrL zs).2

theorem row_is (B : List UInt8) (j : Nat) (h : 8 * j + 8 ≤ B.length) : (List.range 8).map (fun f => zB B (8 * j + f)) = rowL B j := by
  apply List.ext_getElem
  · simp [rowL]; omega
  · intro i h1 h2
    have hi : i < 8 := by simpa using h1
    simp [rowL, zB, List.getElem?_eq_getElem (show 8 * j + i < B.length by omega)]
theorem wrow_is (B : List UInt8) (i : Nat) (h : 8 * (7 - i) + 8 ≤ B.length) : wrowS (zB B) i = wr1 (rowL B (7 - i)) := by
  unfold wrowS wrankS wr1
  rw [wrK_wrL, row_is B (7 - i) h]
theorem wrows_is (B : List UInt8) (h : B.length = 64) : (wrowsS (zB B)).map (·.data.toList) = (List.range 8).map (fun i => wr1 (rowL B (7 - i))) := by
  unfold wrowsS
  rw [List.map_map]
  apply List.map_congr_left
  intro i _
  exact wrow_is B i (by omega)
theorem chunks (B : List UInt8) : ∀ k, ((List.range k).map (rowL B)).flatten = B.take (8 * k)
  | 0 => by simp
  | k + 1 => by
      rw [List.range_succ, List.map_append, List.flatten_append, chunks B k]
      simp only [List.map_cons, List.map_nil, List.flatten_cons, List.flatten_nil, List.append_nil, rowL]
      rw [show 8 * (k + 1) = 8 * k + 8 from by omega, List.take_add]
theorem chunk (L : List (List UInt8)) (h : ∀ r ∈ L, r.length = 8) : ∀ j (hj : j < L.length), rowL L.flatten j = L[j] := by
  induction L with
  | nil => intro j hj; simp at hj
  | cons r t ih =>
    intro j hj
    have hr := h r (by simp)
    cases j with
    | zero => simp [rowL, hr]
    | succ j =>
      have := ih (fun x hx => h x (by simp [hx])) j (by simpa using hj)
      unfold rowL at this ⊢
      rw [List.flatten_cons, show 8 * (j + 1) = r.length + 8 * j from by omega, List.drop_length_add_append, this]
      rfl

theorem ranks_back : ∀ (xs : List ByteArray) (rs : List (List Int)), ranksS xs = some rs → ∃ zss : List (List UInt8), rs = zss.map nI ∧ (∀ z ∈ zss, z.length = 8 ∧ z.all okL = true) ∧ zss.map wr1 = xs.map (·.data.toList)
  | [], rs, h => by simp [ranksS] at h; subst h; exact ⟨[], rfl, by simp, rfl⟩
  | x :: t, rs, h => by
      unfold ranksS at h
      cases h1 : rankS x.data.toList with
      | none => rw [h1] at h; simp at h
      | some a =>
        cases h2 : ranksS t with
        | none => rw [h1, h2] at h; simp at h
        | some b =>
          rw [h1, h2] at h
          simp at h
          subst h
          obtain ⟨zs, k1, k2, k3, k4⟩ := rank_back _ _ h1
          obtain ⟨zss, e1, e2, e3⟩ := ranks_back t b h2
          refine ⟨zs :: zss, by rw [k1, e1]; rfl, ?_, ?_⟩
          · intro z hz
            rcases List.mem_cons.mp hz with rfl | hz
            · exact ⟨k2, k3⟩
            · exact e2 z hz
          · show wr1 zs :: zss.map wr1 = _ :: _
            rw [e3]
            unfold wr1
            rw [k4]

theorem flat_len (L : List (List UInt8)) (h : ∀ r ∈ L, r.length = 8) : L.flatten.length = 8 * L.length := by
  induction L with
  | nil => rfl
  | cons r t ih => rw [List.flatten_cons, List.length_append, ih (fun x hx => h x (by simp [hx])), h r (by simp)]; simp; omega

theorem board_back (x : ByteArray) (b : List Int) (h : boardS x = some b) : ∃ B, b = nI B ∧ B.length = 64 ∧ B.all okL = true ∧ wboardS (zB B) = x.data.toList := by
  unfold boardS at h
  split at h
  · rename_i h8
    cases hr : ranksS (wordsS 47 9 x) with
    | none => rw [hr] at h; simp at h
    | some rs =>
      rw [hr] at h
      simp at h
      obtain ⟨zss, e1, e2, e3⟩ := ranks_back _ _ hr
      have hl : zss.length = 8 := by have := congrArg List.length e3; simpa [h8] using this
      have hrev : ∀ r ∈ zss.reverse, r.length = 8 := fun r hr => (e2 r (by simpa using hr)).1
      have hB : zss.reverse.flatten.length = 64 := by rw [flat_len _ hrev]; simp [hl]
      refine ⟨zss.reverse.flatten, ?_, hB, ?_, ?_⟩
      · rw [← h, e1]; unfold nI; rw [List.map_flatten, List.map_reverse]
      · rw [List.all_eq_true]
        intro c hc
        obtain ⟨r, hr, hcr⟩ := List.mem_flatten.mp hc
        exact List.all_eq_true.mp (e2 r (by simpa using hr)).2 c hcr
      · unfold wboardS
        rw [wrows_is _ hB]
        have : (List.range 8).map (fun i => wr1 (rowL zss.reverse.flatten (7 - i))) = zss.map wr1 := by
          apply List.ext_getElem
          · simp [hl]
          · intro i h1 h2
            have hi : i < 8 := by simpa using h1
            simp only [List.getElem_map, List.getElem_range]
            rw [chunk _ hrev (7 - i) (by simp [hl]; omega), List.getElem_reverse]
            congr 2
            omega
        rw [this, e3, words_join]
  · simp at h

/-! what signs a rank's text has -/
def sgn (c : UInt8) : Bool := letS c || digS c
theorem gap_sgn (g : Nat) (h : g ≤ 8) : (gapS g).all sgn = true := by
  unfold gapS
  split
  · rfl
  · have := (gap_dig g (by omega) (by omega)).1
    rw [List.all_cons]; unfold sgn; rw [this]; simp
theorem wr_sgn (zs : List UInt8) (h : zs.all okL = true) (h8 : zs.length ≤ 8) : (wrL zs).1.all sgn = true ∧ (wrL zs).2 ≤ zs.length := by
  induction hn : zs.length generalizing zs with
  | zero =>
    have : zs = [] := List.length_eq_zero_iff.mp hn
    subst this
    exact ⟨rfl, Nat.le_refl _⟩
  | succ n ih =>
    have hne : zs ≠ [] := fun e => by subst e; simp at hn
    obtain ⟨m, c, rfl⟩ : ∃ m c, zs = m ++ [c] := ⟨zs.dropLast, zs.getLast hne, (List.dropLast_concat_getLast hne).symm⟩
    rw [List.all_append] at h
    simp only [Bool.and_eq_true, List.all_cons, List.all_nil, Bool.and_true] at h
    have hm : m.length = n := by simpa using hn
    obtain ⟨i1, i2⟩ := ih m h.1 (by simp at h8; omega) hm
    rw [wrL_snoc]
    unfold wrStep
    by_cases hc : c = 46
    · rw [if_pos hc]; exact ⟨i1, by simp; omega⟩
    · rw [if_neg hc]
      have hl : letS c = true := by have := h.2; unfold okL at this; simpa [hc] using this
      refine ⟨?_, by simp⟩
      rw [List.all_append, List.all_append, i1, gap_sgn _ (by simp at h8; omega)]
      simp [sgn, hl]
theorem wr1_sgn (zs : List UInt8) (h : zs.all okL = true) (h8 : zs.length ≤ 8) : (wr1 zs).all sgn = true := by
  obtain ⟨i1, i2⟩ := wr_sgn zs h h8
  unfold wr1
  rw [List.all_append, i1, gap_sgn _ (by omega)]; rfl
theorem sgn_47 : sgn 47 = false := by decide
theorem sgn_32 : sgn 32 = false := by decide
theorem not_in (l : List UInt8) (h : l.all sgn = true) (c : UInt8) (hc : sgn c = false) : c ∉ l := fun hm => by
  have := List.all_eq_true.mp h c hm
  rw [hc] at this; exact absurd this (by decide)

theorem ranks_forth : ∀ (xs : List ByteArray) (zss : List (List UInt8)), xs.map (·.data.toList) = zss.map wr1 → (∀ z ∈ zss, z.length = 8 ∧ z.all okL = true) → ranksS xs = some (zss.map nI)
  | [], [], _, _ => rfl
  | [], z :: t, h, _ => by simp at h
  | x :: t, [], h, _ => by simp at h
  | x :: t, z :: zt, h, hz => by
      simp only [List.map_cons, List.cons.injEq] at h
      have h1 : rankS x.data.toList = some (nI z) := by rw [h.1]; exact rank_forth z (hz z (by simp)).2 (hz z (by simp)).1
      have h2 := ranks_forth t zt h.2 (fun y hy => hz y (by simp [hy]))
      unfold ranksS
      rw [h1, h2]
      rfl

theorem row_ok (B : List UInt8) (hB : B.length = 64) (h : B.all okL = true) (j : Nat) (hj : j < 8) : (rowL B j).length = 8 ∧ (rowL B j).all okL = true := by
  refine ⟨by simp [rowL]; omega, ?_⟩
  rw [List.all_eq_true] at h ⊢
  intro c hc
  exact h c (List.mem_of_mem_drop (List.mem_of_mem_take hc))

theorem board_forth (B : List UInt8) (hB : B.length = 64) (h : B.all okL = true) (x : ByteArray) (hx : x.data.toList = wboardS (zB B)) : boardS x = some (nI B) := by
  have hrows := wrows_is B hB
  have hj : x.data.toList = Lib.join ((List.range 8).map (fun i => wr1 (rowL B (7 - i)))) [47] := by rw [hx]; unfold wboardS; rw [hrows]
  have hw := words_of_join 47 9 (wr1 (rowL B 7)) ((List.range 7).map (fun i => wr1 (rowL B (6 - i)))) (by
    intro y hy
    have : ∃ j, j < 8 ∧ y = wr1 (rowL B j) := by
      rcases List.mem_cons.mp hy with rfl | hy
      · exact ⟨7, by omega, rfl⟩
      · obtain ⟨i, _, rfl⟩ := List.mem_map.mp hy
        exact ⟨6 - i, by omega, rfl⟩
    obtain ⟨j, hj, rfl⟩ := this
    obtain ⟨k1, k2⟩ := row_ok B hB h j hj
    exact not_in _ (wr1_sgn _ k2 (by omega)) 47 sgn_47) (by simp) x (by rw [hj]; rfl)
  have hw' : (wordsS 47 9 x).map (·.data.toList) = ((List.range 8).map (fun i => rowL B (7 - i))).map wr1 := by rw [hw]; rfl
  have h8 : (wordsS 47 9 x).length = 8 := by have := congrArg List.length hw'; simpa using this
  unfold boardS
  rw [if_pos h8, ranks_forth _ _ hw' (by
    intro z hz
    obtain ⟨i, _, rfl⟩ := List.mem_map.mp hz
    exact row_ok B hB h (7 - i) (by omega))]
  simp only [Option.some.injEq]
  have e : (List.map nI ((List.range 8).map (fun i => rowL B (7 - i)))).reverse = ((List.range 8).map (rowL B)).map nI := rfl
  rw [e]
  have := chunks B 8
  rw [List.take_of_length_le (by omega)] at this
  unfold nI
  rw [← List.map_flatten, this]

end Go.Proofs.YtnfakamfmkhlbaaGreatDoor.C
