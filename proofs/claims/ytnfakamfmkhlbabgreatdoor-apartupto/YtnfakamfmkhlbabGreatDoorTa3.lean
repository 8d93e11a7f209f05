import Derived.Test.YtnfakamfmkhlbabGreatDoorKb23
import Derived.Test.YtnfakamfmkhlbabGreatDoorTa2
import Derived.Test.YtnfakamfmkhlbabGreatDoorShu
namespace Go.Proofs.YtnfakamfmkhlbabGreatDoor.C

open Go.Proofs.YtnfakamfmkhlbabGreatDoor.P

set_option maxRecDepth 100000

/-! short notation: two moves are never the same in it -/

structure Lgm (z : Nat → UInt8) (wh : Bool) (fc : Nat → Bool) (b : Int) (f t : Nat) (u : UInt8) (i : Nat) : Prop where
  hf : f < 64
  ht : t < 64
  hu : u ∈ U5
  hi : i < 6
  hc : ixc (z f) = ((bg wh + i : Nat) : Int)
  go : goesR z wh fc b f t u = true
  tu : (f, t, u) ∈ turnsB (decide (i = 0)) f t

theorem lg_of {z : Nat → UInt8} {wh : Bool} {fc : Nat → Bool} {b : Int} (hC : Can z wh fc b) (h0 : -1 ≤ b) (h1 : b ≤ 63) {f t : Nat} {u : UInt8} (hx : (f, t, u) ∈ movS z wh fc b) : ∃ i, Lgm z wh fc b f t u i := by
  have h2 : (f, t, u) ∈ alU z wh fc b 64 := (List.mem_filter.1 ((same_mem hC h0 h1 _).2 hx)).1
  obtain ⟨i, f', t', u', e, hi, hf, ht, hc, hm, hu⟩ := (alU_mem hC).1 h2
  injection e with e1 e
  injection e with e2 e3
  subst e1 e2 e3
  obtain ⟨v, e, _, hv⟩ := turn_u hu
  injection e with _ e
  injection e with _ e
  have hu5 : u ∈ U5 := by
    rw [e]
    rcases hv with rfl | rfl | rfl | rfl | rfl <;> decide
  exact ⟨i, hf, ht, hu5, hi, hc, (goes_iff hC hf ht hu5).2 ⟨i, hi, hc, hm, hu⟩, hu⟩

theorem Lgm.u0 {z : Nat → UInt8} {wh : Bool} {fc : Nat → Bool} {b : Int} {f t : Nat} {u : UInt8} {i : Nat} (h : Lgm z wh fc b f t u i) (hi : i ≠ 0) : u = 0 := by
  obtain ⟨v, e, hv, _⟩ := turn_u h.tu
  injection e with _ e
  injection e with _ e
  rw [e]
  exact hv (by simpa using hi)

theorem upc_letr : ∀ p, p < 12 → upc (letr p) = capN (p % 6) := by decide +kernel

theorem Lgm.cap {z : Nat → UInt8} {wh : Bool} {fc : Nat → Bool} {b : Int} {f t : Nat} {u : UInt8} {i : Nat} (h : Lgm z wh fc b f t u i) : upc (z f) = capN i := by
  have hi := h.hi
  have hb : bg wh = 0 ∨ bg wh = 6 := by cases wh <;> simp [bg]
  rw [letr_of (p := bg wh + i) (by omega) h.hc, upc_letr _ (by omega)]
  congr 1
  omega

theorem body_cases (M : List Mv) {z : Nat → UInt8} {wh : Bool} {fc : Nat → Bool} {b : Int} {f t : Nat} {u : UInt8} {i : Nat} (h : Lgm z wh fc b f t u i) :
    (i = 5 ∧ t = f + 2 ∧ bodyS M z (f, t, u) = [79, 45, 79]) ∨ (i = 5 ∧ t + 2 = f ∧ bodyS M z (f, t, u) = [79, 45, 79, 45, 79]) ∨ (i = 0 ∧ bodyS M z (f, t, u) = pawnT f t u) ∨ (i ≠ 0 ∧ bodyS M z (f, t, u) = pieceT M z f t) := by
  obtain ⟨e1, e2⟩ := pk_is h.hi h.hc
  unfold bodyS
  simp only [e1, e2, decide_eq_true_eq]
  by_cases h5 : i = 5
  · by_cases ha : t = f + 2
    · exact .inl ⟨h5, ha, by rw [if_pos ⟨h5, ha⟩]⟩
    · by_cases hb : t + 2 = f
      · exact .inr (.inl ⟨h5, hb, by rw [if_neg (fun q => ha q.2), if_pos ⟨h5, hb⟩]⟩)
      · exact .inr (.inr (.inr ⟨by omega, by rw [if_neg (fun q => ha q.2), if_neg (fun q => hb q.2), if_neg (by omega)]⟩))
  · by_cases h0 : i = 0
    · exact .inr (.inr (.inl ⟨h0, by rw [if_neg (fun q => h5 q.1), if_neg (fun q => h5 q.1), if_pos h0]⟩))
    · exact .inr (.inr (.inr ⟨h0, by rw [if_neg (fun q => h5 q.1), if_neg (fun q => h5 q.1), if_neg h0]⟩))

theorem file_all : ∀ a, a < 8 → ∀ b, b < 8 → UInt8.ofNat (97 + a) = UInt8.ofNat (97 + b) → a = b := by decide +kernel

theorem rank_all : ∀ a, a < 8 → ∀ b, b < 8 → UInt8.ofNat (49 + a) = UInt8.ofNat (49 + b) → a = b := by decide +kernel

theorem file_rank : ∀ a, a < 8 → ∀ b, b < 8 → UInt8.ofNat (97 + a) ≠ UInt8.ofNat (49 + b) := by decide +kernel

theorem file_no : ∀ a, a < 8 → ∀ i, i < 6 → UInt8.ofNat (97 + a) ≠ capN i ∧ UInt8.ofNat (97 + a) ≠ 79 := by decide +kernel

theorem rank_no : ∀ a, a < 8 → UInt8.ofNat (49 + a) ≠ 120 ∧ UInt8.ofNat (49 + a) ≠ 43 ∧ UInt8.ofNat (49 + a) ≠ 35 := by decide +kernel

theorem cap_no : ∀ i, i < 6 → capN i ≠ 79 := by decide +kernel

theorem cap_inj : ∀ i, i < 6 → ∀ j, j < 6 → capN i = capN j → i = j := by decide +kernel

theorem upc_u : ∀ u ∈ U5, ∀ v ∈ U5, u ≠ 0 → v ≠ 0 → upc u = upc v → u = v := by decide +kernel

theorem upc_last : ∀ u ∈ U5, upc u ≠ 43 ∧ upc u ≠ 35 := by decide +kernel

theorem fileC_inj {f g : Nat} (h : fileC f = fileC g) : f % 8 = g % 8 := file_all _ (by omega) _ (by omega) h

theorem rankC_inj {f g : Nat} (hf : f < 64) (hg : g < 64) (h : rankC f = rankC g) : f / 8 = g / 8 := rank_all _ (by omega) _ (by omega) h

theorem pawnT_head (f t : Nat) (u : UInt8) : ∃ g l, pawnT f t u = fileC g :: l := by
  unfold pawnT
  split
  · exact ⟨t, _, rfl⟩
  · exact ⟨f, _, rfl⟩

/-- a pawn's move: how it goes. -/
theorem Lgm.pawn {z : Nat → UInt8} {wh : Bool} {fc : Nat → Bool} {b : Int} {f t : Nat} {u : UInt8} (hC : Can z wh fc b) (h : Lgm z wh fc b f t u 0) : (f % 8 ≠ t % 8 → ((t / 8 : Nat) : Int) - ((f / 8 : Nat) : Int) = sdb wh) ∧ (f % 8 = t % 8 → AhP z wh f t) := by
  have hr := hC.pw wh f h.hf (by simpa using h.hc)
  have hk : kdc (z f) = 0 := by simpa using kd_ix h.hi h.hc
  have hg := h.go
  unfold goesR at hg
  rw [Bool.and_eq_true, if_pos hk] at hg
  have hp := hg.2
  unfold pwR at hp
  cases ha : attI (zI z) 0 (sdb wh) (f : Int) (t : Int) with
  | true =>
    refine ⟨fun _ => ?_, fun q => ?_⟩
    · have := pawn_step ha
      omega
    · exact absurd (show (t : Int) % 8 = (f : Int) % 8 by omega) (pawn_file ha)
  | false =>
    rw [ha] at hp
    simp only [Bool.false_eq_true, if_false] at hp
    have hq := (pawn_ah h.hf h.ht hr).1 hp
    rw [Bool.and_eq_true, Bool.and_eq_true, decide_eq_true_eq] at hp
    exact ⟨fun q => absurd hp.1.1 q, fun _ => hq⟩

theorem ix_pawn {z : Nat → UInt8} {wh : Bool} {n i : Nat} (h : ixc (z n) = ((bg wh + i : Nat) : Int)) : z n ≠ 46 := fun e => by
  rw [e, dot_ix] at h
  omega

theorem pawn_one {z : Nat → UInt8} {wh : Bool} {fc : Nat → Bool} {b : Int} {f g t : Nat} {u : UInt8} (hC : Can z wh fc b) (hx : Lgm z wh fc b f t u 0) (hy : Lgm z wh fc b g t u 0) (hfg : f % 8 = g % 8) : f = g := by
  have hf := hx.hf
  have hg := hy.hf
  have rx := hC.pw wh f hx.hf (by simpa using hx.hc)
  have ry := hC.pw wh g hy.hf (by simpa using hy.hc)
  by_cases hs : f % 8 = t % 8
  · have ax := (hx.pawn hC).2 hs
    have ay := (hy.pawn hC).2 (by omega)
    have nx := ix_pawn hx.hc
    have ny := ix_pawn hy.hc
    unfold AhP fw startR at ax ay
    cases wh
    · simp only [Bool.false_eq_true, if_false, decide_eq_true_eq] at ax ay
      rcases ax with ⟨a1, a2⟩ | ⟨a0, a1, a2, a3⟩ <;> rcases ay with ⟨c1, c2⟩ | ⟨c0, c1, c2, c3⟩
      · omega
      · exact absurd (by rw [show f = g - 8 * 1 by omega]; exact c2) nx
      · exact absurd (by rw [show g = f - 8 * 1 by omega]; exact a2) ny
      · omega
    · simp only [if_true, decide_eq_true_eq] at ax ay
      rcases ax with ⟨a1, a2⟩ | ⟨a0, a1, a2, a3⟩ <;> rcases ay with ⟨c1, c2⟩ | ⟨c0, c1, c2, c3⟩
      · omega
      · exact absurd (by rw [show f = g + 8 * 1 by omega]; exact c2) nx
      · exact absurd (by rw [show g = f + 8 * 1 by omega]; exact a2) ny
      · omega
  · have ax := (hx.pawn hC).1 hs
    have ay := (hy.pawn hC).1 (by omega)
    omega

theorem pawnT_inj {f t g s : Nat} {u v : UInt8} (ht : t < 64) (hs : s < 64) (hu : u ∈ U5) (hv : v ∈ U5) (h : pawnT f t u = pawnT g s v) : f % 8 = g % 8 ∧ t = s ∧ u = v := by
  have tail : ∀ {t s : Nat} {u v : UInt8}, t < 64 → s < 64 → u ∈ U5 → v ∈ U5 → nameS t ++ (if u = 0 then [] else [61, upc u]) = nameS s ++ (if v = 0 then [] else [61, upc v]) → t = s ∧ u = v := by
    intro t s u v ht hs hu hv h
    rw [name_is, name_is] at h
    simp only [List.cons_append, List.nil_append, List.cons.injEq] at h
    obtain ⟨h1, h2, h3⟩ := h
    refine ⟨nmq_inj _ ht _ hs (by rw [name_is, name_is, h1, h2]), ?_⟩
    by_cases a : u = 0 <;> by_cases c : v = 0
    · rw [a, c]
    · rw [if_pos a, if_neg c] at h3; cases h3
    · rw [if_neg a, if_pos c] at h3; cases h3
    · rw [if_neg a, if_neg c] at h3
      simp only [List.cons.injEq, and_true, true_and] at h3
      exact upc_u u hu v hv a c h3
  unfold pawnT at h
  rw [List.append_assoc, List.append_assoc] at h
  by_cases a : f % 8 = t % 8 <;> by_cases c : g % 8 = s % 8
  · rw [if_pos a, if_pos c] at h
    obtain ⟨e1, e2⟩ := tail ht hs hu hv h
    exact ⟨by rw [a, c, e1], e1, e2⟩
  · rw [if_pos a, if_neg c, name_is t] at h
    simp only [List.cons_append, List.nil_append, List.cons.injEq] at h
    exact absurd h.2.1 (rank_no (t / 8) (by omega)).1
  · rw [if_neg a, if_pos c, name_is s] at h
    simp only [List.cons_append, List.nil_append, List.cons.injEq] at h
    exact absurd h.2.1.symm (rank_no (s / 8) (by omega)).1
  · rw [if_neg a, if_neg c] at h
    simp only [List.cons_append, List.nil_append, List.cons.injEq, true_and] at h
    obtain ⟨e1, e2⟩ := tail ht hs hu hv h.2
    exact ⟨fileC_inj h.1, e1, e2⟩

theorem whT_apart {L L' : List Mv} {f g : Nat} {x y : Mv} (hf : f < 64) (hg : g < 64) (hx : x.1 = f) (hy : y.1 = g) (hL : y ∈ L) (hL' : x ∈ L') (h : whT L f = whT L' g) : f = g := by
  have n1 : ¬ L.isEmpty = true := by cases L with | nil => cases hL | cons a l => simp
  have n2 : ¬ L'.isEmpty = true := by cases L' with | nil => cases hL' | cons a l => simp
  unfold whT at h
  rw [if_neg n1, if_neg n2] at h
  have f1 : L.all (fun y => !decide (y.1 % 8 = f % 8)) = true → g % 8 ≠ f % 8 := fun q => by
    have := List.all_eq_true.1 q y hL
    simpa [hy] using this
  have r1 : L.all (fun y => !decide (y.1 / 8 = f / 8)) = true → g / 8 ≠ f / 8 := fun q => by
    have := List.all_eq_true.1 q y hL
    simpa [hy] using this
  split at h
  · rename_i q
    have q1 := f1 q
    split at h
    · injection h with h _
      exact absurd (fileC_inj h).symm q1
    · split at h
      · injection h with h _
        exact absurd h (file_rank (f % 8) (by omega) (g / 8) (by omega))
      · exact absurd (congrArg List.length h) (by simp [name_is])
  · split at h
    · rename_i q
      have q1 := r1 q
      split at h
      · injection h with h _
        exact absurd h.symm (file_rank (g % 8) (by omega) (f / 8) (by omega))
      · split at h
        · injection h with h _
          exact absurd (rankC_inj hf hg h).symm q1
        · exact absurd (congrArg List.length h) (by simp [name_is])
    · split at h
      · exact absurd (congrArg List.length h) (by simp [name_is])
      · split at h
        · exact absurd (congrArg List.length h) (by simp [name_is])
        · exact nmq_inj _ hf _ hg h

theorem end_two {a c : List UInt8} {t s : Nat} (ht : t < 64) (hs : s < 64) (h : a ++ nameS t = c ++ nameS s) : a = c ∧ t = s := by
  have := List.append_inj' h (by rw [name_is, name_is]; rfl)
  exact ⟨this.1, nmq_inj _ ht _ hs this.2⟩

theorem body_inj {z : Nat → UInt8} {wh : Bool} {fc : Nat → Bool} {b : Int} (hC : Can z wh fc b) (h0 : -1 ≤ b) (h1 : b ≤ 63) {x y : Mv} (hx : x ∈ movS z wh fc b) (hy : y ∈ movS z wh fc b) (h : bodyS (movS z wh fc b) z x = bodyS (movS z wh fc b) z y) : x = y := by
  obtain ⟨f, t, u⟩ := x
  obtain ⟨g, s, v⟩ := y
  obtain ⟨i, lx⟩ := lg_of hC h0 h1 hx
  obtain ⟨j, ly⟩ := lg_of hC h0 h1 hy
  have kg : i = 5 → j = 5 → f = g := fun a c => king_one (hC.k1 wh) lx.hf ly.hf (by rw [← a]; exact lx.hc) (by rw [← c]; exact ly.hc)
  have ux : i ≠ 0 → u = 0 := lx.u0
  have uy : j ≠ 0 → v = 0 := ly.u0
  have hi := lx.hi
  have hj := ly.hi
  rcases body_cases (movS z wh fc b) lx with ⟨a1, a2, a3⟩ | ⟨a1, a2, a3⟩ | ⟨a1, a3⟩ | ⟨a1, a3⟩ <;> rcases body_cases (movS z wh fc b) ly with ⟨c1, c2, c3⟩ | ⟨c1, c2, c3⟩ | ⟨c1, c3⟩ | ⟨c1, c3⟩ <;> rw [a3, c3] at h
  · rw [kg a1 c1, show t = s by have := kg a1 c1; omega, ux (by omega), uy (by omega)]
  · cases h
  · obtain ⟨q, l, e⟩ := pawnT_head g s v
    rw [e] at h
    injection h with h _
    exact absurd h.symm (file_no (q % 8) (by omega) 0 (by omega)).2
  · unfold pieceT at h
    rw [ly.cap] at h
    injection h with h _
    exact absurd h.symm (cap_no j hj)
  · cases h
  · rw [kg a1 c1, show t = s by have := kg a1 c1; omega, ux (by omega), uy (by omega)]
  · obtain ⟨q, l, e⟩ := pawnT_head g s v
    rw [e] at h
    injection h with h _
    exact absurd h.symm (file_no (q % 8) (by omega) 0 (by omega)).2
  · unfold pieceT at h
    rw [ly.cap] at h
    injection h with h _
    exact absurd h.symm (cap_no j hj)
  · obtain ⟨q, l, e⟩ := pawnT_head f t u
    rw [e] at h
    injection h with h _
    exact absurd h (file_no (q % 8) (by omega) 0 (by omega)).2
  · obtain ⟨q, l, e⟩ := pawnT_head f t u
    rw [e] at h
    injection h with h _
    exact absurd h (file_no (q % 8) (by omega) 0 (by omega)).2
  · obtain ⟨e1, e2, e3⟩ := pawnT_inj lx.ht ly.ht lx.hu ly.hu h
    subst a1 c1 e2 e3
    rw [pawn_one hC lx ly e1]
  · obtain ⟨q, l, e⟩ := pawnT_head f t u
    unfold pieceT at h
    rw [e, ly.cap] at h
    injection h with h _
    exact absurd h (file_no (q % 8) (by omega) j hj).1
  · unfold pieceT at h
    rw [lx.cap] at h
    injection h with h _
    exact absurd h (cap_no i hi)
  · unfold pieceT at h
    rw [lx.cap] at h
    injection h with h _
    exact absurd h (cap_no i hi)
  · obtain ⟨q, l, e⟩ := pawnT_head g s v
    unfold pieceT at h
    rw [e, lx.cap] at h
    injection h with h _
    exact absurd h.symm (file_no (q % 8) (by omega) i hi).1
  · unfold pieceT at h
    injection h with ha hb
    rw [lx.cap, ly.cap] at ha
    have hij := cap_inj i hi j hj ha
    obtain ⟨hb, e⟩ := end_two lx.ht ly.ht hb
    subst hij e
    have hb' := (List.append_inj' hb rfl).1
    have hz : z f = z g := by
      have hb2 : bg wh = 0 ∨ bg wh = 6 := by cases wh <;> simp [bg]
      rw [letr_of (p := bg wh + i) (by omega) lx.hc, letr_of (p := bg wh + i) (by omega) ly.hc]
    have eu := ux a1
    have ev := uy a1
    subst eu ev
    by_cases hne : f = g
    · rw [hne]
    · have := whT_apart (x := (f, t, 0)) (y := (g, t, 0)) lx.hf ly.hf rfl rfl (L := othB (movS z wh fc b) z f t) (L' := othB (movS z wh fc b) z g t)
        (List.mem_filter.2 ⟨hy, by simp [hz, Ne.symm hne]⟩) (List.mem_filter.2 ⟨hx, by simp [hz, hne]⟩) hb'
      exact absurd this hne

theorem body_last (M : List Mv) {z : Nat → UInt8} {wh : Bool} {fc : Nat → Bool} {b : Int} {f t : Nat} {u : UInt8} {i : Nat} (h : Lgm z wh fc b f t u i) : ∃ l c, bodyS M z (f, t, u) = l ++ [c] ∧ c ≠ 43 ∧ c ≠ 35 := by
  have ht := h.ht
  have hn : ∀ a : List UInt8, ∃ l c, a ++ nameS t = l ++ [c] ∧ c ≠ 43 ∧ c ≠ 35 := fun a => ⟨a ++ [fileC t], rankC t, by rw [name_is, List.append_assoc]; rfl, (rank_no (t / 8) (by omega)).2⟩
  rcases body_cases M h with ⟨_, _, e⟩ | ⟨_, _, e⟩ | ⟨_, e⟩ | ⟨_, e⟩ <;> rw [e]
  · exact ⟨[79, 45], 79, rfl, by decide, by decide⟩
  · exact ⟨[79, 45, 79, 45], 79, rfl, by decide, by decide⟩
  · unfold pawnT
    by_cases hu : u = 0
    · rw [if_pos hu, List.append_nil]
      exact hn _
    · rw [if_neg hu]
      exact ⟨_, upc u, by rw [show ([61, upc u] : List UInt8) = [61] ++ [upc u] from rfl, ← List.append_assoc], upc_last u h.hu⟩
  · unfold pieceT
    rw [← List.cons_append]
    exact hn _

theorem short_inj {z : Nat → UInt8} {wh : Bool} {fc : Nat → Bool} {b : Int} (hC : Can z wh fc b) (h0 : -1 ≤ b) (h1 : b ≤ 63) {x y : Mv} (hx : x ∈ movS z wh fc b) (hy : y ∈ movS z wh fc b) {e1 e2 : List UInt8} (he1 : e1 = [] ∨ e1 = [43] ∨ e1 = [35]) (he2 : e2 = [] ∨ e2 = [43] ∨ e2 = [35]) (h : bodyS (movS z wh fc b) z x ++ e1 = bodyS (movS z wh fc b) z y ++ e2) : x = y := by
  obtain ⟨i, lx⟩ := lg_of (f := x.1) (t := x.2.1) (u := x.2.2) hC h0 h1 hx
  obtain ⟨j, ly⟩ := lg_of (f := y.1) (t := y.2.1) (u := y.2.2) hC h0 h1 hy
  obtain ⟨l, c, ea, c1, c2⟩ := body_last (movS z wh fc b) lx
  obtain ⟨m, d, eb, d1, d2⟩ := body_last (movS z wh fc b) ly
  have key : bodyS (movS z wh fc b) z x = bodyS (movS z wh fc b) z y := by
    have ea' : bodyS (movS z wh fc b) z x = l ++ [c] := ea
    have eb' : bodyS (movS z wh fc b) z y = m ++ [d] := eb
    rcases he1 with rfl | rfl | rfl <;> rcases he2 with rfl | rfl | rfl
    · simpa using h
    · rw [ea', List.append_nil] at h
      exact absurd (List.singleton_inj.1 (List.append_inj' h rfl).2) c1
    · rw [ea', List.append_nil] at h
      exact absurd (List.singleton_inj.1 (List.append_inj' h rfl).2) c2
    · rw [eb', List.append_nil] at h
      exact absurd (List.singleton_inj.1 (List.append_inj' h rfl).2).symm d1
    · exact (List.append_inj' h rfl).1
    · exact (List.append_inj' h rfl).1
    · rw [eb', List.append_nil] at h
      exact absurd (List.singleton_inj.1 (List.append_inj' h rfl).2).symm d2
    · exact (List.append_inj' h rfl).1
    · exact (List.append_inj' h rfl).1
  exact body_inj hC h0 h1 hx hy key

end Go.Proofs.YtnfakamfmkhlbabGreatDoor.C

namespace Go.Proofs.YtnfakamfmkhlbabGreatDoor.C

open Go.ChangeShapes Go.WideShapes Go.ChangeAt Go.RowKit Go.Shelf

open Go.Proofs.YtnfakamfmkhlbabGreatDoor.P

attribute [local go_sem] setCell_drewN alloc_drewN Oper.semAt_some

/-! brief: a letter made great; a pawn's move -/

theorem upper_is : ∀ c : UInt8, Lib.upperB c = upc c := by
  have : ∀ n, n < 256 → Lib.upperB (UInt8.ofNat n) = upc (UInt8.ofNat n) := by decide +kernel
  intro c
  have := this c.toNat (by have := c.toNat_lt; omega)
  rwa [UInt8.ofNat_toNat] at this

theorem great_any (c : UInt8) (hc : c.toNat < 128) (w : World) : Calls Tryz.prog 202 #[.int .u8 (c.toNat : Int)] w fun e w' => e = .returned (.string (str [upc c])) ∧ Gr w w' := by
  have hcv := conv_bytes (w.alloc (.cells #[.int .u8 (c.toNat : Int)] 5)) ⟨w.heap.size, 0, none⟩ 1 [c] (by
    intro i hi
    rw [Addr.add_lit, Nat.zero_add, World.cell?_alloc_at _ _ _ _ rfl]
    have : i = 0 := by simp at hi; omega
    subst this; rfl)
  have hcv' : (convert 145 9 (.slice (some ⟨w.heap.size, 0, none⟩) 1 1)).run Tryz.prog (w.alloc (.cells #[.int .u8 (c.toNat : Int)] 5)) = .ok (.string ⟨#[c]⟩) (w.alloc (.cells #[.int .u8 (c.toNat : Int)] 5)) := hcv
  have hup : Hid (∀ W, Calls Tryz.prog 250 #[.string ⟨#[c]⟩] W fun e w' => e = .returned (.string (str [upc c])) ∧ Gr W w') := hide fun W => (Tryz.strings_ToUpper_ascii ⟨#[c]⟩ W (by show 1 ≤ _; decide) (by
    intro j b h
    have hj : j = 0 := by
      have := (List.getElem?_eq_some_iff.1 h).1
      simp at this; omega
    subst hj
    have : c = b := Option.some.inj h
    rw [← this]; exact hc)).mono fun e w' k => ⟨by rw [k.1]; show Ending.returned (.string ⟨[Lib.upperB c].toArray⟩) = _; rw [upper_is]; rfl, k.2⟩
  clear hcv
  have hg0 := hide ((Gr.refl w).alloc #[.int .u8 (c.toNat : Int)] 5)
  go_enter Tryz.func202, Tryz.ntmps202
  go_wp2_with (go_at_call 250; refine (unhide hup _).mono ?_; rintro e w' ⟨rfl, hg⟩)
  go_ret
  exact ⟨rfl, Gr.trans (unhide hg0) hg⟩

end Go.Proofs.YtnfakamfmkhlbabGreatDoor.C

namespace Go.Proofs.YtnfakamfmkhlbabGreatDoor.C

open Go.ChangeShapes Go.WideShapes Go.ChangeAt Go.RowKit Go.Shelf

open Go.Proofs.YtnfakamfmkhlbabGreatDoor.P

attribute [local go_sem] setCell_drewN alloc_drewN Oper.semAt_some

theorem nameG_any (n : Nat) (h : n < 64) (w : World) : Calls Tryz.prog 69 #[.int .i64 n] w fun e w' => e = .returned (.string (str [fileC n, rankC n])) ∧ Gr w w' := (nameD_any n h w).mono fun _ _ k => ⟨k.1, k.2.gr⟩

theorem add_run (x y : List UInt8) (h : x.length + y.length ≤ 100) (W : World) : (Op.stringOp .add (str x) (str y)).run Tryz.prog W = .ok (.string (str (x ++ y))) W := by
  rw [← str_app]
  exact run_string_add_sum W _ _ (by
    have e1 : (str x).size = x.length := by show x.toArray.size = _; simp
    have e2 : (str y).size = y.length := by show y.toArray.size = _; simp
    rw [e1, e2]
    exact Nat.le_trans h (by decide))

set_option linter.unusedSimpArgs false in
set_option maxRecDepth 100000 in
set_option maxHeartbeats 400000 in
theorem pawnMove_any (f t : Nat) (hf : f < 64) (ht : t < 64) (u : UInt8) (hu : u.toNat < 128) (w : World) : Calls Tryz.prog 122 #[.agg #[.int .i64 (f : Int), .int .i64 (t : Int), .int .u8 (u.toNat : Int)]] w fun e w' => e = .returned (.string (str (pawnT f t u))) ∧ Gr w w' := by
  have hN1 := hide (fun W => nameG_any f hf W)
  have hN2 := hide (fun W => nameG_any t ht W)
  have hG := hide (fun W => great_any u hu W)
  have hin : Hid (∀ w', Gr (w.alloc (.cells #[.int .i64 (f : Int), .int .i64 (t : Int), .int .u8 (u.toNat : Int)] 87)) w' → _) := hide (fun w' g => (mv_in g).2)
  have hg0 := hide ((Gr.refl w).alloc #[.int .i64 (f : Int), .int .i64 (t : Int), .int .u8 (u.toNat : Int)] 87)
  go_enter Tryz.func122, Tryz.ntmps122
  go_upto_region 1 with fail
  generalize w.alloc (.cells #[.int .i64 (f : Int), .int .i64 (t : Int), .int .u8 (u.toNat : Int)] 87) = w1 at hin hg0 ⊢
  obtain ⟨c0, c1, c2⟩ := unhide hin _ (Gr.refl _)
  go_upto_region 2 with (go_at_call 69; refine (unhide hN2 _).mono ?_; rintro e w2 ⟨rfl, hg2⟩)
  obtain ⟨d0, d1, d2⟩ := unhide hin _ hg2
  clear c0 c1 c2
  have hg2w := hide (Gr.trans (unhide hg0) hg2)
  have hg2' := hide hg2
  have r1 := hide (fun W => add_run [fileC f] [120] (by simp) W)
  have r2 := hide (fun W => add_run ([fileC f] ++ [120]) [fileC t, rankC t] (by simp) W)
  have r3 := hide (fun W => add_run [61] [upc u] (by simp) W)
  have r4 := hide (fun W => add_run [fileC t, rankC t] ([61] ++ [upc u]) (by simp) W)
  have r5 := hide (fun W => add_run ([fileC f] ++ [120] ++ [fileC t, rankC t]) ([61] ++ [upc u]) (by simp) W)
  have ex : (str [fileC f, rankC f]).extract 0 1 = str [fileC f] := rfl
  have sz : (str [fileC f, rankC f]).size = 2 := rfl
  have z1 : Hid (f % 8 = t % 8 → u = 0 → str (pawnT f t u) = str [fileC t, rankC t]) := hide (fun a b => by unfold pawnT; rw [if_pos a, if_pos b]; rfl)
  have z2 : Hid (f % 8 = t % 8 → u ≠ 0 → str (pawnT f t u) = str ([fileC t, rankC t] ++ ([61] ++ [upc u]))) := hide (fun a b => by unfold pawnT; rw [if_pos a, if_neg b]; rfl)
  have z3 : Hid (f % 8 ≠ t % 8 → u = 0 → str (pawnT f t u) = str ([fileC f] ++ [120] ++ [fileC t, rankC t])) := hide (fun a b => by unfold pawnT; rw [if_neg a, if_pos b]; rfl)
  have z4 : Hid (f % 8 ≠ t % 8 → u ≠ 0 → str (pawnT f t u) = str ([fileC f] ++ [120] ++ [fileC t, rankC t] ++ ([61] ++ [upc u]))) := hide (fun a b => by unfold pawnT; rw [if_neg a, if_neg b]; rfl)
  generalize str ([fileC f] ++ [120] ++ [fileC t, rankC t] ++ ([61] ++ [upc u])) = S5 at r5 z4
  generalize str ([fileC f] ++ [120] ++ [fileC t, rankC t]) = S2 at r2 r5 z3
  generalize str ([fileC t, rankC t] ++ ([61] ++ [upc u])) = S4 at r4 z2
  generalize str ([fileC f] ++ [120]) = S1 at r1 r2
  generalize str ([61] ++ [upc u]) = S3 at r3 r4 r5
  generalize str [upc u] = UC at r3 hG
  generalize str [fileC f, rankC f] = NF at ex sz hN1
  generalize str [fileC f] = F1 at ex r1
  generalize str [fileC t, rankC t] = NT at r2 r4 z1 hN2 ⊢
  have r1' : ∀ W, (Op.stringOp .add F1 ⟨#[120]⟩).run Tryz.prog W = .ok (.string S1) W := unhide r1
  have r2' : ∀ W, (Op.stringOp .add S1 NT).run Tryz.prog W = .ok (.string S2) W := unhide r2
  have r3' : ∀ W, (Op.stringOp .add ⟨#[61]⟩ UC).run Tryz.prog W = .ok (.string S3) W := unhide r3
  have r4' : ∀ W, (Op.stringOp .add NT S3).run Tryz.prog W = .ok (.string S4) W := unhide r4
  have r5' : ∀ W, (Op.stringOp .add S2 S3).run Tryz.prog W = .ok (.string S5) W := unhide r5
  clear r1 r2 r3 r4 r5 hN2 hg2
  have hu' : u = 0 ∨ ((u.toNat : Int) != 0) = true := by
    by_cases e : u = 0
    · exact .inl e
    · exact .inr (bne_iff_ne.2 (fun q => e (UInt8.toNat_inj.1 (by simpa using q))))
  by_cases hs : f % 8 = t % 8
  · have hs' : (f : Int) % 8 = (t : Int) % 8 := by omega
    clear z3 z4 hN1
    rcases hu' with hu0 | hu0
    · have he' := hide (unhide z1 hs hu0)
      subst hu0
      clear z1 z2 hG
      go_wp2_with fail
      go_ret
      exact ⟨by rw [unhide he']; rfl, unhide hg2w⟩
    · have hne : u ≠ 0 := fun q => by rw [q] at hu0; cases hu0
      have he' := hide (unhide z2 hs hne)
      clear z1 z2 hne
      go_upto_region 6 with (go_at_call 202; refine (unhide hG _).mono ?_; rintro e w4 ⟨rfl, hg4⟩)
      have hgf := hide (Gr.trans (unhide hg2w) hg4)
      clear hg4 hG
      go_wp2_with fail
      go_ret
      exact ⟨by rw [unhide he']; rfl, unhide hgf⟩
  · have hs' : ¬ (f : Int) % 8 = (t : Int) % 8 := by omega
    clear z1 z2
    go_upto_region 4 with (go_at_call 69; refine (unhide hN1 _).mono ?_; rintro e w3 ⟨rfl, hg3⟩)
    obtain ⟨k0, k1, k2⟩ := unhide hin _ (Gr.trans (unhide hg2') hg3)
    have hg3w := hide (Gr.trans (unhide hg2w) hg3)
    clear hg3 hN1 hin hg2'
    rcases hu' with hu0 | hu0
    · have he' := hide (unhide z3 hs hu0)
      subst hu0
      clear z3 z4 hG
      go_wp2_with fail
      go_ret
      exact ⟨by rw [unhide he']; rfl, unhide hg3w⟩
    · have hne : u ≠ 0 := fun q => by rw [q] at hu0; cases hu0
      have he' := hide (unhide z4 hs hne)
      clear z3 z4 hne
      go_upto_region 6 with (go_at_call 202; refine (unhide hG _).mono ?_; rintro e w4 ⟨rfl, hg4⟩)
      have hgf := hide (Gr.trans (unhide hg3w) hg4)
      clear hg4 hG
      go_wp2_with fail
      go_ret
      exact ⟨by rw [unhide he']; rfl, unhide hgf⟩

end Go.Proofs.YtnfakamfmkhlbabGreatDoor.C
