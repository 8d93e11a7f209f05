import Derived.Test.YtnfakamfmkhlbaaGreatDoorCanM
namespace Go.Proofs.YtnfakamfmkhlbaaGreatDoor.C
open Go.RowKit
open Go.Proofs.YtnfakamfmkhlbaaGreatDoor.P

theorem free_congr {f g : Nat → Int} (h : ∀ n, n < 64 → (f n = 46 ↔ g n = 46)) (p : Nat → Int) (L : Nat) (hp : ∀ i, i ≤ L → 0 ≤ p i ∧ p i ≤ 63) : freeI f p L = freeI g p L := by
  unfold freeI
  apply decide_eq_decide.2
  constructor
  · intro k i h1 h2
    have := hp i (by omega)
    exact (h _ (by omega)).1 (k i h1 h2)
  · intro k i h1 h2
    have := hp i (by omega)
    exact (h _ (by omega)).2 (k i h1 h2)
theorem attI_congr {f g : Nat → Int} (h : ∀ n, n < 64 → (f n = 46 ↔ g n = 46)) (k : Nat) (s x y : Int) (h0 : 0 ≤ x) (h1 : x ≤ 63) (h2 : 0 ≤ y) (h3 : y ≤ 63) : attI f k s x y = attI g k s x y := by
  unfold attI
  have e : ∀ b : Bool, (b = true → stI x y = true ∨ slI x y = true) → (b && freeI f (pI x y) (LI x y)) = (b && freeI g (pI x y) (LI x y)) := fun b hb => by
    cases b
    · rfl
    · rw [free_congr h _ _ (path_b x y h0 h1 h2 h3 (hb rfl))]
  rw [e (slI x y) (fun h => .inr h), e (stI x y) (fun h => .inl h), e (stI x y || slI x y) (fun h => by simpa using h)]
theorem attI_side (f : Nat → Int) (k : Nat) (hk : k ≠ 0) (s t x y : Int) : attI f k s x y = attI f k t x y := by
  unfold attI
  rw [if_neg hk, if_neg hk]

def kindN (bw : Bool) (i : Nat) : Nat := if i = 0 then (if bw then 2 else 1) else i + 2
theorem kindN_I (bw : Bool) (i : Nat) : kindI bw i = ((kindN bw i : Nat) : Int) := by
  unfold kindI kindN
  by_cases h : i = 0
  · rw [if_pos h, if_pos h]; cases bw <;> rfl
  · rw [if_neg h, if_neg h]; omega
theorem fT_z {z : Nat → UInt8} (hok : layOk z = true) (n : Nat) (hn : n < 64) : fT (takenB (layS z 64)) n = 46 ↔ zI z n = 46 := by
  rw [fT_46, taken_bit z n hn, decide_eq_false_iff_not]
  have h := List.all_eq_true.1 hok n (List.mem_range.2 hn)
  rw [ok_ix] at h
  unfold zI
  constructor
  · intro hx
    have : z n = 46 := by simpa [hx] using h
    rw [this]; rfl
  · intro hx
    have : z n = 46 := by
      apply UInt8.toNat_inj.1
      have : (z n).toNat = 46 := by omega
      rw [this]; rfl
    rw [this]
    have e2 : ixc 46 = -1 := ib_dot
    omega
/-- a man on n attacks y just if, seen from y, n is reached. -/
theorem sees_back {z : Nat → UInt8} (hok : layOk z = true) (bw : Bool) (i : Nat) (hi : i < 6) (y n : Nat) (hy : y < 64) (hn : n < 64) : (reachB (kindN bw i) y (takenB (layS z 64))).getLsbD n = attI (zI z) i (sdb bw) (n : Int) (y : Int) := by
  by_cases h : i = 0
  · subst h
    cases bw
    · show (reachB 1 y _).getLsbD n = _
      have e1 : reachB 1 y (takenB (layS z 64)) = wpB y := rfl
      rw [e1, pawn_sym y hy n hn, bp_is n hn y hy]
      rfl
    · show (reachB 2 y _).getLsbD n = _
      have e1 : reachB 2 y (takenB (layS z 64)) = bpB y := rfl
      rw [e1, ← pawn_sym n hn y hy, wp_is n hn y hy]
      rfl
  · have hk : kindN bw i = i + 2 := by unfold kindN; rw [if_neg h]
    rw [hk, reach_sym (i + 2) y n (by omega) (by omega) hy hn, reach_ref (i + 2) n (by omega) (by omega) hn, refB_bit (i + 2) (n : Int) _ y hy]
    unfold refAtt
    have e1 : kR (i + 2) = i := by unfold kR; rw [if_neg (by omega)]; omega
    rw [e1, attI_side _ i h _ (sdb bw)]
    exact attI_congr (fun n hn => fT_z hok n hn) i _ _ _ (by omega) (by omega) (by omega) (by omega)
theorem sees_iff {z : Nat → UInt8} (hok : layOk z = true) (bw : Bool) (i : Nat) (hi : i < 6) (y : Nat) (hy : y < 64) : seesI (layS z 64) (y : Int) bw i = true ↔ ∃ n, n < 64 ∧ ixc (z n) = ((bg bw + i : Nat) : Int) ∧ attI (zI z) i (sdb bw) (n : Int) (y : Int) = true := by
  unfold seesI
  rw [kindN_I, reach_U (kindN bw i) y (by unfold kindN; split <;> (try split) <;> omega) (by unfold kindN; split <;> (try split) <;> omega) hy, and_U, bne_iff_ne]
  constructor
  · intro h
    have h1 : reachB (kindN bw i) y (takenB (layS z 64)) &&& layS z 64 (bg bw + i) ≠ 0#64 := fun e => h (by rw [e]; decide +kernel)
    refine Classical.byContradiction fun hn => h1 ((bv_zero _).2 fun n hlt => ?_)
    rw [BitVec.getLsbD_and, lay64 z _ n hlt, sees_back hok bw i hi y n hy hlt]
    by_cases e : ixc (z n) = ((bg bw + i : Nat) : Int)
    · cases ha : attI (zI z) i (sdb bw) (n : Int) (y : Int) with
      | false => rfl
      | true => exact absurd ⟨n, hlt, e, ha⟩ hn
    · simp only [e, decide_false, Bool.and_false]
  · rintro ⟨n, hlt, e, ha⟩ h
    have h1 := (bv_zero _).1 ((U_zero_iff _).1 h) n hlt
    rw [BitVec.getLsbD_and, lay64 z _ n hlt, sees_back hok bw i hi y n hy hlt, ha] at h1
    simp [e] at h1
theorem ix_of_co {c : UInt8} {bw : Bool} (h : coc c = sdb bw) : ∃ i, i < 6 ∧ ixc c = ((bg bw + i : Nat) : Int) ∧ (kdc c).toNat = i := by
  have := ix_bd c
  unfold coc sdb at h
  unfold kdc
  cases bw
  · simp only [Bool.false_eq_true, if_false] at h
    refine ⟨(ixc c - 6).toNat, ?_, ?_, ?_⟩
    · split at h <;> (try split at h) <;> omega
    · show _ = ((6 + (ixc c - 6).toNat : Nat) : Int)
      split at h <;> (try split at h) <;> omega
    · rw [if_pos (by split at h <;> (try split at h) <;> omega)]
  · simp only [if_true] at h
    refine ⟨(ixc c).toNat, ?_, ?_, ?_⟩
    · split at h <;> (try split at h) <;> omega
    · show _ = ((0 + (ixc c).toNat : Nat) : Int)
      split at h <;> (try split at h) <;> omega
    · rw [if_neg (by split at h <;> (try split at h) <;> omega)]
theorem co_of_ix {c : UInt8} {bw : Bool} {i : Nat} (hi : i < 6) (h : ixc c = ((bg bw + i : Nat) : Int)) : coc c = sdb bw ∧ (kdc c).toNat = i := by
  unfold coc kdc sdb
  rw [h]
  cases bw
  · simp only [bg, Bool.false_eq_true, if_false]
    refine ⟨by rw [if_neg (by omega), if_neg (by omega)], by rw [if_pos (by omega)]; omega⟩
  · simp only [bg, if_true]
    refine ⟨by rw [if_neg (by omega), if_pos (by omega)], by rw [if_neg (by omega)]; omega⟩
/-- who is attacked: the same for both. -/
theorem attacked_same {z : Nat → UInt8} (hok : layOk z = true) (bw : Bool) (y : Nat) (hy : y < 64) : attackedS (layS z 64) (y : Int) bw = attR z (y : Int) bw := by
  rw [Bool.eq_iff_iff]
  unfold attackedS attR
  rw [List.any_eq_true, List.any_eq_true]
  constructor
  · rintro ⟨i, hi, h⟩
    have hi' := List.mem_range.1 hi
    obtain ⟨n, hn, e, ha⟩ := (sees_iff hok bw i hi' y hy).1 h
    obtain ⟨c1, c2⟩ := co_of_ix hi' e
    exact ⟨n, List.mem_range.2 hn, by rw [c2, ha]; simp [c1]⟩
  · rintro ⟨n, hn, h⟩
    have hn' := List.mem_range.1 hn
    simp only [Bool.and_eq_true, decide_eq_true_eq] at h
    obtain ⟨i, hi, e, c2⟩ := ix_of_co h.1
    refine ⟨i, List.mem_range.2 hi, (sees_iff hok bw i hi y hy).2 ⟨n, hn', e, ?_⟩⟩
    rw [← c2]; exact h.2

theorem king_ix (b : Bool) : ∀ c : UInt8, (c == kingL b) = decide (ixc c = ((bg b + 5 : Nat) : Int)) := by
  have : ∀ b : Bool, ∀ n : Fin 256, (UInt8.ofNat n.val == kingL b) = decide (ixc (UInt8.ofNat n.val) = ((bg b + 5 : Nat) : Int)) := by decide +kernel
  intro c
  have := this b ⟨c.toNat, c.toNat_lt⟩
  simpa using this
/-- what the reference's CanBe answers. -/
def canR (z : Nat → UInt8) (wh : Bool) (f : Nat → Bool) (b h g : Int) : Bool :=
  ((List.range 64).all fun n => !(badR z n)) && (decide (kinR z true 64 = 1) && decide (kinR z false 64 = 1) && decide (menR z true 64 ≤ 16) && decide (menR z false 64 ≤ 16)) && castOk z f && behOk z wh b && !(attR z (kingR z (!wh)) wh) && clkOk h g

theorem one_king {z : Nat → UInt8} {b : Bool} (h : kinR z b 64 = 1) : ∃ y, y < 64 ∧ sqs (layS z 64 (bg b + 5)) = [y] ∧ kingR z b = (y : Int) := by
  have h1 : (sqs (layS z 64 (bg b + 5))).length = 1 := (kings_len z b).trans h
  obtain ⟨y, hy⟩ := List.length_eq_one_iff.1 h1
  have hm : y ∈ sqs (layS z 64 (bg b + 5)) := by rw [hy]; simp
  have hy64 := ((sqs_mem _ _).1 hm).1
  have hbit : ∀ n, n < 64 → (z n == kingL b) = (layS z 64 (bg b + 5)).getLsbD n := fun n hn => by rw [king_ix, lay64 z _ n hn]
  refine ⟨y, hy64, hy, ?_⟩
  unfold kingR
  have : (List.range 64).find? (fun n => z n == kingL b) = some y := by
    cases hf : (List.range 64).find? (fun n => z n == kingL b) with
    | none =>
      have := List.find?_eq_none.1 hf y (List.mem_range.2 hy64)
      rw [hbit y hy64, ((sqs_mem _ _).1 hm).2] at this
      exact absurd rfl this
    | some n =>
      have hp := List.find?_some hf
      have hn := List.mem_range.1 (List.mem_of_find?_eq_some hf)
      rw [hbit n hn] at hp
      have : n ∈ sqs (layS z 64 (bg b + 5)) := (sqs_mem _ _).2 ⟨hn, hp⟩
      rw [hy] at this
      rw [List.mem_singleton.1 this]
  rw [this]

theorem can_same (z : Nat → UInt8) (wh : Bool) (f : Nat → Bool) (b h g : Int) : canR z wh f b h g = canS z wh f b h g := by
  rw [Bool.eq_iff_iff]
  unfold canR canS canM sideOk
  simp only [Bool.and_eq_true, decide_eq_true_eq, kings_len, side_len]
  constructor
  · rintro ⟨⟨⟨⟨⟨h1, ⟨⟨h2, h3⟩, h4⟩, h5⟩, h6⟩, h7⟩, h8⟩, h9⟩
    obtain ⟨k1, k2⟩ := (bad_iff z).1 h1
    obtain ⟨y, y1, y2, y3⟩ := one_king (z := z) (b := !wh) (by cases wh <;> assumption)
    refine ⟨k1, ⟨⟨⟨⟨⟨⟨⟨by omega, by omega⟩, (pawns_ok z true).2 (k2 true)⟩, ⟨⟨by omega, by omega⟩, (pawns_ok z false).2 (k2 false)⟩⟩, h6⟩, h7⟩, h9⟩, ?_⟩⟩
    unfold otherS
    rw [y2]
    simp only [List.any_cons, List.any_nil, Bool.or_false]
    rw [attacked_same k1 wh y y1, ← y3]
    exact h8
  · rintro ⟨k1, ⟨⟨⟨⟨⟨⟨⟨h2, h4⟩, p1⟩, ⟨⟨h3, h5⟩, p2⟩⟩, h6⟩, h7⟩, h9⟩, h8⟩⟩
    have e2 : kinR z true 64 = 1 := by omega
    have e3 : kinR z false 64 = 1 := by omega
    obtain ⟨y, y1, y2, y3⟩ := one_king (z := z) (b := !wh) (by cases wh <;> assumption)
    refine ⟨⟨⟨⟨⟨(bad_iff z).2 ⟨k1, fun b => ?_⟩, ⟨⟨e2, e3⟩, by omega⟩, by omega⟩, h6⟩, h7⟩, ?_⟩, h9⟩
    · cases b
      · exact (pawns_ok z false).1 p2
      · exact (pawns_ok z true).1 p1
    · unfold otherS at h8
      rw [y2] at h8
      simp only [List.any_cons, List.any_nil, Bool.or_false] at h8
      rwa [attacked_same k1 wh y y1, ← y3] at h8

end Go.Proofs.YtnfakamfmkhlbaaGreatDoor.C
