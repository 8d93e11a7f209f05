import Derived.Test.YtnfakamfmkhlbaaGreatDoorZg8
import Derived.Test.YtnfakamfmkhlbaaGreatDoorZg2
import Derived.Test.YtnfakamfmkhlbaaGreatDoorZg6
import Derived.Test.YtnfakamfmkhlbaaGreatDoorZg1
import Derived.Shelf.RegionOpen
import Derived.LoopNIn
import Derived.LoopIn
import Derived.Lib.SlBytesConst
import Derived.WalkKit
import Derived.ProofKit
import Derived.OpenShut
import Derived.WalkLawsBesides
import Derived.LoopTactic
import Derived.Deep.LoopGhost
import Derived.Deep.QuietTactic
import Derived.BigQuiet
import Derived.Below
import Derived.Laws.Rows
import Derived.Deep.MidRow
import Derived.Deep.RegionHeld3
import Derived.OrdersHeld
import Derived.Deep.Cut
import Derived.Test.YtnfakamfmkhlbaaGreatDoorZg3
import Derived.Test.YtnfakamfmkhlbaaGreatDoorKz
namespace Go.Proofs.YtnfakamfmkhlbaaGreatDoor.C
open Go.RowKit
open Go.Proofs.YtnfakamfmkhlbaaGreatDoor.P
def badR (z : Nat → UInt8) (n : Nat) : Bool := !(z n == 46) && (decide (kdc (z n) < 0) || (decide (kdc (z n) = 0) && (decide (n / 8 = 0) || decide (n / 8 = 7))))
def menR (z : Nat → UInt8) (b : Bool) (k : Nat) : Nat := ((List.range k).filter fun n => decide (coc (z n) = sdb b)).length
def kinR (z : Nat → UInt8) (b : Bool) (k : Nat) : Nat := ((List.range k).filter fun n => decide (ixc (z n) = (bg b + 5 : Nat))).length
theorem lay_bit (z : Nat → UInt8) (p : Nat) : ∀ k, k ≤ 64 → ∀ n, n < 64 → (layS z k p).getLsbD n = decide (n < k ∧ ixc (z n) = (p : Int))
 | 0, _, n, _ => by
   show (0#64).getLsbD n = _
   rw [BitVec.getLsbD_zero]; simp
 | k + 1, hk, n, hn => by
   have ih := lay_bit z p k (by omega) n hn
   show (layS z k p ||| (if Lib.indexByte lettersL (z k) = (p : Int) then 1#64 <<< k else 0#64)).getLsbD n = _
   rw [BitVec.getLsbD_or, ih]
   by_cases e : Lib.indexByte lettersL (z k) = (p : Int)
   ·rw [if_pos e, one_bit k (by omega) n hn]
    by_cases h1 : n = k
    ·subst h1
     have e' : ixc (z n) = (p : Int) := e
     simp [e']
    ·have : (n < k + 1 ∧ ixc (z n) = (p : Int)) ↔ (n < k ∧ ixc (z n) = (p : Int)) := by constructor <;> rintro ⟨a, b⟩ <;> exact ⟨by omega, b⟩
     simp [h1, this]
   ·rw [if_neg e, BitVec.getLsbD_zero, Bool.or_false]
    have : (n < k + 1 ∧ ixc (z n) = (p : Int)) ↔ (n < k ∧ ixc (z n) = (p : Int)) := by
     constructor
     ·rintro ⟨a, b⟩
      refine ⟨?_, b⟩
      by_cases h1 : n = k
      ·subst h1; exact absurd b e
      ·omega
     ·rintro ⟨a, b⟩; exact ⟨by omega, b⟩
    simp [this]
theorem lay64 (z : Nat → UInt8) (p n : Nat) (hn : n < 64) : (layS z 64 p).getLsbD n = decide (ixc (z n) = (p : Int)) := by
 rw [lay_bit z p 64 (Nat.le_refl _) n hn]
 simp [hn]
theorem filter_same {f g : Nat → Bool} (l : List Nat) (h : ∀ n ∈ l, f n = g n) : l.filter f = l.filter g := List.filter_congr h
theorem kings_len (z : Nat → UInt8) (b : Bool) : (sqs (layS z 64 (bg b + 5))).length = kinR z b 64 := by
 unfold sqs kinR
 rw [filter_same _ (fun n hn => lay64 z (bg b + 5) n (List.mem_range.1 hn))]
theorem orB_bit (z : Nat → UInt8) (b n : Nat) (hn : n < 64) : ∀ k, (orB (layS z 64) b k).getLsbD n = decide ((b : Int) ≤ ixc (z n) ∧ ixc (z n) < (b : Int) + (k : Int))
 | 0 => by
   show (0#64).getLsbD n = _
   rw [BitVec.getLsbD_zero]; symm; rw [decide_eq_false_iff_not]; omega
 | k + 1 => by
   have ih := orB_bit z b n hn k
   show (orB (layS z 64) b k ||| layS z 64 (b + k)).getLsbD n = _
   rw [BitVec.getLsbD_or, ih, lay64 z (b + k) n hn, ← Bool.decide_or]
   apply decide_eq_decide.2
   omega
theorem side_bit (z : Nat → UInt8) (b : Bool) (n : Nat) (hn : n < 64) : (sideB (layS z 64) b).getLsbD n = decide (coc (z n) = sdb b) := by
 unfold sideB
 rw [orB_bit z (bg b) n hn 6]
 apply decide_eq_decide.2
 have := ix_bd (z n)
 unfold coc sdb bg
 cases b
 ·simp only [Bool.false_eq_true, if_false]
  split
  ·omega
  ·split <;> omega
 ·simp only [if_true]
  split
  ·omega
  ·split <;> omega
theorem side_len (z : Nat → UInt8) (b : Bool) : (sqs (sideB (layS z 64) b)).length = menR z b 64 := by
 unfold sqs menR
 rw [filter_same _ (fun n hn => side_bit z b n (List.mem_range.1 hn))]
theorem taken_bit (z : Nat → UInt8) (n : Nat) (hn : n < 64) : (takenB (layS z 64)).getLsbD n = decide (0 ≤ ixc (z n)) := by
 unfold takenB
 rw [BitVec.getLsbD_or, side_bit z true n hn, side_bit z false n hn, ← Bool.decide_or]
 apply decide_eq_decide.2
 have := ix_bd (z n)
 unfold coc sdb
 simp only [Bool.false_eq_true, if_false, if_true]
 split
 ·omega
 ·split <;> omega
theorem last_bit : ∀ n, n < 64 → (18374686479671623935#64).getLsbD n = (decide (n / 8 = 0) || decide (n / 8 = 7)) := by decide +kernel
theorem bv_zero (s : BitVec 64) : s = 0#64 ↔ ∀ n, n < 64 → s.getLsbD n = false := by
 constructor
 ·rintro rfl n _; exact BitVec.getLsbD_zero
 ·intro h
  apply BitVec.eq_of_getLsbD_eq
  intro i hi
  rw [h i hi, BitVec.getLsbD_zero]
theorem last_U : (18374686479671623935 : Int) = U 18374686479671623935#64 := by decide +kernel
theorem U_zero_iff (s : BitVec 64) : U s = 0 ↔ s = 0#64 := by
 constructor
 ·intro h; exact U_inj (h.trans (by decide +kernel))
 ·rintro rfl; decide +kernel
theorem pawns_ok (z : Nat → UInt8) (b : Bool) : bits .and .u64 (U (layS z 64 (bg b))) 18374686479671623935 = 0 ↔ ∀ n, n < 64 → ixc (z n) = (bg b : Nat) → ¬ (n / 8 = 0 ∨ n / 8 = 7) := by
 rw [last_U, and_U, U_zero_iff, bv_zero]
 constructor
 ·intro h n hn e
  have := h n hn
  rw [BitVec.getLsbD_and, lay64 z (bg b) n hn, last_bit n hn] at this
  simp [e] at this
  omega
 ·intro h n hn
  rw [BitVec.getLsbD_and, lay64 z (bg b) n hn, last_bit n hn]
  by_cases e : ixc (z n) = (bg b : Nat)
  ·have := h n hn e
   simp at this
   simp [this]
  ·simp [e]
theorem ok_ix (c : UInt8) : okY c = (c == 46 || decide (0 ≤ ixc c)) := rfl
theorem bad_iff (z : Nat → UInt8) : ((List.range 64).all fun n => !(badR z n)) = true ↔ layOk z = true ∧ ∀ b : Bool, ∀ n, n < 64 → ixc (z n) = (bg b : Nat) → ¬ (n / 8 = 0 ∨ n / 8 = 7) := by
 rw [List.all_eq_true]
 constructor
 ·intro h
  constructor
  ·refine layOk_all fun j hj => ?_
   have h1 := h j (List.mem_range.2 hj)
   rw [ok_ix]
   have := ix_bd (z j)
   unfold badR kdc at h1
   by_cases hd : (z j == 46) = true
   ·simp [hd]
   ·simp only [Bool.not_eq_true] at hd
    rw [hd] at h1 ⊢
    simp only [Bool.not_false, Bool.true_and, Bool.not_eq_true', Bool.or_eq_false_iff, decide_eq_false_iff_not] at h1
    have h2 := h1.1
    simp only [Bool.false_or, decide_eq_true_eq]
    split at h2 <;> omega
  ·intro b n hn e hr
   have h1 := h n (List.mem_range.2 hn)
   have hb : bg b = 0 ∨ bg b = 6 := by cases b <;> simp [bg]
   have hd : (z n == 46) = false := by
    cases hz : (z n == 46) with
    | false => rfl
    | true =>
     have : z n = 46 := by simpa using hz
     rw [this] at e
     have e2 : ixc 46 = -1 := ib_dot
     omega
   unfold badR kdc at h1
   rw [hd] at h1
   have hk : (if 6 ≤ ixc (z n) then ixc (z n) - 6 else ixc (z n)) = 0 := by split <;> omega
   rw [hk] at h1
   simp at h1
   omega
 ·rintro ⟨h1, h2⟩ n hn
  have hn' := List.mem_range.1 hn
  have h3 : okY (z n) = true := List.all_eq_true.1 h1 n hn
  rw [ok_ix] at h3
  have := ix_bd (z n)
  unfold badR kdc
  by_cases hd : (z n == 46) = true
  ·simp [hd]
  ·simp only [Bool.not_eq_true] at hd
   rw [hd] at h3 ⊢
   simp only [Bool.false_or, decide_eq_true_eq] at h3
   have ha := h2 true n hn'
   have hb := h2 false n hn'
   simp only [bg, if_true, Bool.false_eq_true, if_false] at ha hb
   simp only [Bool.not_false, Bool.true_and, Bool.not_eq_true', Bool.or_eq_false_iff, decide_eq_false_iff_not, Bool.and_eq_false_iff]
   refine ⟨by split <;> omega, ?_⟩
   by_cases hk : (if 6 ≤ ixc (z n) then ixc (z n) - 6 else ixc (z n)) = 0
   ·right
    split at hk
    ·have := hb (by omega); omega
    ·have := ha (by omega); omega
   ·left; exact hk
theorem free_congr {f g : Nat → Int} (h : ∀ n, n < 64 → (f n = 46 ↔ g n = 46)) (p : Nat → Int) (L : Nat) (hp : ∀ i, i ≤ L → 0 ≤ p i ∧ p i ≤ 63) : freeI f p L = freeI g p L := by
 unfold freeI
 apply decide_eq_decide.2
 constructor
 ·intro k i h1 h2
  have := hp i (by omega)
  exact (h _ (by omega)).1 (k i h1 h2)
 ·intro k i h1 h2
  have := hp i (by omega)
  exact (h _ (by omega)).2 (k i h1 h2)
theorem attI_congr {f g : Nat → Int} (h : ∀ n, n < 64 → (f n = 46 ↔ g n = 46)) (k : Nat) (s x y : Int) (h0 : 0 ≤ x) (h1 : x ≤ 63) (h2 : 0 ≤ y) (h3 : y ≤ 63) : attI f k s x y = attI g k s x y := by
 unfold attI
 have e : ∀ b : Bool, (b = true → stI x y = true ∨ slI x y = true) → (b && freeI f (pI x y) (LI x y)) = (b && freeI g (pI x y) (LI x y)) := fun b hb => by
  cases b
  ·rfl
  ·rw [free_congr h _ _ (path_b x y h0 h1 h2 h3 (hb rfl))]
 rw [e (slI x y) (fun h => .inr h), e (stI x y) (fun h => .inl h), e (stI x y || slI x y) (fun h => by simpa using h)]
theorem attI_side (f : Nat → Int) (k : Nat) (hk : k ≠ 0) (s t x y : Int) : attI f k s x y = attI f k t x y := by
 unfold attI
 rw [if_neg hk, if_neg hk]
def kindN (bw : Bool) (i : Nat) : Nat := if i = 0 then (if bw then 2 else 1) else i + 2
theorem kindN_I (bw : Bool) (i : Nat) : kindI bw i = ((kindN bw i : Nat) : Int) := by
 unfold kindI kindN
 by_cases h : i = 0
 ·rw [if_pos h, if_pos h]; cases bw <;> rfl
 ·rw [if_neg h, if_neg h]; omega
theorem fT_z {z : Nat → UInt8} (hok : layOk z = true) (n : Nat) (hn : n < 64) : fT (takenB (layS z 64)) n = 46 ↔ zI z n = 46 := by
 rw [fT_46, taken_bit z n hn, decide_eq_false_iff_not]
 have h := List.all_eq_true.1 hok n (List.mem_range.2 hn)
 rw [ok_ix] at h
 unfold zI
 constructor
 ·intro hx
  have : z n = 46 := by simpa [hx] using h
  rw [this]; rfl
 ·intro hx
  have : z n = 46 := by
   apply UInt8.toNat_inj.1
   have : (z n).toNat = 46 := by omega
   rw [this]; rfl
  rw [this]
  have e2 : ixc 46 = -1 := ib_dot
  omega
theorem sees_back {z : Nat → UInt8} (hok : layOk z = true) (bw : Bool) (i : Nat) (hi : i < 6) (y n : Nat) (hy : y < 64) (hn : n < 64) : (reachB (kindN bw i) y (takenB (layS z 64))).getLsbD n = attI (zI z) i (sdb bw) (n : Int) (y : Int) := by
 by_cases h : i = 0
 ·subst h
  cases bw
  ·show (reachB 1 y _).getLsbD n = _
   have e1 : reachB 1 y (takenB (layS z 64)) = wpB y := rfl
   rw [e1, pawn_sym y hy n hn, bp_is n hn y hy]
   rfl
  ·show (reachB 2 y _).getLsbD n = _
   have e1 : reachB 2 y (takenB (layS z 64)) = bpB y := rfl
   rw [e1, ← pawn_sym n hn y hy, wp_is n hn y hy]
   rfl
 ·have hk : kindN bw i = i + 2 := by unfold kindN; rw [if_neg h]
  rw [hk, reach_sym (i + 2) y n (by omega) (by omega) hy hn, reach_ref (i + 2) n (by omega) (by omega) hn, refB_bit (i + 2) (n : Int) _ y hy]
  unfold refAtt
  have e1 : kR (i + 2) = i := by unfold kR; rw [if_neg (by omega)]; omega
  rw [e1, attI_side _ i h _ (sdb bw)]
  exact attI_congr (fun n hn => fT_z hok n hn) i _ _ _ (by omega) (by omega) (by omega) (by omega)
theorem sees_iff {z : Nat → UInt8} (hok : layOk z = true) (bw : Bool) (i : Nat) (hi : i < 6) (y : Nat) (hy : y < 64) : seesI (layS z 64) (y : Int) bw i = true ↔ ∃ n, n < 64 ∧ ixc (z n) = ((bg bw + i : Nat) : Int) ∧ attI (zI z) i (sdb bw) (n : Int) (y : Int) = true := by
 unfold seesI
 rw [kindN_I, reach_U (kindN bw i) y (by unfold kindN; split <;> (try split) <;> omega) (by unfold kindN; split <;> (try split) <;> omega) hy, and_U, bne_iff_ne]
 constructor
 ·intro h
  have h1 : reachB (kindN bw i) y (takenB (layS z 64)) &&& layS z 64 (bg bw + i) ≠ 0#64 := fun e => h (by rw [e]; decide +kernel)
  refine Classical.byContradiction fun hn => h1 ((bv_zero _).2 fun n hlt => ?_)
  rw [BitVec.getLsbD_and, lay64 z _ n hlt, sees_back hok bw i hi y n hy hlt]
  by_cases e : ixc (z n) = ((bg bw + i : Nat) : Int)
  ·cases ha : attI (zI z) i (sdb bw) (n : Int) (y : Int) with
   | false => rfl
   | true => exact absurd ⟨n, hlt, e, ha⟩ hn
  ·simp only [e, decide_false, Bool.and_false]
 ·rintro ⟨n, hlt, e, ha⟩ h
  have h1 := (bv_zero _).1 ((U_zero_iff _).1 h) n hlt
  rw [BitVec.getLsbD_and, lay64 z _ n hlt, sees_back hok bw i hi y n hy hlt, ha] at h1
  simp [e] at h1
theorem ix_of_co {c : UInt8} {bw : Bool} (h : coc c = sdb bw) : ∃ i, i < 6 ∧ ixc c = ((bg bw + i : Nat) : Int) ∧ (kdc c).toNat = i := by
 have := ix_bd c
 unfold coc sdb at h
 unfold kdc
 cases bw
 ·simp only [Bool.false_eq_true, if_false] at h
  refine ⟨(ixc c - 6).toNat, ?_, ?_, ?_⟩
  ·split at h <;> (try split at h) <;> omega
  ·show _ = ((6 + (ixc c - 6).toNat : Nat) : Int)
   split at h <;> (try split at h) <;> omega
  ·rw [if_pos (by split at h <;> (try split at h) <;> omega)]
 ·simp only [if_true] at h
  refine ⟨(ixc c).toNat, ?_, ?_, ?_⟩
  ·split at h <;> (try split at h) <;> omega
  ·show _ = ((0 + (ixc c).toNat : Nat) : Int)
   split at h <;> (try split at h) <;> omega
  ·rw [if_neg (by split at h <;> (try split at h) <;> omega)]
theorem co_of_ix {c : UInt8} {bw : Bool} {i : Nat} (hi : i < 6) (h : ixc c = ((bg bw + i : Nat) : Int)) : coc c = sdb bw ∧ (kdc c).toNat = i := by
 unfold coc kdc sdb
 rw [h]
 cases bw
 ·simp only [bg, Bool.false_eq_true, if_false]
  refine ⟨by rw [if_neg (by omega), if_neg (by omega)], by rw [if_pos (by omega)]; omega⟩
 ·simp only [bg, if_true]
  refine ⟨by rw [if_neg (by omega), if_pos (by omega)], by rw [if_neg (by omega)]; omega⟩
theorem attacked_same {z : Nat → UInt8} (hok : layOk z = true) (bw : Bool) (y : Nat) (hy : y < 64) : attackedS (layS z 64) (y : Int) bw = attR z (y : Int) bw := by
 rw [Bool.eq_iff_iff]
 unfold attackedS attR
 rw [List.any_eq_true, List.any_eq_true]
 constructor
 ·rintro ⟨i, hi, h⟩
  have hi' := List.mem_range.1 hi
  obtain ⟨n, hn, e, ha⟩ := (sees_iff hok bw i hi' y hy).1 h
  obtain ⟨c1, c2⟩ := co_of_ix hi' e
  exact ⟨n, List.mem_range.2 hn, by rw [c2, ha]; simp [c1]⟩
 ·rintro ⟨n, hn, h⟩
  have hn' := List.mem_range.1 hn
  simp only [Bool.and_eq_true, decide_eq_true_eq] at h
  obtain ⟨i, hi, e, c2⟩ := ix_of_co h.1
  refine ⟨i, List.mem_range.2 hi, (sees_iff hok bw i hi y hy).2 ⟨n, hn', e, ?_⟩⟩
  rw [← c2]; exact h.2
theorem king_ix (b : Bool) : ∀ c : UInt8, (c == kingL b) = decide (ixc c = ((bg b + 5 : Nat) : Int)) := by
 have : ∀ b : Bool, ∀ n : Fin 256, (UInt8.ofNat n.val == kingL b) = decide (ixc (UInt8.ofNat n.val) = ((bg b + 5 : Nat) : Int)) := by decide +kernel
 intro c
 have := this b ⟨c.toNat, c.toNat_lt⟩
 simpa using this
def canR (z : Nat → UInt8) (wh : Bool) (f : Nat → Bool) (b h g : Int) : Bool :=
 ((List.range 64).all fun n => !(badR z n)) && (decide (kinR z true 64 = 1) && decide (kinR z false 64 = 1) && decide (menR z true 64 ≤ 16) && decide (menR z false 64 ≤ 16)) && castOk z f && behOk z wh b && !(attR z (kingR z (!wh)) wh) && clkOk h g
theorem one_king {z : Nat → UInt8} {b : Bool} (h : kinR z b 64 = 1) : ∃ y, y < 64 ∧ sqs (layS z 64 (bg b + 5)) = [y] ∧ kingR z b = (y : Int) := by
 have h1 : (sqs (layS z 64 (bg b + 5))).length = 1 := (kings_len z b).trans h
 obtain ⟨y, hy⟩ := List.length_eq_one_iff.1 h1
 have hm : y ∈ sqs (layS z 64 (bg b + 5)) := by rw [hy]; simp
 have hy64 := ((sqs_mem _ _).1 hm).1
 have hbit : ∀ n, n < 64 → (z n == kingL b) = (layS z 64 (bg b + 5)).getLsbD n := fun n hn => by rw [king_ix, lay64 z _ n hn]
 refine ⟨y, hy64, hy, ?_⟩
 unfold kingR
 have : (List.range 64).find? (fun n => z n == kingL b) = some y := by
  cases hf : (List.range 64).find? (fun n => z n == kingL b) with
  | none =>
   have := List.find?_eq_none.1 hf y (List.mem_range.2 hy64)
   rw [hbit y hy64, ((sqs_mem _ _).1 hm).2] at this
   exact absurd rfl this
  | some n =>
   have hp := List.find?_some hf
   have hn := List.mem_range.1 (List.mem_of_find?_eq_some hf)
   rw [hbit n hn] at hp
   have : n ∈ sqs (layS z 64 (bg b + 5)) := (sqs_mem _ _).2 ⟨hn, hp⟩
   rw [hy] at this
   rw [List.mem_singleton.1 this]
 rw [this]
theorem can_same (z : Nat → UInt8) (wh : Bool) (f : Nat → Bool) (b h g : Int) : canR z wh f b h g = canS z wh f b h g := by
 rw [Bool.eq_iff_iff]
 unfold canR canS canM sideOk
 simp only [Bool.and_eq_true, decide_eq_true_eq, kings_len, side_len]
 constructor
 ·rintro ⟨⟨⟨⟨⟨h1, ⟨⟨h2, h3⟩, h4⟩, h5⟩, h6⟩, h7⟩, h8⟩, h9⟩
  obtain ⟨k1, k2⟩ := (bad_iff z).1 h1
  obtain ⟨y, y1, y2, y3⟩ := one_king (z := z) (b := !wh) (by cases wh <;> assumption)
  refine ⟨k1, ⟨⟨⟨⟨⟨⟨⟨by omega, by omega⟩, (pawns_ok z true).2 (k2 true)⟩, ⟨⟨by omega, by omega⟩, (pawns_ok z false).2 (k2 false)⟩⟩, h6⟩, h7⟩, h9⟩, ?_⟩⟩
  unfold otherS
  rw [y2]
  simp only [List.any_cons, List.any_nil, Bool.or_false]
  rw [attacked_same k1 wh y y1, ← y3]
  exact h8
 ·rintro ⟨k1, ⟨⟨⟨⟨⟨⟨⟨h2, h4⟩, p1⟩, ⟨⟨h3, h5⟩, p2⟩⟩, h6⟩, h7⟩, h9⟩, h8⟩⟩
  have e2 : kinR z true 64 = 1 := by omega
  have e3 : kinR z false 64 = 1 := by omega
  obtain ⟨y, y1, y2, y3⟩ := one_king (z := z) (b := !wh) (by cases wh <;> assumption)
  refine ⟨⟨⟨⟨⟨(bad_iff z).2 ⟨k1, fun b => ?_⟩, ⟨⟨e2, e3⟩, by omega⟩, by omega⟩, h6⟩, h7⟩, ?_⟩, h9⟩
  ·cases b
   ·exact (pawns_ok z false).1 p2
   ·exact (pawns_ok z true).1 p1
  ·unfold otherS at h8
   rw [y2] at h8
   simp only [List.any_cons, List.any_nil, Bool.or_false] at h8
   rwa [attacked_same k1 wh y y1, ← y3] at h8
end Go.Proofs.YtnfakamfmkhlbaaGreatDoor.C
namespace Go.Proofs.YtnfakamfmkhlbaaGreatDoor.C
open Go.ChangeShapes Go.WideShapes Go.ChangeAt Go.RowKit Go.Shelf
open Go.Proofs.YtnfakamfmkhlbaaGreatDoor.P
attribute [local go_sem] Oper.semAt_some
theorem BTab.fr {Q : Nat → Obj → Prop} {w w' : World} (h : BTab w) (f : Fr Q w w') (hq : ∀ o, Q 2 o) : BTab w' := fun j hj => f.cell (h j hj) (fun o _ => hq o)
set_option maxRecDepth 100000 in
set_option maxHeartbeats 4000000 in
theorem sq_it (s : BitVec 64) (Bn : Nat) (T : Obj → Prop) (w : World) (hc : w.cell? ⟨Bn, 0, none⟩ = some (.int .u64 (U s))) (hT : BTab w) :
  It Tryz.prog 224 #[.pointer (some ⟨Bn, 0, none⟩)] (fun x : Nat => #[Value.int .i64 (x : Int)]) T (fun k => k = Bn ∨ k = 2) (sqs s) w := by
 intro l B J Jx W f0 hB hJ hJx hY h0
 have hBn := f0.cell hc (fun _ _ => .inl rfl)
 have hTW := hT.fr f0 (fun _ => .inr rfl)
 clear f0 hc hT
 refine (callsIn_wide (n := 1)).1 ?_
 refine callsIn_of_wp Tryz.func224 rfl trivial ?_ rfl
 simp only [Tryz.ntmps224, List.size_toArray, List.length_cons, List.length_nil, Nat.reduceAdd, Nat.reduceSub, Array.replicate_succ, Array.replicate_zero, List.push_toArray, List.append_toArray, List.nil_append, List.cons_append]
 gi_wp2
 gi_loopw [3] (fun p wr => ∃ (pre : List Nat) (r : BitVec 64), p = .int .u64 (U r) ∧ sqs s = pre ++ sqs r ∧ BTab wr ∧ J pre wr) (fun p _ => (sqs (BitVec.ofInt 64 (intOf p))).length)
 case atStart => exact ⟨[], s, rfl, rfl, hTW, h0⟩
 case round =>
  obtain ⟨pre, r, rfl, hx, htb, hJs⟩ := hrel
  by_cases hr : r = 0#64
  ·subst hr
   have hz : (U 0#64 != 0) = false := by decide +kernel
   rw [sqs_zero, List.append_nil] at hx
   have hx' := hide hx
   clear hx
   gi_wp2
   go_end0
   exact ⟨⟨_, rfl⟩, .inl (by rw [unhide hx']; exact hJs)⟩
  ·obtain ⟨t, t1, t2, t3⟩ := low_exists r hr
   have hst := sqs_step r t t1 t2 t3
   have hnz : (U r != 0) = true := by
    simp only [bne_iff_ne]
    intro e
    exact hr (U_inj (e.trans (by decide +kernel)))
   have htz := hide (tz_any r t t2 t3)
   obtain ⟨fn, tmps, assign, body, hy, hR⟩ := hY pre t wr ⟨sqs (r &&& (r - 1#64)), by rw [hx, hst]; simp⟩ hJs
   have hx' := hide hx
   have hst' := hide hst
   have htb' := hide htb
   clear hx hst htb hr t2 t3
   gi_wp2_with (refine ⟨trivial, ?_⟩; gi_at_call 225; refine (callsIn_wide.2 (unhide htz _ (unhide htb'))).mono ?_; rintro e w' ⟨rfl, rfl⟩)
   refine hR.mono ?_
   rintro e W3 ⟨f3, ⟨rfl, hJ3⟩ | ⟨rfl, hJx3⟩⟩
   ·have e1 : IntKind.u64.wrap (U r - 1) = U (r - 1#64) := by
     rw [show (1 : Int) = U 1#64 from by decide +kernel]; exact sub_U r 1#64
    have e2 : bits .and .u64 (U r) (U (r - 1#64)) = U (r &&& (r - 1#64)) := and_U _ _
    gi_wp2
    go_roundw
    case rel => exact ⟨pre ++ [t], r &&& (r - 1#64), rfl, by rw [unhide hx', unhide hst']; simp, (unhide htb').fr f3 (fun _ => .inl (.inr rfl)), hJ3⟩
    case measure => simp only [intOf]; rw [ofInt_U, ofInt_U, unhide hst']; simp
   ·gi_wp2
    refine bodyPost_ret (results_none rfl _ _ _) rfl ?_
    exact ⟨⟨_, rfl⟩, .inr ⟨pre ++ [t], ⟨sqs (r &&& (r - 1#64)), by rw [unhide hx', unhide hst']; simp⟩, hJx3⟩⟩
abbrev Mv := Nat × Nat × UInt8
def mvV (x : Mv) : Value := .agg #[.int .i64 (x.1 : Int), .int .i64 (x.2.1 : Int), .int .u8 (x.2.2.toNat : Int)]
def encM (x : Mv) : Array Value := #[mvV x]
def lastB : BitVec 64 := 18374686479671623935#64
def turnsB (pawn : Bool) (f t : Nat) : List Mv := if pawn && lastB.getLsbD t then [(f, t, 113), (f, t, 114), (f, t, 98), (f, t, 110)] else [(f, t, 0)]
theorem wide_fn (k : FuncId) : Fence.wide.fn k := trivial
theorem last_and : ∀ t, t < 64 → bits .and .u64 (U (1#64 <<< t)) 18374686479671623935 = if lastB.getLsbD t then U (1#64 <<< t) else 0 := by decide +kernel
theorem one_ne : ∀ t, t < 64 → U (1#64 <<< t) ≠ 0 := by decide +kernel
set_option maxRecDepth 100000 in
set_option maxHeartbeats 4000000 in
theorem ytS_one (place f t : Nat) (hp : place < 6) (ht : t < 64) (hn : (decide (place = 0) && lastB.getLsbD t) = false) (l B : Nat) (T : Obj → Prop) (C : Nat → Prop) (J Jx : List Mv → World → Prop) (pre : List Mv) (W : World)
  (hY : YieldAt Fence.wide 0 Tryz.prog l (encM (f, t, 0)) W fun e W' => Fr (Rnd1 B T C) W W' ∧ ((e = .returned (.bool true) ∧ J (pre ++ [(f, t, 0)]) W') ∨ (e = .returned (.bool false) ∧ Jx (pre ++ [(f, t, 0)]) W'))) :
  Calls Tryz.prog 177 #[.int .i64 (place : Int), .int .i64 (f : Int), .int .i64 (t : Int), .func (.yield l) #[] #[]] W fun e W' => Fr (Rnd1 B T C) W W' ∧ ((e = .returned (.bool true) ∧ J (pre ++ [(f, t, 0)]) W') ∨ (e = .returned (.bool false) ∧ Jx (pre ++ [(f, t, 0)]) W')) := by
 obtain ⟨fn, tmps, assign, body, hy, hR⟩ := hY
 have hone := hide (fun W => one_any (t : Int) (by omega) (by omega) W)
 rw [one_U t ht] at hone
 have hla := last_and t ht
 have hne := one_ne t ht
 have hy' : (Instr.yield l #[.agg #[.int .i64 (f : Int), .int .i64 (t : Int), .int .u8 0]]).run Tryz.prog W = .ok (.round l fn tmps assign body) W := hy
 clear hy
 refine (callsIn_wide (n := 1)).1 ?_
 refine callsIn_of_wp Tryz.func177 rfl trivial ?_ rfl
 simp only [Tryz.ntmps177, List.size_toArray, List.length_cons, List.length_nil, Nat.reduceAdd, Nat.reduceSub, Array.replicate_succ, Array.replicate_zero, List.push_toArray, List.append_toArray, List.nil_append, List.cons_append]
 by_cases h0 : place = 0
 ·subst h0
  have hz : lastB.getLsbD t = false := by simpa using hn
  rw [hz] at hla
  simp only [Bool.false_eq_true, if_false] at hla
  clear hz hn hne
  gi_wp2_with (refine ⟨trivial, ?_⟩; gi_at_call 139; refine (callsIn_wide.2 (unhide hone _)).mono ?_; rintro e w' ⟨rfl, rfl⟩)
  refine hR.mono ?_
  rintro e W3 ⟨f3, ⟨rfl, hJ3⟩ | ⟨rfl, hJx3⟩⟩
  ·gi_wp2
   go_ret
   exact ⟨f3, .inl ⟨rfl, hJ3⟩⟩
  ·gi_wp2
   go_ret
   exact ⟨f3, .inr ⟨rfl, hJx3⟩⟩
 ·clear hn hla hne
  have h0' : ((place : Int) != 0) = true := by simp; omega
  gi_wp2_with (with_reducible refine And.intro (wide_fn _) ?_)
  refine hR.mono ?_
  rintro e W3 ⟨f3, ⟨rfl, hJ3⟩ | ⟨rfl, hJx3⟩⟩
  ·gi_wp2
   go_ret
   exact ⟨f3, .inl ⟨rfl, hJ3⟩⟩
  ·gi_wp2
   go_ret
   exact ⟨f3, .inr ⟨rfl, hJx3⟩⟩
def tnU (k : Nat) : UInt8 := if k = 0 then 113 else if k = 1 then 114 else if k = 2 then 98 else 110
theorem row4 {W : World} {b : Nat} (h : W.heap[b]? = some (.cells #[.int .u8 113, .int .u8 114, .int .u8 98, .int .u8 110] 5 (4, 5))) (k : Nat) (hk : k < 4) : W.cell? ⟨b, k, none⟩ = some (.int .u8 ((tnU k).toNat : Int)) := by
 have : k = 0 ∨ k = 1 ∨ k = 2 ∨ k = 3 := by omega
 rcases this with rfl | rfl | rfl | rfl <;> (simp only [World.cell?]; rw [h]; rfl)
set_option maxRecDepth 100000 in
set_option maxHeartbeats 4000000 in
theorem ytS_four (f t : Nat) (ht : t < 64) (hn : lastB.getLsbD t = true) (l B : Nat) (T : Obj → Prop) (C : Nat → Prop) (hT : ∀ c fr, ¬ T (.cells c 5 fr)) (J Jx : List Mv → World → Prop) (hJ : Stable B T J) (pre : List Mv) (W : World) (hB : B ≤ W.heap.size)
  (hY : ∀ k W1, k < 4 → J (pre ++ (List.range k).map fun i => (f, t, tnU i)) W1 → YieldAt Fence.wide 0 Tryz.prog l (encM (f, t, tnU k)) W1 fun e W' => Fr (Rnd1 B T C) W1 W' ∧ ((e = .returned (.bool true) ∧ J (pre ++ (List.range (k + 1)).map fun i => (f, t, tnU i)) W') ∨ (e = .returned (.bool false) ∧ Jx (pre ++ (List.range (k + 1)).map fun i => (f, t, tnU i)) W'))) (h0 : J pre W) :
  Calls Tryz.prog 177 #[.int .i64 0, .int .i64 (f : Int), .int .i64 (t : Int), .func (.yield l) #[] #[]] W fun e W' => Fr (Rnd1 B T C) W W' ∧ ((e = .returned (.bool true) ∧ J (pre ++ (List.range 4).map fun i => (f, t, tnU i)) W') ∨ (e = .returned (.bool false) ∧ ∃ k, k < 4 ∧ Jx (pre ++ (List.range (k + 1)).map fun i => (f, t, tnU i)) W')) := by
 have hone := hide (fun W => one_any (t : Int) (by omega) (by omega) W)
 rw [one_U t ht] at hone
 have hla := last_and t ht
 have hne : (U (1#64 <<< t) == 0) = false := by have := one_ne t ht; simpa using this
 rw [hn, if_pos rfl] at hla
 refine (callsIn_wide (n := 1)).1 ?_
 refine callsIn_of_wp Tryz.func177 rfl trivial ?_ rfl
 simp only [Tryz.ntmps177, List.size_toArray, List.length_cons, List.length_nil, Nat.reduceAdd, Nat.reduceSub, Array.replicate_succ, Array.replicate_zero, List.push_toArray, List.append_toArray, List.nil_append, List.cons_append]
 have hcv := fun (w : World) (C : Array Value) (n c : Nat) => Lib.run_convert_bytes_const (P := Tryz.prog) w 101 5 C n c Tryz.underlying101 Tryz.underlying5
 gi_wp2_with (refine ⟨trivial, ?_⟩; gi_at_call 139; refine (callsIn_wide.2 (unhide hone _)).mono ?_; rintro e w' ⟨rfl, rfl⟩)
 clear hcv hone hla hne
 generalize hwb : w'.alloc (.cells #[.int .u8 113, .int .u8 114, .int .u8 98, .int .u8 110] 5 (4, 5)) = wb
 have hblk : wb.heap[w'.heap.size]? = some (.cells #[.int .u8 113, .int .u8 114, .int .u8 98, .int .u8 110] 5 (4, 5)) := by rw [← hwb]; exact World.alloc_heap_new _ _
 have fb : ∀ Q : Nat → Obj → Prop, Fr Q w' wb := fun Q => by rw [← hwb]; exact (Fr.refl _ _).alloc _
 have hJ0 := hJ _ _ _ h0 (fb _)
 generalize w'.heap.size = Bb at hblk hB ⊢
 gi_loopw [27] (fun p wr => ∃ k : Nat, k ≤ 4 ∧ p = .int .i64 (k : Int) ∧ J (pre ++ (List.range k).map fun i => (f, t, tnU i)) wr ∧ Fr (Rnd1 B T C) w' wr ∧ wr.heap[Bb]? = some (.cells #[.int .u8 113, .int .u8 114, .int .u8 98, .int .u8 110] 5 (4, 5))) (fun p _ => 4 - (intOf p).toNat)
 case atStart => exact ⟨0, by omega, rfl, by simpa using hJ0, fb _, hblk⟩
 case round =>
  obtain ⟨k, hk, rfl, hJk, fk, hbk⟩ := hrel
  by_cases h4 : k < 4
  ·have hck := row4 hbk k h4
   obtain ⟨fn, tmps, assign, body, hy, hR⟩ := hY k wr h4 hJk
   have hy' : (Instr.yield l #[.agg #[.int .i64 (f : Int), .int .i64 (t : Int), .int .u8 ((tnU k).toNat : Int)]]).run Tryz.prog wr = .ok (.round l fn tmps assign body) wr := hy
   clear hy
   gi_wp2
   refine hR.mono ?_
   rintro e W3 ⟨f3, ⟨rfl, hJ3⟩ | ⟨rfl, hJx3⟩⟩
   ·gi_wp2
    go_roundw
    case rel =>
     refine ⟨k + 1, by omega, by go_num, hJ3, fk.trans f3, f3.same _ _ hbk (.inr ⟨?_, hT _ _⟩)⟩
     have := (Array.getElem?_eq_some_iff.1 hblk).1
     exact hB
    case measure => simp only [intOf]; omega
   ·gi_wp2
    go_ret
    exact ⟨fk.trans f3, .inr ⟨rfl, k, h4, hJx3⟩⟩
  ·have : k = 4 := by omega
   subst this
   gi_wp2
   go_ret
   exact ⟨fk, .inl ⟨rfl, hJk⟩⟩
end Go.Proofs.YtnfakamfmkhlbaaGreatDoor.C
namespace Go.Proofs.YtnfakamfmkhlbaaGreatDoor.C
open Go.ChangeShapes Go.WideShapes Go.ChangeAt Go.RowKit
open Go.Proofs.YtnfakamfmkhlbaaGreatDoor.P
attribute [local go_sem] setCell_drewN alloc_drewN
structure Fld (m : Nat → BitVec 64) (wh : Bool) (own oth beh : BitVec 64) (fc : Nat → Bool) (FA : Array Value) : Prop where
 size : FA.size = 20
 men : ∀ i, i < 12 → FA[i]? = some (.int .u64 (U (m i)))
 wh : FA[12]? = some (.bool wh)
 own : FA[13]? = some (.int .u64 (U own))
 oth : FA[14]? = some (.int .u64 (U oth))
 beh : FA[15]? = some (.int .u64 (U beh))
 c : ∀ i, i < 4 → FA[16 + i]? = some (.bool (fc i))
theorem info20 : (Tryz.prog.info? 259).map (·.size) = some 20 := by kernel_rfl
def FAt (b : Nat) (A : Array Value) (w : World) : Prop := b < w.heap.size ∧ w.rangeAt b 0 A.toList
theorem FAt.gr {b : Nat} {A : Array Value} {w w' : World} (h : FAt b A w) (g : Gr w w') : FAt b A w' :=
 ⟨Nat.lt_of_lt_of_le h.1 (Below.size g), fun j v hv => (Below.cell g (p := ⟨b, 0 + j, none⟩) h.1).trans (h.2 j v hv)⟩
theorem FAt.cell {b : Nat} {A : Array Value} {w : World} (h : FAt b A w) {i : Nat} {v : Value} (hv : A[i]? = some v) : w.cell? ⟨b, i, none⟩ = some v := by
 have := h.2 i v (by rw [Array.getElem?_toList]; exact hv)
 rwa [Nat.zero_add] at this
theorem FAt.new (w : World) (A : Array Value) (t : TypeId) : FAt w.heap.size A (w.alloc (.cells A t)) := ⟨by rw [World.size_alloc]; omega, fun j v hv => by
 rw [World.cell?_alloc_at _ _ _ _ rfl, Nat.zero_add, ← Array.getElem?_toList]; exact hv⟩
theorem FAt.take {b : Nat} {A : Array Value} {w : World} (h : FAt b A w) (n : Nat) : w.rangeAt b 0 (A.toList.take n) := fun j v hv => h.2 j v (by
 rw [List.getElem?_take] at hv
 split at hv
 ·exact hv
 ·cases hv)
theorem y_fld {ops : Array Oper} {op : Oper} {a : Act} {FA : Array Value} (hz : FA.size = 20) {S : World → Prop} (hw : Region.wanted op (yielded ops a.tmps) = true) (x : Operand) (ho : op.op = .load 259 x) (b : Nat) (hx : a.eval x = .pointer (some ⟨b, 0, none⟩)) (hS : ∀ w, S w → FAt b FA w) : YieldsIf Tryz.prog ops S op (.agg FA) a := by
 have := yieldsIf_load_mid (P := Tryz.prog) hw 259 x ho b 0 hx FA.toList _ (fun w h => (hS w h).2) Tryz.underlying259 rfl (by rw [info20]; simp [hz])
 rwa [Array.toArray_toList] at this
theorem wpList_load_fld {ops : Array Oper} {rest : List Oper} {o : Oper} {a : Act} {w : World} {A : Array Value} {Q : Exit → Act → World → Prop} (hw : Region.wanted o (yielded ops a.tmps) = true) (x : Operand) (ho : o.op = .load 259 x) (b : Nat) (hx : a.eval x = .pointer (some ⟨b, 0, none⟩)) (hz : A.size = 20) (hh : FAt b A w)
  (h : wpList Tryz.prog ops Q rest (a.put o.dst (.agg A)) w) : wpList Tryz.prog ops Q (o :: rest) a w :=
 wpList_step fun K hK => by
  rw [if_pos hw]
  refine wp_load_mid (P := Tryz.prog) 259 x ho b 0 hx A.toList _ hh.2 Tryz.underlying259 rfl (by rw [info20]; simp [hz]) ?_
  rw [Array.toArray_toList]
  exact hK _ _ h
def upB (x : BitVec 64) (r : Int) : BitVec 64 := if r < 0 then x >>> (-8 * r).toNat else x <<< (8 * r).toNat
theorem up_U (x : BitVec 64) (r : Int) : upI (U x) r = U (upB x r) := by
 unfold upI upB
 have e : ∀ n : Nat, (2 : Int) ^ n = ((2 ^ n : Nat) : Int) := fun n => by simp
 split
 ·rw [e, shr_U]
 ·rw [e, shl_U]
def dirI (wh : Bool) : Int := if wh then 1 else -1
def thirdB (wh : Bool) : BitVec 64 := if wh then upB 255#64 2 else upB 18374686479671623680#64 (-2)
def onceB (wh : Bool) (own oth : BitVec 64) (f : Nat) : BitVec 64 := upB (1#64 <<< f) (dirI wh) &&& ~~~(own ||| oth)
def aheadB (wh : Bool) (own oth : BitVec 64) (f : Nat) : BitVec 64 := onceB wh own oth f ||| (upB (onceB wh own oth f &&& thirdB wh) (dirI wh) &&& ~~~(own ||| oth))
variable {m : Nat → BitVec 64} {wh : Bool} {own oth beh : BitVec 64} {fc : Nat → Bool} {FA : Array Value}
theorem ranks_any (r : Fld m wh own oth beh fc FA) (w : World) : Calls Tryz.prog 290 #[.agg FA] w fun e w' => e = .returned (.int .i64 (dirI wh)) ∧ Gr w w' := by
 have hc := (FAt.new w FA 259).cell r.wh
 clear r
 cases wh
 all_goals
  go_enter Tryz.func290, Tryz.ntmps290
  go_wp2
  go_ret
  exact ⟨rfl, (Gr.refl _).alloc _ _⟩
theorem not_U (x : BitVec 64) : bits .xor .u64 (if IntKind.u64.signed = true then -1 else IntKind.u64.max) (U x) = U (~~~x) := by
 rw [show (if IntKind.u64.signed = true then -1 else IntKind.u64.max) = U (BitVec.allOnes 64) from by decide +kernel, xor_U, BitVec.allOnes_xor]
def HF (w1 : World) (b : Nat) (FA : Array Value) (W : World) : Prop := FAt b FA W ∧ Gr w1 W
theorem HF.gr {w1 W W' : World} {b : Nat} {FA : Array Value} (h : HF w1 b FA W) (g : Gr W W') : HF w1 b FA W' := ⟨h.1.gr g, Gr.trans h.2 g⟩
set_option linter.unusedSimpArgs false in
set_option maxRecDepth 100000 in
set_option maxHeartbeats 4000000 in
theorem ahead_any (r : Fld m wh own oth beh fc FA) (f : Nat) (hf : f < 64) (w : World) : Calls Tryz.prog 243 #[.agg FA, .int .i64 (f : Int)] w fun e w' => e = .returned (.int .u64 (U (aheadB wh own oth f))) ∧ Gr w w' := by
 have hr1 := FAt.new w FA 259
 have hg1 := (Gr.refl w).alloc FA 259
 have hz := hide r.size
 have hrk := hide (fun W => ranks_any r W)
 have hone := hide (fun W => one_any (f : Int) (by omega) (by omega) W)
 rw [one_U f hf] at hone
 have c12 := hr1.cell r.wh
 have c13 := hr1.cell r.own
 have c14 := hr1.cell r.oth
 have hup : Hid (∀ (x q : Int) (h0 : -7 ≤ q) (h1 : q ≤ 7) (W : World), Calls Tryz.prog 187 #[.int .u64 x, .int .i64 q] W fun e w' => e = .returned (.int .u64 (upI x q)) ∧ w' = W) := hide (fun x q h0 h1 W => up_any x q W h0 h1)
 clear r
 have hor : ∀ x y : BitVec 64, bits .or .u64 (U x) (U y) = U (x ||| y) := or_U
 have hno := not_U (own ||| oth)
 have hth : Hid (thirdB wh = if wh then upB 255#64 2 else upB 18374686479671623680#64 (-2)) := hide rfl
 obtain ⟨d, hd⟩ : ∃ d, Hid (dirI wh = d) := ⟨_, hide rfl⟩
 rw [unhide hd] at hrk
 have hd0 : (-7 : Int) ≤ d ∧ d ≤ 7 := by rw [← unhide hd]; cases wh <;> decide
 obtain ⟨hd1, hd2⟩ := hd0
 have fin : Hid (∀ T : BitVec 64, T = thirdB wh → aheadB wh own oth f = (upB (1#64 <<< f) d &&& ~~~(own ||| oth)) ||| (upB ((upB (1#64 <<< f) d &&& ~~~(own ||| oth)) &&& T) d &&& ~~~(own ||| oth))) := hide (fun T hT => by unfold aheadB onceB; rw [unhide hd, hT])
 generalize aheadB wh own oth f = R at fin ⊢
 generalize hT : thirdB wh = T at fin hth
 replace fin := hide (unhide fin _ rfl)
 have hTU : Hid (U T = if wh then upI 255 2 else upI 18374686479671623680 (-2)) := hide (by
  rw [unhide hth]
  rw [show (255 : Int) = U 255#64 from by decide +kernel, show (18374686479671623680 : Int) = U 18374686479671623680#64 from by decide +kernel, up_U, up_U]
  cases wh <;> rfl)
 clear hth hT hd
 generalize hN : ~~~(own ||| oth) = N at fin hno
 clear hN
 cases wh
 all_goals
  have hTU' := unhide hTU
  simp only [Bool.false_eq_true, if_false, if_true] at hTU'
  clear hTU
  go_enter Tryz.func243, Tryz.ntmps243
  go_upto_region 5 with (go_at_call 187; refine (unhide hup _ _ (by decide) (by decide) _).mono ?_; rintro e w' ⟨rfl, rfl⟩)
  have hH : HF w w.heap.size FA (w.alloc (.cells FA 259)).drew := ⟨hr1.gr (Gr.refl _).drew, hg1.drew⟩
  generalize w.alloc (.cells FA 259) = w1 at hH ⊢
  refine wp_region_held_drew (S := HF w w.heap.size FA) (by kernel_rfl) hH (fun hHeld => ?_)
  refine tk 0 (.int .i64 (f : Int)) rfl (Or.inl ⟨by rfl, fun w _ => (by go_simp)⟩) hHeld ?_
  simp only [Act.put, C.p4, C.p5, C.p6]
  refine tk 2 (.agg FA) rfl (y_fld (unhide hz) (by rfl) _ rfl w.heap.size rfl (fun _ h => h.1)) hHeld ?_
  simp only [Act.put, C.p4, C.p5, C.p6]
  refine tk 5 (.int .u64 (U N)) rfl (Or.inl ⟨by rfl, fun w _ => (by go_simp)⟩) hHeld ?_
  simp only [Act.put, C.p4, C.p5, C.p6]
  refine wpAnyH_ready (rs := [1]) (by kernel_rfl) (by simp) ?_
  refine AllReadyH.cons rfl (fun K hK => ?_) AllReadyH.nil
  go_simp
  refine (unhide hone _).mono ?_
  rintro e wa ⟨rfl, rfl⟩
  refine hK.out _ _ hHeld (fun hHeld => ?_)
  clear hK K
  refine wpAnyH_ready (rs := [3]) (by kernel_rfl) (by simp) ?_
  refine AllReadyH.cons rfl (fun K hK => ?_) AllReadyH.nil
  go_simp
  refine (unhide hrk _).mono ?_
  rintro e wb ⟨rfl, hgb⟩
  refine hK.out _ _ (hHeld.gr hgb) (fun hHeld => ?_)
  clear hK K hgb
  refine wpAnyH_ready (rs := [4]) (by kernel_rfl) (by simp) ?_
  refine AllReadyH.cons rfl (fun K hK => ?_) AllReadyH.nil
  go_simp
  refine (unhide hup _ _ hd1 hd2 _).mono ?_
  rintro e wc ⟨rfl, rfl⟩
  refine hK.out _ _ hHeld (fun hHeld => ?_)
  clear hK K
  have e1 : bits .and .u64 (upI (U (1#64 <<< f)) d) (U N) = U (upB (1#64 <<< f) d &&& N) := by rw [up_U, and_U]
  generalize upB (1#64 <<< f) d &&& N = O at e1 fin
  refine tk 6 (.int .u64 (U O)) rfl (Or.inl ⟨by rfl, fun w _ => (by go_simp)⟩) hHeld ?_
  simp only [Act.put, C.p4, C.p5, C.p6]
  refine wpAnyH_ready (rs := [7]) (by kernel_rfl) (by simp) ?_
  refine AllReadyH.cons rfl (fun K hK => ?_) AllReadyH.nil
  go_simp
  refine hK.out _ _ hHeld (fun hHeld => ?_)
  clear hK K
  refine wpAnyH_done (by kernel_rfl) ?_ _
  have e2 : ∀ y, U T = y → bits .and .u64 (U O) y = U (O &&& T) := fun y h => by rw [← h, and_U]
  have e2' := e2 _ hTU'
  have e3 : bits .and .u64 (upI (U (O &&& T)) d) (U N) = U (upB (O &&& T) d &&& N) := by rw [up_U, and_U]
  clear e2 hTU' e1 hno c12 c13 c14 hr1 hg1 hone
  have hhe := hide hHeld
  clear hHeld hH
  go_wp2_with (first
   | (go_at_call 290; refine (unhide hrk _).mono ?_; rintro e wr ⟨rfl, hgr⟩)
   | (go_at_call 187; refine (unhide hup _ _ hd1 hd2 _).mono ?_; rintro e w' ⟨rfl, hww⟩; have hww' := hww.symm; subst hww'; clear hww)
   | (refine wpList_load_fld (by rfl) _ rfl w.heap.size rfl (unhide hz) (unhide hhe).1 ?_))
  go_ret
  exact ⟨by rw [unhide fin]; rfl, Gr.trans (unhide hhe).2 hgr⟩
end Go.Proofs.YtnfakamfmkhlbaaGreatDoor.C
