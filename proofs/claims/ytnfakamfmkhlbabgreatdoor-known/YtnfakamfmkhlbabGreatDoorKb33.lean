import Derived.Test.YtnfakamfmkhlbabGreatDoorKb32
import Derived.Test.YtnfakamfmkhlbabGreatDoorKb23
namespace Go.Proofs.YtnfakamfmkhlbabGreatDoor.K

open Go.Proofs.YtnfakamfmkhlbabGreatDoor.P Go.Proofs.YtnfakamfmkhlbabGreatDoor.C

set_option maxRecDepth 100000

set_option linter.unusedSimpArgs false

/-! where a man may go -/

theorem up_and (x y : BitVec 64) : Nat.land (Nat.shiftLeft x.toNat 8) y.toNat = ((x <<< 8) &&& y).toNat := by
  apply Nat.eq_of_testBit_eq
  intro j
  show ((x.toNat <<< 8) &&& y.toNat).testBit j = _
  rw [Nat.testBit_and, Nat.testBit_shiftLeft, BitVec.testBit_toNat, BitVec.testBit_toNat, BitVec.testBit_toNat, BitVec.getLsbD_and, BitVec.getLsbD_shiftLeft]
  by_cases hj : j < 64
  · by_cases h8 : 8 ≤ j
    · rw [show decide (j ≥ 8) = true from decide_eq_true h8, show decide (j < 8) = false from decide_eq_false (by omega), decide_eq_true hj]; simp
    · rw [show decide (j ≥ 8) = false from decide_eq_false h8, show decide (j < 8) = true from decide_eq_true (by omega)]; simp
  · rw [BitVec.getLsbD_of_ge y _ (by omega)]; simp

theorem down_and (x y : BitVec 64) : Nat.land (Nat.shiftRight x.toNat 8) y.toNat = ((x >>> 8) &&& y).toNat := by
  rw [down8, land_is]

theorem third_w : (thirdB true).toNat = 16711680 := by decide +kernel

theorem third_b : (thirdB false).toNat = 280375465082880 := by decide +kernel

theorem once_is (wh : Bool) (own oth : BitVec 64) (f : Nat) : Nat.land (cond (Nat.beq (bg wh) 0) (Nat.shiftLeft (one f) 8) (Nat.shiftRight (one f) 8)) (~~~(own ||| oth)).toNat = (onceB wh own oth f).toNat := by
  rw [bg_zero]
  cases wh
  · exact down_and _ _
  · exact up_and _ _

theorem ahead_is (wh : Bool) (own oth : BitVec 64) (f : Nat) : Nat.lor (onceB wh own oth f).toNat (Nat.land (cond (Nat.beq (bg wh) 0) (Nat.shiftLeft (Nat.land (onceB wh own oth f).toNat 16711680) 8) (Nat.shiftRight (Nat.land (onceB wh own oth f).toNat 280375465082880) 8)) (~~~(own ||| oth)).toNat) = (aheadB wh own oth f).toNat := by
  rw [bg_zero]
  unfold aheadB
  rw [← lor_is]
  congr 1
  cases wh
  · rw [← third_b, land_is]
    exact down_and _ _
  · rw [← third_w, land_is]
    exact up_and _ _

theorem targ_is (m : Nat → BitVec 64) (wh : Bool) (own oth beh : BitVec 64) (fc : Nat → Bool) {k f : Nat} (hk : k < 6) (hf : f < 64) : targ (bg wh) own.toNat oth.toNat beh.toNat (casQ m wh own oth fc 4).toNat k f (one f) = (targB m wh own oth beh fc k (kndN wh k) f).toNat := by
  unfold targ targB
  simp only [sforce_eq]
  rw [lor_is own oth, not_is own, not_is (own ||| oth)]
  have : k = 0 ∨ k = 1 ∨ k = 2 ∨ k = 3 ∨ k = 4 ∨ k = 5 := by omega
  rcases this with rfl | rfl | rfl | rfl | rfl | rfl
  · rw [if_pos rfl]
    simp only
    rw [once_is]
    have e1 : at64 (cond (Nat.beq (bg wh) 0) WP BP) f = (reachB (kndN wh 0) f (own ||| oth)).toNat := by
      cases wh
      · exact tBP f hf
      · exact tWP f hf
    rw [e1, lor_is oth beh, land_is]
    have e2 : ∀ a b c d : Nat, Nat.lor a b = d → Nat.lor (Nat.lor c a) b = Nat.lor c d := fun a b c d h => by
      rw [← h]
      exact Nat.or_assoc c a b
    rw [e2 _ _ _ _ (ahead_is wh own oth f), lor_is]
  · rw [if_neg (by omega), if_neg (by omega)]
    simp only
    rw [tKN f hf, land_is]
    rfl
  · rw [if_neg (by omega), if_neg (by omega)]
    simp only
    rw [slant_is _ f hf, land_is]
    rfl
  · rw [if_neg (by omega), if_neg (by omega)]
    simp only
    rw [straight_is _ f hf, land_is]
    rfl
  · rw [if_neg (by omega), if_neg (by omega)]
    simp only
    rw [slant_is _ f hf, straight_is _ f hf, lor_is, land_is]
    rfl
  · rw [if_neg (by omega), if_pos rfl]
    simp only
    rw [tKI f hf, land_is, lor_is]
    rfl

/-! castling -/

structure Rts (r : Nat) (fc : Nat → Bool) : Prop where
  r0 : hit r 1 = fc 0
  r1 : hit r 2 = fc 1
  r2 : hit r 4 = fc 2
  r3 : hit r 8 = fc 3

theorem cas1_is {S : Nat} {m : Nat → BitVec 64} (h : Rep S m) {wh : Bool} {fc : Nat → Bool} {own oth : BitVec 64} (ho : own ||| oth = takenB m) {r rb way x0 x1 x2 tb i : Nat} (hr : hit r rb = fc i) (hw : way = (casW i).toNat) (hi : wh = decide (i < 2)) (hx : x0 < 64 ∧ x1 < 64 ∧ x2 < 64) (hs : ∀ P : Nat → Bool, (sqs (casX i)).any P = (P x0 || P x1 || P x2)) (ht : tb = one (casT i)) :
    cas1 S (takenB m).toNat (bg (!wh)) r rb way x0 x1 x2 tb = if casOk m wh own oth fc i then one (casT i) else 0 := by
  unfold cas1 casOk anyB
  rw [hr, hw, ht, hit_is, att_is h _ hx.1, att_is h _ hx.2.1, att_is h _ hx.2.2, hs, ho, hi]
  have e : (takenB m &&& casW i != 0#64) = !(decide (takenB m &&& casW i = 0#64)) := by
    rw [Bool.eq_iff_iff, bne_iff_ne, Bool.not_eq_true', decide_eq_false_iff_not]
  rw [e, Bool.not_not, beq_self_eq_true, Bool.and_true]
  cases fc i && decide (takenB m &&& casW i = 0#64) && !(attackedS m (x0 : Int) (!decide (i < 2)) || attackedS m (x1 : Int) (!decide (i < 2)) || attackedS m (x2 : Int) (!decide (i < 2))) <;> rfl

theorem cas_off {m : Nat → BitVec 64} {wh : Bool} {own oth : BitVec 64} {fc : Nat → Bool} {i : Nat} (h : wh ≠ decide (i < 2)) : casOk m wh own oth fc i = false := by
  unfold casOk
  have : (wh == decide (i < 2)) = false := by rw [beq_eq_false_iff_ne]; exact h
  rw [this]; simp

theorem casN_is {S : Nat} {m : Nat → BitVec 64} (h : Rep S m) (wh : Bool) {fc : Nat → Bool} {own oth : BitVec 64} (ho : own ||| oth = takenB m) {r : Nat} (hr : Rts r fc) : casN S (takenB m).toNat (bg wh) (bg (!wh)) r = (casQ m wh own oth fc 4).toNat := by
  unfold casN
  rw [bg_zero]
  have o0 : ∀ a : BitVec 64, Nat.lor a.toNat 0 = a.toNat := fun a => Nat.or_zero _
  have z0 : ∀ a : Nat, Nat.lor 0 a = a := fun a => Nat.zero_or _
  have lo : ∀ t u, Nat.lor (one t) (one u) = (1#64 <<< t ||| 1#64 <<< u).toNat := fun t u => lor_is _ _
  have q : ∀ k, casQ m wh own oth fc (k + 1) = if casOk m wh own oth fc k then casQ m wh own oth fc k ||| 1#64 <<< casT k else casQ m wh own oth fc k := fun _ => rfl
  have q0 : casQ m wh own oth fc 0 = 0#64 := rfl
  cases wh
  · simp only [cond]
    rw [cas1_is h (wh := false) (fc := fc) ho (i := 2) hr.r2 (by decide +kernel) (by decide) (by decide) (fun P => by rw [show sqs (casX 2) = [60, 61, 62] by decide +kernel]; simp [Bool.or_assoc]) (by decide +kernel),
      cas1_is h (wh := false) (fc := fc) ho (i := 3) hr.r3 (by decide +kernel) (by decide) (by decide) (fun P => by rw [show sqs (casX 3) = [58, 59, 60] by decide +kernel]; simp; cases P 58 <;> cases P 59 <;> cases P 60 <;> rfl) (by decide +kernel)]
    rw [q 3, q 2, q 1, q 0, q0, cas_off (i := 0) (by decide), cas_off (i := 1) (by decide)]
    cases casOk m false own oth fc 2 <;> cases casOk m false own oth fc 3 <;> simp [z0, o0, lo, one] <;> rfl
  · simp only [cond]
    rw [cas1_is h (wh := true) (fc := fc) ho (i := 0) hr.r0 (by decide +kernel) (by decide) (by decide) (fun P => by rw [show sqs (casX 0) = [4, 5, 6] by decide +kernel]; simp [Bool.or_assoc]) (by decide +kernel),
      cas1_is h (wh := true) (fc := fc) ho (i := 1) hr.r1 (by decide +kernel) (by decide) (by decide) (fun P => by rw [show sqs (casX 1) = [2, 3, 4] by decide +kernel]; simp; cases P 2 <;> cases P 3 <;> cases P 4 <;> rfl) (by decide +kernel)]
    rw [q 3, q 2, q 1, q 0, q0, cas_off (i := 2) (by decide), cas_off (i := 3) (by decide)]
    cases casOk m true own oth fc 0 <;> cases casOk m true own oth fc 1 <;> simp [z0, o0, lo, one] <;> rfl

end Go.Proofs.YtnfakamfmkhlbabGreatDoor.K

namespace Go.Proofs.YtnfakamfmkhlbabGreatDoor.K

open Go.Proofs.YtnfakamfmkhlbabGreatDoor.P Go.Proofs.YtnfakamfmkhlbabGreatDoor.C

set_option maxRecDepth 100000

set_option linter.unusedSimpArgs false

/-! sums -/

theorem oneM_add (next : Nat → Nat → Nat → Nat) (S b b' r beh k fb y tb n : Nat) : oneM next S b b' r beh k fb y tb n = n + oneM next S b b' r beh k fb y tb 0 := by
  unfold oneM
  simp only [sforce_eq]
  generalize att _ _ _ _ = a
  cases a
  · simp only [cond]
    generalize (Nat.beq k 0 && last tb) = q
    cases q
    · simp only [cond]
      show n + _ = n + (0 + _)
      rw [Nat.zero_add]
    · simp only [cond]
      show n + _ + _ + _ + _ = n + (0 + _ + _ + _ + _)
      omega
  · rfl

theorem cntT_sum (next : Nat → Nat → Nat → Nat) (S b b' r beh k fb y : Nat) : ∀ (l : List Nat) (n : Nat), cntT next S b b' r beh k fb y l n = n + (l.map fun t => oneM next S b b' r beh k fb y t 0).sum := by
  intro l
  induction l with
  | nil => intro n; rfl
  | cons t l ih =>
    intro n
    rw [cntT, sforce_eq, ih, oneM_add, List.map_cons, List.sum_cons]
    omega

theorem cntF_sum (next : Nat → Nat → Nat → Nat) (S b b' r own oth beh cas k y : Nat) : ∀ (l : List Nat) (n : Nat), cntF next S b b' r own oth beh cas k y l n = n + (l.map fun fb => ((bitsL (targ b own oth beh cas k (lg fb) fb)).map fun t => oneM next S b b' r beh k fb y t 0).sum).sum := by
  intro l
  induction l with
  | nil => intro n; rfl
  | cons t l ih =>
    intro n
    rw [cntF, sforce_eq, ih, cntT_sum, List.map_cons, List.sum_cons]
    omega

theorem cntK_sum (next : Nat → Nat → Nat → Nat) (S b b' r own oth beh cas y : Nat) : ∀ (l : List Nat) (n : Nat), cntK next S b b' r own oth beh cas y l n = n + (l.map fun k => ((bitsL (at64 S (b + k))).map fun fb => ((bitsL (targ b own oth beh cas k (lg fb) fb)).map fun t => oneM next S b b' r beh k fb y t 0).sum).sum).sum := by
  intro l
  induction l with
  | nil => intro n; rfl
  | cons t l ih =>
    intro n
    rw [cntK, sforce_eq, ih, cntF_sum, List.map_cons, List.sum_cons, show Nat.add b t = b + t from rfl]
    omega

theorem sum_flat {α β : Type} (F : β → Nat) (g : α → List β) : ∀ l : List α, ((l.flatMap g).map F).sum = (l.map fun a => ((g a).map F).sum).sum := by
  intro l
  induction l with
  | nil => rfl
  | cons a l ih => rw [List.flatMap_cons, List.map_append, List.sum_append, ih, List.map_cons, List.sum_cons]

set_option maxHeartbeats 1000000 in
/-- one ply, over the sets. -/
theorem ply_is (next : Nat → Nat → Nat → Nat) {S : Nat} {m : Nat → BitVec 64} (h : Rep S m) (wh : Bool) {fc : Nat → Bool} {r : Nat} (hr : Rts r fc) (beh : BitVec 64) {y : Nat} (hy : sqs (m (bg wh + 5)) = [y]) :
    ply next (bg wh) S r beh.toNat = ((List.range 6).map fun k => ((sqs (m (bg wh + k))).map fun f => ((sqs (targB m wh (sideB m wh) (sideB m (!wh)) beh fc k (kndN wh k) f)).map fun t => oneM next S (bg wh) (bg (!wh)) r beh.toNat k (one f) y (one t) 0).sum).sum).sum := by
  have hb : (bg wh = 0 ∧ bg (!wh) = 6) ∨ (bg wh = 6 ∧ bg (!wh) = 0) := bg_two wh
  have e6 : Nat.sub 6 (bg wh) = bg (!wh) := by cases wh <;> rfl
  obtain ⟨hy64, hm5⟩ := sqs_single hy
  have hking : lg (at64 S (Nat.add (bg wh) 5)) = y := by
    have h5 := h (bg wh + 5) (by omega)
    show lg (at64 S (bg wh + 5)) = y
    rw [h5, hm5]
    exact lg_one y hy64
  have ho : sideB m wh ||| sideB m (!wh) = takenB m := by
    unfold takenB
    cases wh
    · exact BitVec.or_comm _ _
    · rfl
  unfold ply
  simp only [sforce_eq, force_eq]
  rw [e6, side_is h wh, side_is h (!wh), lor_is, ho, casN_is h wh ho hr, hking, cntK_sum, Nat.zero_add]
  have hR : List.range 6 = [0, 1, 2, 3, 4, 5] := rfl
  rw [hR]
  refine congrArg List.sum (List.map_congr_left fun k hk => ?_)
  have hk6 : k < 6 := by
    simp only [List.mem_cons, List.not_mem_nil, or_false] at hk
    omega
  rw [h (bg wh + k) (by omega), bitsL_is, List.map_map]
  refine congrArg List.sum (List.map_congr_left fun f hf => ?_)
  have hf64 := ((sqs_mem _ f).1 hf).1
  simp only [Function.comp]
  rw [lg_one f hf64, targ_is m wh _ _ beh fc hk6 hf64, bitsL_is, List.map_map]
  rfl

end Go.Proofs.YtnfakamfmkhlbabGreatDoor.K

namespace Go.Proofs.YtnfakamfmkhlbabGreatDoor.K

open Go.Proofs.YtnfakamfmkhlbabGreatDoor.P Go.Proofs.YtnfakamfmkhlbabGreatDoor.C

set_option maxRecDepth 100000

set_option linter.unusedSimpArgs false

/-! the letters behind a move, as boards -/

section

variable {z : Nat → UInt8} {wh : Bool} {b : Int} {i f t cs : Nat} {u : UInt8} {Z : Nat → UInt8}

theorem not_own (h : Plain z wh b i f t u cs) {j : Nat} (hj : j < 6) : decide (ixc (z t) = ((bg wh + j : Nat) : Int)) = false :=
  decide_eq_false fun e => h.no (coc_ix hj e)

theorem own_t (h : Plain z wh b i f t u cs) (h0 : -1 ≤ b) (h1 : b ≤ 63) {j : Nat} (hj : j < 6) : (afterB (layS z 64) wh (behB b) i f t (bg wh + j)).getLsbD t = decide (i = j) := by
  have hb := bg_two wh
  have hi := h.hi
  rw [after_bit h h0 h1 _ h.ht]
  by_cases e : j = i
  · subst e
    rw [if_pos rfl, not_own h hj]
    simp
  · rw [if_neg (by omega), if_neg (by omega), not_own h hj, decide_eq_false (fun k => e k.symm)]

theorem own_at (h : Plain z wh b i f t u cs) (hZ : Beh z f t u cs Z) (h0 : -1 ≤ b) (h1 : b ≤ 63) {q : Nat} (hq : ixc (trn (z f) u) = ((bg wh + q : Nat) : Int)) {j : Nat} (hj : j < 6) {n : Nat} (hn : n < 64) :
    (layS Z 64 (bg wh + j)).getLsbD n = if n = t then decide (q = j) else (afterB (layS z 64) wh (behB b) i f t (bg wh + j)).getLsbD n := by
  have hb := bg_two wh
  have hi := h.hi
  have hc := h.hc
  rw [lay64 _ _ n hn, hZ n]
  by_cases c1 : n = t
  · rw [if_pos c1, if_pos c1, hq]
    by_cases e : q = j
    · subst e; simp
    · rw [decide_eq_false e, decide_eq_false (by omega)]
  · rw [if_neg c1, if_neg c1, after_bit h h0 h1 _ hn]
    have c1' : decide (n = t) = false := decide_eq_false c1
    by_cases c2 : n = f
    · subst c2
      rw [if_pos rfl, dot_ix, hc, decide_eq_false (by omega)]
      by_cases e : j = i
      · subst e
        rw [if_pos rfl]; simp
      · rw [if_neg (by omega), if_neg (by omega), decide_eq_false (by omega)]
    · rw [if_neg c2]
      have c2' : decide (n = f) = false := decide_eq_false c2
      by_cases c3 : n = cs
      · rw [if_pos c3, dot_ix, decide_eq_false (by omega)]
        have hcs := (h.cz (fun e => c1 (c3.trans e))).1
        have e3 : decide (ixc (z n) = ((bg wh + j : Nat) : Int)) = false := by
          rw [c3, hcs]
          exact decide_eq_false (by omega)
        rw [e3, c1', c2']
        split
        · rfl
        · rw [if_neg (by omega)]
      · rw [if_neg c3, c1', c2']
        split
        · simp
        · rw [if_neg (by omega)]

/-- a plain move, the man as it was. -/
theorem rep_plain {S : Nat} (hS : Rep S (layS z 64)) (h : Plain z wh b i f t 0 cs) (kg : i = 5 → t ≠ f + 2 ∧ t + 2 ≠ f) (h0 : -1 ≤ b) (h1 : b ≤ 63) : Rep (aft S (bg wh) (bg (!wh)) i (one f) (one t) (gone (bg wh) (behB b).toNat i (one t))) (layS (plZ z b (f, t, 0)) 64) := by
  have hb := bg_two wh
  have hZ := pl_at h kg
  have hq : ixc (trn (z f) 0) = ((bg wh + i : Nat) : Int) := by
    rw [show trn (z f) 0 = z f by unfold trn; rw [if_pos rfl]]
    exact h.hc
  rw [gone_is]
  intro p hp
  rw [aft_is hS wh (behB b) (f := f) (t := t) h.hi p hp]
  congr 1
  by_cases c : bg wh ≤ p ∧ p < bg wh + 6
  · obtain ⟨j, rfl⟩ : ∃ j, p = bg wh + j := ⟨p - bg wh, by omega⟩
    apply BitVec.eq_of_getLsbD_eq
    intro n hn
    rw [own_at h hZ h0 h1 hq (by omega) hn]
    by_cases e : n = t
    · subst e
      rw [if_pos rfl, own_t h h0 h1 (by omega)]
    · rw [if_neg e]
  · obtain ⟨j, rfl⟩ : ∃ j, p = bg (!wh) + j := ⟨p - bg (!wh), by omega⟩
    exact oth_after h hZ h0 h1 (by omega)

/-- a pawn that becomes another man. -/
theorem rep_prom {S : Nat} (hS : Rep S (layS z 64)) (h : Plain z wh b 0 f t u cs) (h0 : -1 ≤ b) (h1 : b ≤ 63) {q : Nat} (hq : ixc (trn (z f) u) = ((bg wh + q : Nat) : Int)) (hq0 : 0 < q) (hq6 : q < 6) : Rep (prom (aft S (bg wh) (bg (!wh)) 0 (one f) (one t) (gone (bg wh) (behB b).toNat 0 (one t))) (bg wh) (one t) q) (layS (plZ z b (f, t, u)) 64) := by
  have hb := bg_two wh
  have hZ := pl_at h (fun e => absurd e (by omega))
  have hlt : ∀ x, one x < 2 ^ 64 := fun x => (1#64 <<< x).isLt
  rw [gone_is]
  intro p hp
  unfold prom
  have at_or : ∀ A B : Nat, at64 (Nat.lor A B) p = Nat.lor (at64 A p) (at64 B p) := fun A B => by
    apply Nat.eq_of_testBit_eq
    intro j
    show _ = (at64 A p ||| at64 B p).testBit j
    rw [at_bit, Nat.testBit_or, at_bit, at_bit]
    show (decide (j < 64) && (A ||| B).testBit (64 * p + j)) = _
    rw [Nat.testBit_or]
    cases decide (j < 64) <;> simp
  have s1 := at_shl (hlt t) (bg wh) p
  have s2 : at64 (Nat.shiftLeft (one t) (Nat.mul 64 (Nat.add (bg wh) q))) p = if p = bg wh + q then one t else 0 := at_shl (hlt t) (bg wh + q) p
  rw [at_xor, at_or, s1, s2, aft_is hS wh (behB b) (f := f) (t := t) h.hi p hp]
  have z0 : ∀ a : BitVec 64, Nat.xor a.toNat 0 = a.toNat := fun a => Nat.xor_zero _
  have l0 : ∀ a : Nat, Nat.lor a 0 = a := fun a => Nat.or_zero _
  have l1 : ∀ a : Nat, Nat.lor 0 a = a := fun a => Nat.zero_or _
  by_cases c : bg wh ≤ p ∧ p < bg wh + 6
  · obtain ⟨j, rfl⟩ : ∃ j, p = bg wh + j := ⟨p - bg wh, by omega⟩
    have hj : j < 6 := by omega
    have key : ∀ n, n < 64 → (layS (plZ z b (f, t, u)) 64 (bg wh + j)).getLsbD n = if n = t then decide (q = j) else (afterB (layS z 64) wh (behB b) 0 f t (bg wh + j)).getLsbD n := fun n hn => own_at h hZ h0 h1 hq hj hn
    have ht := own_t h h0 h1 hj
    have flip : decide (q = j) = !decide (0 = j) → (afterB (layS z 64) wh (behB b) 0 f t (bg wh + j)) ^^^ 1#64 <<< t = layS (plZ z b (f, t, u)) 64 (bg wh + j) := fun hfl => by
      apply BitVec.eq_of_getLsbD_eq
      intro n hn
      rw [BitVec.getLsbD_xor, one_bit t h.ht n hn, key n hn]
      by_cases e : n = t
      · subst e
        rw [if_pos rfl, ht, hfl]; simp
      · rw [if_neg e, decide_eq_false e]; simp
    have stay : decide (q = j) = decide (0 = j) → (afterB (layS z 64) wh (behB b) 0 f t (bg wh + j)) = layS (plZ z b (f, t, u)) 64 (bg wh + j) := fun hfl => by
      apply BitVec.eq_of_getLsbD_eq
      intro n hn
      rw [key n hn]
      by_cases e : n = t
      · subst e
        rw [if_pos rfl, ht, hfl]
      · rw [if_neg e]
    by_cases j0 : j = 0
    · subst j0
      rw [if_pos (show bg wh + 0 = bg wh from rfl), if_neg (by omega), l0]
      show Nat.xor _ (1#64 <<< t).toNat = _
      rw [xor_is, flip (by rw [decide_eq_false (by omega)]; rfl)]
    · rw [if_neg (by omega), l1]
      by_cases jq : j = q
      · subst jq
        rw [if_pos rfl]
        show Nat.xor _ (1#64 <<< t).toNat = _
        rw [xor_is, flip (by rw [decide_eq_true rfl, decide_eq_false (by omega)]; rfl)]
      · rw [if_neg (by omega), z0, stay (by rw [decide_eq_false (by omega), decide_eq_false (by omega)])]
  · obtain ⟨j, rfl⟩ : ∃ j, p = bg (!wh) + j := ⟨p - bg (!wh), by omega⟩
    rw [if_neg (by omega), if_neg (by omega), l0, z0, oth_after h hZ h0 h1 (by omega)]

end

end Go.Proofs.YtnfakamfmkhlbabGreatDoor.K

namespace Go.Proofs.YtnfakamfmkhlbabGreatDoor.K

open Go.Proofs.YtnfakamfmkhlbabGreatDoor.P Go.Proofs.YtnfakamfmkhlbabGreatDoor.C

set_option maxRecDepth 100000

set_option linter.unusedSimpArgs false

/-! castling, as boards -/

theorem rook_is : ∀ ci, ci < 4 → rook 5 (one (hK ci)) (one (casT ci)) = (1#64 <<< rN ci ||| 1#64 <<< hR ci).toNat := by decide +kernel

theorem cas_apart : ∀ ci, ci < 4 → hK ci < 64 ∧ casT ci < 64 ∧ hR ci < 64 ∧ rN ci < 64 ∧ hK ci ≠ casT ci ∧ hK ci ≠ hR ci ∧ hK ci ≠ rN ci ∧ casT ci ≠ hR ci ∧ casT ci ≠ rN ci ∧ hR ci ≠ rN ci := by decide +kernel

theorem rep_cas {z : Nat → UInt8} {wh : Bool} {b : Int} {S : Nat} (hS : Rep S (layS z 64)) (beh : BitVec 64) {ci : Nat} (h : Cas z wh ci) :
    Rep (Nat.xor (aft S (bg wh) (bg (!wh)) 5 (one (hK ci)) (one (casT ci)) (gone (bg wh) beh.toNat 5 (one (casT ci)))) (Nat.shiftLeft (rook 5 (one (hK ci)) (one (casT ci))) (Nat.mul 64 (Nat.add (bg wh) 3)))) (layS (plZ z b (hK ci, casT ci, 0)) 64) := by
  have hb := bg_two wh
  obtain ⟨k1, k2, k3, k4, d1, d2, d3, d4, d5, d6⟩ := cas_apart ci h.hi
  obtain ⟨hp', hk'⟩ := pk_is (i := 5) (by omega) h.k
  have hpw : pawnB (z (hK ci)) = false := by rw [hp']; rfl
  have hkg : kingB (z (hK ci)) = true := by rw [hk']; rfl
  have hat := cas_at (b := b) h.hi hpw hkg
  have zt : z (casT ci) = 46 := h.dot (cas_in ci h.hi).1
  have zn : z (rN ci) = 46 := h.dot (cas_in ci h.hi).2
  have hk := h.k
  have hr := h.r
  rw [gone_is, rook_is ci h.hi]
  intro p hp
  have s1 : at64 (Nat.shiftLeft (1#64 <<< rN ci ||| 1#64 <<< hR ci).toNat (Nat.mul 64 (Nat.add (bg wh) 3))) p = if p = bg wh + 3 then (1#64 <<< rN ci ||| 1#64 <<< hR ci).toNat else 0 := at_shl (1#64 <<< rN ci ||| 1#64 <<< hR ci).isLt (bg wh + 3) p
  rw [at_xor, s1, aft_is hS wh beh (f := hK ci) (t := casT ci) (by omega) p hp]
  have hg : goneB wh beh 5 (casT ci) = 1#64 <<< casT ci := by
    unfold goneB
    rw [if_neg (fun e => absurd e.1 (by omega))]
  unfold afterB cutB
  rw [hg]
  have z0 : ∀ a : BitVec 64, Nat.xor a.toNat 0 = a.toNat := fun a => Nat.xor_zero _
  have bit : ∀ n, n < 64 → (layS (plZ z b (hK ci, casT ci, 0)) 64 p).getLsbD n = decide (ixc (if n = hR ci then 46 else if n = rN ci then z (hR ci) else if n = casT ci then z (hK ci) else if n = hK ci then 46 else z n) = (p : Int)) := fun n hn => by
    rw [lay64 _ _ n hn, hat n]
  generalize hK ci = K at *
  generalize casT ci = T at *
  generalize hR ci = R at *
  generalize rN ci = N at *
  have w1 : decide ((-1 : Int) = (p : Int)) = false := decide_eq_false (by omega)
  by_cases c5 : p = bg wh + 5
  · rw [if_pos c5, if_neg (by omega), if_neg (by omega), z0]
    congr 1
    apply BitVec.eq_of_getLsbD_eq
    intro n hn
    have v3 : decide (((bg wh + 3 : Nat) : Int) = (p : Int)) = false := decide_eq_false (by omega)
    have v5 : decide (((bg wh + 5 : Nat) : Int) = (p : Int)) = true := decide_eq_true (by omega)
    rw [bit n hn, BitVec.getLsbD_xor, BitVec.getLsbD_or, one_bit K k1 n hn, one_bit T k2 n hn, lay64 _ _ n hn]
    by_cases a1 : n = R
    · have y1 : decide (n = K) = false := decide_eq_false (fun e => d2 (e.symm.trans a1))
      have y2 : decide (n = T) = false := decide_eq_false (fun e => d4 (e.symm.trans a1))
      rw [if_pos a1, y1, y2, a1, hr, dot_ix, w1, v3]; rfl
    · rw [if_neg a1]
      by_cases a2 : n = N
      · have y1 : decide (n = K) = false := decide_eq_false (fun e => d3 (e.symm.trans a2))
        have y2 : decide (n = T) = false := decide_eq_false (fun e => d5 (e.symm.trans a2))
        rw [if_pos a2, y1, y2, a2, hr, zn, dot_ix, w1, v3]; rfl
      · rw [if_neg a2]
        by_cases a3 : n = T
        · have y1 : decide (n = K) = false := decide_eq_false (fun e => d1 (e.symm.trans a3))
          have y2 : decide (n = T) = true := decide_eq_true a3
          rw [if_pos a3, y1, y2, a3, hk, zt, dot_ix, w1, v5]; rfl
        · rw [if_neg a3]
          by_cases a4 : n = K
          · have y1 : decide (n = K) = true := decide_eq_true a4
            rw [if_pos a4, y1, a4, hk, dot_ix, w1, v5]; rfl
          · rw [if_neg a4, decide_eq_false a4, decide_eq_false a3]; simp
  · rw [if_neg c5]
    have v5 : decide (((bg wh + 5 : Nat) : Int) = (p : Int)) = false := decide_eq_false (by omega)
    by_cases c3 : p = bg wh + 3
    · rw [if_pos c3, if_neg (by omega), xor_is]
      congr 1
      apply BitVec.eq_of_getLsbD_eq
      intro n hn
      have v3 : decide (((bg wh + 3 : Nat) : Int) = (p : Int)) = true := decide_eq_true (by omega)
      rw [bit n hn, BitVec.getLsbD_xor, BitVec.getLsbD_or, one_bit N k4 n hn, one_bit R k3 n hn, lay64 _ _ n hn]
      by_cases a1 : n = R
      · have y1 : decide (n = R) = true := decide_eq_true a1
        rw [if_pos a1, y1, a1, hr, dot_ix, w1, v3, Bool.or_true]; rfl
      · rw [if_neg a1]
        by_cases a2 : n = N
        · have y1 : decide (n = N) = true := decide_eq_true a2
          rw [if_pos a2, y1, a2, hr, zn, dot_ix, w1, v3]; rfl
        · have y1 : decide (n = R) = false := decide_eq_false a1
          have y2 : decide (n = N) = false := decide_eq_false a2
          rw [if_neg a2, y1, y2]
          by_cases a3 : n = T
          · rw [if_pos a3, a3, hk, zt, dot_ix, w1, v5]; rfl
          · rw [if_neg a3]
            by_cases a4 : n = K
            · rw [if_pos a4, a4, hk, dot_ix, w1, v5]; rfl
            · rw [if_neg a4]; simp
    · rw [if_neg c3, z0]
      have v3 : decide (((bg wh + 3 : Nat) : Int) = (p : Int)) = false := decide_eq_false (by omega)
      congr 1
      apply BitVec.eq_of_getLsbD_eq
      intro n hn
      have same : (layS z 64 p).getLsbD n = (layS (plZ z b (K, T, 0)) 64 p).getLsbD n := by
        rw [bit n hn, lay64 _ _ n hn]
        by_cases a1 : n = R
        · rw [if_pos a1, a1, hr, dot_ix, w1, v3]
        · rw [if_neg a1]
          by_cases a2 : n = N
          · rw [if_pos a2, a2, hr, zn, dot_ix, w1, v3]
          · rw [if_neg a2]
            by_cases a3 : n = T
            · rw [if_pos a3, a3, hk, zt, dot_ix, w1, v5]
            · rw [if_neg a3]
              by_cases a4 : n = K
              · rw [if_pos a4, a4, hk, dot_ix, w1, v5]
              · rw [if_neg a4]
      rw [← same]
      split
      · rw [BitVec.getLsbD_and, BitVec.getLsbD_not, one_bit T k2 n hn, lay64 _ _ n hn]
        by_cases a3 : n = T
        · rw [a3, zt, dot_ix, w1]; rfl
        · rw [decide_eq_false a3]; simp [hn]
      · rfl

end Go.Proofs.YtnfakamfmkhlbabGreatDoor.K

namespace Go.Proofs.YtnfakamfmkhlbabGreatDoor.K

open Go.Proofs.YtnfakamfmkhlbabGreatDoor.P Go.Proofs.YtnfakamfmkhlbabGreatDoor.C

set_option maxRecDepth 100000

set_option linter.unusedSimpArgs false

/-! the rights behind a move -/

theorem hit_bit (r i : Nat) : hit r (2 ^ i) = r.testBit i := by
  unfold hit
  show (!(Nat.beq (r &&& 2 ^ i) 0)) = _
  rw [beq_is]
  cases h : r.testBit i with
  | false =>
    have : r &&& 2 ^ i = 0 := by
      apply Nat.eq_of_testBit_eq
      intro j
      rw [Nat.testBit_and, Nat.testBit_two_pow, Nat.zero_testBit]
      by_cases e : i = j
      · subst e; rw [h]; rfl
      · rw [decide_eq_false e, Bool.and_false]
    rw [this]; rfl
  | true =>
    have : r &&& 2 ^ i ≠ 0 := fun e => by
      have := congrArg (·.testBit i) e
      simp [h] at this
    rw [decide_eq_false this]; rfl

theorem t0 : ∀ f, f < 64 → ∀ t, t < 64 → hit (Nat.lor (one f) (one t)) 144 = toA f t 0 := by decide +kernel

theorem t1 : ∀ f, f < 64 → ∀ t, t < 64 → hit (Nat.lor (one f) (one t)) 17 = toA f t 1 := by decide +kernel

theorem t2 : ∀ f, f < 64 → ∀ t, t < 64 → hit (Nat.lor (one f) (one t)) 10376293541461622784 = toA f t 2 := by decide +kernel

theorem t3 : ∀ f, f < 64 → ∀ t, t < 64 → hit (Nat.lor (one f) (one t)) 1224979098644774912 = toA f t 3 := by decide +kernel

theorem off_bit (r ft m c i : Nat) : (off r ft m c).testBit i = (r.testBit i && (!(hit ft m) || c.testBit i)) := by
  unfold off
  cases hit ft m
  · simp
  · show (r &&& c).testBit i = _
    rw [Nat.testBit_and]; simp

theorem rts_bit (r ft i : Nat) : (rts r ft).testBit i = (r.testBit i && (!(hit ft 144) || (14).testBit i) && (!(hit ft 17) || (13).testBit i) && (!(hit ft 10376293541461622784) || (11).testBit i) && (!(hit ft 1224979098644774912) || (7).testBit i)) := by
  unfold rts
  rw [beq_is]
  by_cases h : r = 0
  · rw [decide_eq_true h, h]
    simp [cond]
  · rw [decide_eq_false h]
    simp only [cond, sforce_eq]
    rw [off_bit, off_bit, off_bit, off_bit]

theorem rts_is {r : Nat} {fc : Nat → Bool} (h : Rts r fc) {f t : Nat} (hf : f < 64) (ht : t < 64) : Rts (rts r (Nat.lor (one f) (one t))) (cfA fc f t 4) := by
  have e0 : r.testBit 0 = fc 0 := (hit_bit r 0).symm.trans h.r0
  have e1 : r.testBit 1 = fc 1 := (hit_bit r 1).symm.trans h.r1
  have e2 : r.testBit 2 = fc 2 := (hit_bit r 2).symm.trans h.r2
  have e3 : r.testBit 3 = fc 3 := (hit_bit r 3).symm.trans h.r3
  have b0 := rts_bit r (Nat.lor (one f) (one t)) 0
  have b1 := rts_bit r (Nat.lor (one f) (one t)) 1
  have b2 := rts_bit r (Nat.lor (one f) (one t)) 2
  have b3 := rts_bit r (Nat.lor (one f) (one t)) 3
  rw [t0 f hf t ht, t1 f hf t ht, t2 f hf t ht, t3 f hf t ht] at b0 b1 b2 b3
  rw [e0] at b0
  rw [e1] at b1
  rw [e2] at b2
  rw [e3] at b3
  have c : ∀ k, k < 4 → cfA fc f t 4 k = (fc k && !(toA f t k)) := fun k hk => by
    unfold cfA
    rw [decide_eq_true hk, Bool.true_and]
  refine ⟨?_, ?_, ?_, ?_⟩
  · rw [c 0 (by omega), show (1 : Nat) = 2 ^ 0 from rfl, hit_bit, b0]
    cases fc 0 <;> cases toA f t 0 <;> cases toA f t 1 <;> cases toA f t 2 <;> cases toA f t 3 <;> decide
  · rw [c 1 (by omega), show (2 : Nat) = 2 ^ 1 from rfl, hit_bit, b1]
    cases fc 1 <;> cases toA f t 0 <;> cases toA f t 1 <;> cases toA f t 2 <;> cases toA f t 3 <;> decide
  · rw [c 2 (by omega), show (4 : Nat) = 2 ^ 2 from rfl, hit_bit, b2]
    cases fc 2 <;> cases toA f t 0 <;> cases toA f t 1 <;> cases toA f t 2 <;> cases toA f t 3 <;> decide
  · rw [c 3 (by omega), show (8 : Nat) = 2 ^ 3 from rfl, hit_bit, b3]
    cases fc 3 <;> cases toA f t 0 <;> cases toA f t 1 <;> cases toA f t 2 <;> cases toA f t 3 <;> decide

end Go.Proofs.YtnfakamfmkhlbabGreatDoor.K

namespace Go.Proofs.YtnfakamfmkhlbabGreatDoor.K

open Go.Proofs.YtnfakamfmkhlbabGreatDoor.P Go.Proofs.YtnfakamfmkhlbabGreatDoor.C

set_option maxRecDepth 100000

set_option linter.unusedSimpArgs false

/-! what lies behind a pawn's two steps -/

theorem two_w : ∀ f, f < 64 → ∀ t, t < 64 → (twoP f t = true → t = f + 16) → two 0 0 (one f) (one t) = (behB (if twoP f t then (((f + t) / 2 : Nat) : Int) else -1)).toNat := by decide +kernel

theorem two_b : ∀ f, f < 64 → ∀ t, t < 64 → (twoP f t = true → t + 16 = f) → two 6 0 (one f) (one t) = (behB (if twoP f t then (((f + t) / 2 : Nat) : Int) else -1)).toNat := by decide +kernel

theorem pawn_w : ∀ f, f < 64 → ∀ t, t < 64 → (wpB f).getLsbD t = true → twoP f t = false := by decide +kernel

theorem pawn_b : ∀ f, f < 64 → ∀ t, t < 64 → (bpB f).getLsbD t = true → twoP f t = false := by decide +kernel

theorem step_w : ∀ f, f < 64 → ∀ t, t < 64 → t = f + 8 → twoP f t = false := by decide +kernel

theorem step_b : ∀ f, f < 64 → ∀ t, t < 64 → t + 8 = f → twoP f t = false := by decide +kernel

theorem up_w : ∀ f, f < 64 → ∀ t, t < 64 → (upB (1#64 <<< f) (dirI true)).getLsbD t = true → t = f + 8 := by decide +kernel

theorem up_b : ∀ f, f < 64 → ∀ t, t < 64 → (upB (1#64 <<< f) (dirI false)).getLsbD t = true → t + 8 = f := by decide +kernel

theorem pawn_two {m : Nat → BitVec 64} {wh : Bool} {own oth beh : BitVec 64} {fc : Nat → Bool} {f t : Nat} (hf : f < 64) (ht : t < 64) (h : (targB m wh own oth beh fc 0 (kndN wh 0) f).getLsbD t = true) (h2 : twoP f t = true) : if wh then t = f + 16 else t + 16 = f := by
  unfold targB at h
  rw [if_pos rfl, BitVec.getLsbD_or, BitVec.getLsbD_and, Bool.or_eq_true, Bool.and_eq_true] at h
  rcases h with ⟨h, _⟩ | h
  · cases wh
    · rw [pawn_b f hf t ht h] at h2; cases h2
    · rw [pawn_w f hf t ht h] at h2; cases h2
  · unfold aheadB at h
    rw [BitVec.getLsbD_or, BitVec.getLsbD_and, Bool.or_eq_true, Bool.and_eq_true] at h
    rcases h with h | ⟨h, _⟩
    · unfold onceB at h
      rw [BitVec.getLsbD_and, Bool.and_eq_true] at h
      cases wh
      · rw [step_b f hf t ht (up_b f hf t ht h.1)] at h2; cases h2
      · rw [step_w f hf t ht (up_w f hf t ht h.1)] at h2; cases h2
    · cases wh
      · have e : upB (onceB false own oth f &&& thirdB false) (dirI false) = (onceB false own oth f &&& thirdB false) >>> 8 := rfl
        rw [e, BitVec.getLsbD_ushiftRight, BitVec.getLsbD_and, Bool.and_eq_true] at h
        have h3 := h.1
        unfold onceB at h3
        rw [BitVec.getLsbD_and, Bool.and_eq_true] at h3
        have hlt : 8 + t < 64 := by
          rcases Nat.lt_or_ge (8 + t) 64 with q | q
          · exact q
          · rw [BitVec.getLsbD_of_ge _ _ q] at h3; cases h3.1
        have := up_b f hf (8 + t) hlt h3.1
        simp; omega
      · have e : upB (onceB true own oth f &&& thirdB true) (dirI true) = (onceB true own oth f &&& thirdB true) <<< 8 := rfl
        rw [e, BitVec.getLsbD_shiftLeft, BitVec.getLsbD_and] at h
        simp only [Bool.and_eq_true, Bool.not_eq_true', decide_eq_true_eq, decide_eq_false_iff_not] at h
        have h3 := h.2.1
        unfold onceB at h3
        rw [BitVec.getLsbD_and, Bool.and_eq_true] at h3
        have := up_w f hf (t - 8) (by omega) h3.1
        simp; omega

theorem two_is {z : Nat → UInt8} {m : Nat → BitVec 64} {wh : Bool} {own oth beh : BitVec 64} {fc : Nat → Bool} {k f t : Nat} (hf : f < 64) (ht : t < 64) (hp : pawnB (z f) = decide (k = 0)) (h : (targB m wh own oth beh fc k (kndN wh k) f).getLsbD t = true) : two (bg wh) k (one f) (one t) = (behB (behA z f t)).toNat := by
  unfold behA
  rw [hp]
  by_cases e : k = 0
  · subst e
    rw [decide_eq_true rfl, Bool.true_and]
    have h2 := fun q => pawn_two hf ht h q
    cases wh
    · exact two_b f hf t ht (fun q => by simpa using h2 q)
    · exact two_w f hf t ht (fun q => by simpa using h2 q)
  · rw [decide_eq_false e, Bool.false_and]
    unfold two
    rw [beq_is, decide_eq_false e]
    rfl

/-- a king does not stay. -/
theorem king_goes {z : Nat → UInt8} {wh : Bool} {beh : BitVec 64} {fc : Nat → Bool} {f t : Nat} (hf : f ∈ sqs (layS z 64 (bg wh + 5))) (ht : t < 64) (h : (targB (layS z 64) wh (sideB (layS z 64) wh) (sideB (layS z 64) (!wh)) beh fc 5 (kndN wh 5) f).getLsbD t = true) : f ≠ t := by
  rintro rfl
  have h1 := (sqs_mem _ f).1 hf
  have own : (sideB (layS z 64) wh).getLsbD f = true := by
    unfold sideB
    rw [orB_bit_any]
    rw [List.any_eq_true]
    exact ⟨5, by decide, h1.2⟩
  unfold targB at h
  rw [if_neg (by omega), if_pos rfl, BitVec.getLsbD_or, BitVec.getLsbD_and, BitVec.getLsbD_not, own, casQ_bits _ _ _ _ _ ht] at h
  simp only [Bool.not_true, Bool.and_false, Bool.false_or] at h
  rw [List.any_eq_true] at h
  obtain ⟨i, hi, h2⟩ := h
  rw [Bool.and_eq_true, decide_eq_true_eq] at h2
  have hi4 : i < 4 := by simpa using hi
  obtain ⟨h3, h4⟩ := h2
  unfold casOk at h3
  simp only [Bool.and_eq_true, decide_eq_true_eq] at h3
  have h5 := congrArg (·.getLsbD f) h3.1.2
  simp only [BitVec.getLsbD_and, BitVec.getLsbD_or, BitVec.getLsbD_zero, own, Bool.true_or, Bool.true_and] at h5
  have : ∀ i, i < 4 → (casW i).getLsbD (casT i) = true := by decide +kernel
  rw [h4, this i hi4] at h5
  cases h5

end Go.Proofs.YtnfakamfmkhlbabGreatDoor.K

namespace Go.Proofs.YtnfakamfmkhlbabGreatDoor.K

open Go.Proofs.YtnfakamfmkhlbabGreatDoor.P Go.Proofs.YtnfakamfmkhlbabGreatDoor.C

set_option maxRecDepth 100000

set_option linter.unusedSimpArgs false

/-! both reckonings are one -/

theorem last_is : ∀ t, t < 64 → last (one t) = lastB.getLsbD t := by decide +kernel

theorem rook_no : ∀ f, f < 64 → ∀ t, t < 64 → t ≠ f + 2 → t + 2 ≠ f → rook 5 (one f) (one t) = 0 := by decide +kernel

theorem prom_ix : ∀ wh : Bool, ixc (trn (letr (bg wh + 0)) 113) = ((bg wh + 4 : Nat) : Int) ∧ ixc (trn (letr (bg wh + 0)) 114) = ((bg wh + 3 : Nat) : Int) ∧ ixc (trn (letr (bg wh + 0)) 98) = ((bg wh + 2 : Nat) : Int) ∧ ixc (trn (letr (bg wh + 0)) 110) = ((bg wh + 1 : Nat) : Int) := by decide +kernel

theorem xor_none (S n : Nat) : Nat.xor S (Nat.shiftLeft 0 n) = S := by
  show S ^^^ (0 <<< n) = S
  rw [Nat.zero_shiftLeft, Nat.xor_zero]

set_option maxHeartbeats 1000000 in
theorem perft_is : ∀ (d : Nat) {z : Nat → UInt8} {wh : Bool} {fc : Nat → Bool} {b h g : Int} {S r : Nat}, Ok z wh fc b h g → Rep S (layS z 64) → Rts r fc → perft d (bg wh) S r (behB b).toNat = pathsN d z wh fc b := by
  intro d
  induction d with
  | zero => intro z wh fc b h g S r _ _ _; rfl
  | succ d ih =>
    intro z wh fc b h g S r o hS hr
    have hC := o.good
    have h0 := o.b0
    have h1 := o.b1
    have hb := bg_two wh
    obtain ⟨y, hy⟩ : ∃ y, sqs (layS z 64 (bg wh + 5)) = [y] := List.length_eq_one_iff.1 ((kings_len z wh).trans (hC.k1 wh))
    have e6 : Nat.sub 6 (bg wh) = bg (!wh) := by cases wh <;> rfl
    show ply (fun S r beh => perft d (Nat.sub 6 (bg wh)) S r beh) (bg wh) S r (behB b).toNat = ((movS z wh fc b).map fun x => pathsN d (plZ z b x) (!wh) (cfA fc x.1 x.2.1 4) (behA z x.1 x.2.1)).sum
    rw [e6, ply_is _ hS wh hr (behB b) hy]
    have mem : ∀ {k f t : Nat} {u : UInt8}, k < 6 → f ∈ sqs (layS z 64 (bg wh + k)) → t ∈ sqs (targB (layS z 64) wh (sideB (layS z 64) wh) (sideB (layS z 64) (!wh)) (behB b) fc k (kndN wh k) f) → (f, t, u) ∈ toS (layS z 64) wh (behB b) k f t → (f, t, u) ∈ movS z wh fc b := fun hk hf ht hu => by
      unfold movS uptoS placeS fromS
      simp only [List.mem_flatMap, List.mem_range]
      exact ⟨_, hk, _, hf, _, ht, hu⟩
    generalize hF : (fun x : Mv => pathsN d (plZ z b x) (!wh) (cfA fc x.1 x.2.1 4) (behA z x.1 x.2.1)) = F
    unfold movS uptoS
    rw [sum_flat]
    refine congrArg List.sum (List.map_congr_left fun k hk => ?_)
    have hk6 : k < 6 := List.mem_range.1 hk
    unfold placeS
    rw [sum_flat]
    refine congrArg List.sum (List.map_congr_left fun f hf => ?_)
    unfold fromS
    rw [sum_flat]
    refine congrArg List.sum (List.map_congr_left fun t ht => ?_)
    obtain ⟨hf64, hfb⟩ := (sqs_mem _ f).1 hf
    obtain ⟨ht64, htb⟩ := (sqs_mem _ t).1 ht
    have hc : ixc (z f) = ((bg wh + k : Nat) : Int) := by
      rw [lay64 z _ f hf64, decide_eq_true_eq] at hfb
      exact hfb
    have hm := (targ_same hC h0 h1 hk6 hf64 ht64 hc).2 htb
    have hkf : k = 5 → f = y ∧ f ≠ t := fun e => by
      subst e
      refine ⟨?_, king_goes hf ht64 htb⟩
      rw [hy] at hf
      exact List.mem_singleton.1 hf
    have hpk := pk_is hk6 hc
    have htwo := two_is hf64 ht64 hpk.1 htb
    have hrt := rts_is hr hf64 ht64
    have hla := legal_att hS wh (behB b) hk6 ht64 hy hkf
    unfold oneM
    simp only [sforce_eq]
    rw [hla, htwo]
    have child : ∀ (u : UInt8) (S' : Nat), (f, t, u) ∈ toS (layS z 64) wh (behB b) k f t → Rep S' (layS (plZ z b (f, t, u)) 64) → perft d (bg (!wh)) S' (rts r (Nat.lor (one f) (one t))) (behB (behA z f t)).toNat = F (f, t, u) := fun u S' hu hR => by
      rw [← hF]
      exact ih (o.next (mem hk6 hf ht hu)) hR hrt
    unfold toS at child ⊢
    by_cases hl : legalB (layS z 64) wh (behB b) k f t = true
    · rw [if_pos hl] at child
      rw [if_pos hl, hl]
      simp only [Bool.not_true, cond]
      rw [beq_is, last_is t ht64]
      by_cases hp : k = 0 ∧ lastB.getLsbD t = true
      · obtain ⟨rfl, hlast⟩ := hp
        have ht4 : turnsB (decide (0 = 0)) f t = [(f, t, 113), (f, t, 114), (f, t, 98), (f, t, 110)] := by
          unfold turnsB
          rw [hlast]; rfl
        rw [ht4] at child ⊢
        rw [hlast]
        have pl : ∀ u : UInt8, (f, t, u) ∈ [(f, t, (113 : UInt8)), (f, t, 114), (f, t, 98), (f, t, 110)] → Plain z wh b 0 f t u (csN wh b 0 t) := fun u hu => by
          rcases classify hC hk6 hf64 ht64 hc hm (u := u) (by rw [ht4]; exact hu) with ⟨hP, _⟩ | ⟨ci, _, _, _, _, e⟩
          · exact hP
          · exact absurd e (by omega)
        have hz : z f = letr (bg wh + 0) := letr_of (by omega) hc
        obtain ⟨p1, p2, p3, p4⟩ := prom_ix wh
        rw [← hz] at p1 p2 p3 p4
        have c1 := child 113 _ (by simp) (rep_prom hS (pl 113 (by simp)) h0 h1 p1 (by omega) (by omega))
        have c2 := child 114 _ (by simp) (rep_prom hS (pl 114 (by simp)) h0 h1 p2 (by omega) (by omega))
        have c3 := child 98 _ (by simp) (rep_prom hS (pl 98 (by simp)) h0 h1 p3 (by omega) (by omega))
        have c4 := child 110 _ (by simp) (rep_prom hS (pl 110 (by simp)) h0 h1 p4 (by omega) (by omega))
        simp only [decide_true, Bool.and_self, cond]
        rw [c1, c2, c3, c4]
        simp only [List.map_cons, List.map_nil, List.sum_cons, List.sum_nil]
        show 0 + F (f, t, 113) + F (f, t, 114) + F (f, t, 98) + F (f, t, 110) = _
        omega
      · have hno : (decide (k = 0) && lastB.getLsbD t) = false := by
          rw [Bool.and_eq_false_iff, decide_eq_false_iff_not]
          by_cases q : k = 0
          · right
            cases e : lastB.getLsbD t with
            | false => rfl
            | true => exact absurd ⟨q, e⟩ hp
          · exact .inl q
        have ht1 : turnsB (decide (k = 0)) f t = [(f, t, 0)] := by
          unfold turnsB
          rw [hno]; rfl
        rw [hno]
        rw [ht1] at child ⊢
        simp only [cond, List.map_cons, List.map_nil, List.sum_cons, List.sum_nil]
        show 0 + _ = F (f, t, 0) + 0
        rw [Nat.zero_add, Nat.add_zero]
        refine child 0 _ (by simp) ?_
        rcases classify hC hk6 hf64 ht64 hc hm (u := 0) (by rw [ht1]; simp) with ⟨hP, kg⟩ | ⟨ci, hK', a1, a2, _, a4⟩
        · have hrk : rook k (one f) (one t) = 0 := by
            by_cases e : k = 5
            · subst e
              exact rook_no f hf64 t ht64 (kg rfl).1 (kg rfl).2
            · unfold rook
              rw [beq_is, decide_eq_false e]; rfl
          rw [hrk, xor_none]
          exact rep_plain hS hP kg h0 h1
        · subst a1 a2 a4
          exact rep_cas hS (behB b) hK'
    · have hl' : legalB (layS z 64) wh (behB b) k f t = false := by simpa using hl
      rw [if_neg hl, hl']
      rfl

end Go.Proofs.YtnfakamfmkhlbabGreatDoor.K

namespace Go.Proofs.YtnfakamfmkhlbabGreatDoor.K

open Go.Proofs.YtnfakamfmkhlbabGreatDoor.P Go.Proofs.YtnfakamfmkhlbabGreatDoor.C

set_option maxRecDepth 100000

/-! the numbers of a position that was read -/

def repOk (S r : Nat) (p : Pos) : Bool := posCan p && p.white && decide (p.behind = -1) && ((List.range 12).all fun q => Nat.beq (at64 S q) (layS (posZ p) 64 q).toNat) && (hit r 1 == fcN p.castle 0) && (hit r 2 == fcN p.castle 1) && (hit r 4 == fcN p.castle 2) && (hit r 8 == fcN p.castle 3)

theorem known_of {s : ByteArray} {S r : Nat} (h : (readS s).map (repOk S r) = some true) : ∃ p, readS s = some p ∧ posCan p = true ∧ ∀ d, pathsN d (posZ p) p.white (fcN p.castle) p.behind = perft d 0 S r 0 := by
  obtain ⟨p, hr, hp⟩ := Option.map_eq_some_iff.1 h
  unfold repOk at hp
  simp only [Bool.and_eq_true, decide_eq_true_eq, beq_iff_eq] at hp
  obtain ⟨⟨⟨⟨⟨⟨⟨hc, hw⟩, hb⟩, hS⟩, h0⟩, h1⟩, h2⟩, h3⟩ := hp
  refine ⟨p, hr, hc, fun d => ?_⟩
  have hR : Rep S (layS (posZ p) 64) := fun q hq => by
    rw [List.all_eq_true] at hS
    exact Nat.eq_of_beq_eq_true (hS q (List.mem_range.2 hq))
  have := perft_is d (Ok.of hr hc) hR ⟨h0, h1, h2, h3⟩
  rw [hw, hb] at this ⊢
  exact this.symm

theorem first_rep : (readS firstB).map (repOk 97032380768794308449441285979680596459474913353707286838394105995181839223187889142195312493370793615095293926859546551539363339406871270705411026206201340045547817539046129034720960955363239532833988542812301261310744151143284480 15) = some true := by decide +kernel

theorem first_3 : perft 3 0 97032380768794308449441285979680596459474913353707286838394105995181839223187889142195312493370793615095293926859546551539363339406871270705411026206201340045547817539046129034720960955363239532833988542812301261310744151143284480 15 0 = 8902 := by decide +kernel

end Go.Proofs.YtnfakamfmkhlbabGreatDoor.K

namespace Go.Proofs.YtnfakamfmkhlbabGreatDoor.K

open Go.Proofs.YtnfakamfmkhlbabGreatDoor.P Go.Proofs.YtnfakamfmkhlbabGreatDoor.C

set_option maxRecDepth 100000

/-! a ply, kind by kind -/

def plyk (k : Nat) (next : Nat → Nat → Nat → Nat) (b S r beh : Nat) : Nat :=
  sforce (Nat.sub 6 b) fun b' => sforce S fun S => force r fun r => sforce beh fun beh => sforce (side S b) fun own => sforce (side S b') fun oth => sforce (casN S (Nat.lor own oth) b b' r) fun cas => sforce (lg (at64 S (Nat.add b 5))) fun y =>
  cntK next S b b' r own oth beh cas y [k] 0

theorem ply_parts (next : Nat → Nat → Nat → Nat) (b S r beh : Nat) : ply next b S r beh = plyk 0 next b S r beh + plyk 1 next b S r beh + plyk 2 next b S r beh + plyk 3 next b S r beh + plyk 4 next b S r beh + plyk 5 next b S r beh := by
  unfold ply plyk
  simp only [sforce_eq, force_eq, cntK_sum, List.map_cons, List.map_nil, List.sum_cons, List.sum_nil]
  omega

def part (k d S r : Nat) : Nat := plyk k (fun S r beh => perft d 6 S r beh) 0 S r 0

theorem perft_parts (d S r : Nat) : perft (d + 1) 0 S r 0 = part 0 d S r + part 1 d S r + part 2 d S r + part 3 d S r + part 4 d S r + part 5 d S r := ply_parts _ 0 S r 0

end Go.Proofs.YtnfakamfmkhlbabGreatDoor.K
