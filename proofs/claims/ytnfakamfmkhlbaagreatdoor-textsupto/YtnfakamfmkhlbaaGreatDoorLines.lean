import Derived.Test.YtnfakamfmkhlbaaGreatDoorBits
import Derived.OpenShut
import Derived.Laws.Bits128
namespace Go.Proofs.YtnfakamfmkhlbaaGreatDoor.P

def fileB (x : Nat) : BitVec 64 := 72340172838076673#64 <<< (x % 8)
def rankB (x : Nat) : BitVec 64 := 255#64 <<< (8 * (x / 8))
def risB (x : Nat) : BitVec 64 := if x / 8 < x % 8 then 9241421688590303745#64 >>> (8 * (x % 8 - x / 8)) else 9241421688590303745#64 <<< (8 * (x / 8 - x % 8))
def falB (x : Nat) : BitVec 64 := if x / 8 + x % 8 < 7 then 72624976668147840#64 >>> (8 * (7 - (x / 8 + x % 8))) else 72624976668147840#64 <<< (8 * (x / 8 + x % 8 - 7))
def wpB (x : Nat) : BitVec 64 := BitVec.ofInt 64 (reachI 1 x 0)
def bpB (x : Nat) : BitVec 64 := BitVec.ofInt 64 (reachI 2 x 0)
def knB (x : Nat) : BitVec 64 := BitVec.ofInt 64 (knightI (oneI x))
def kiB (x : Nat) : BitVec 64 := BitVec.ofInt 64 (kingI (oneI x))

theorem file_U : ∀ x, x < 64 → fileI ((x : Nat) : Int) = U (fileB x) := by decide +kernel
theorem rank_U : ∀ x, x < 64 → rankI ((x : Nat) : Int) = U (rankB x) := by decide +kernel
theorem ris_U : ∀ x, x < 64 → risI ((x : Nat) : Int) = U (risB x) := by decide +kernel
theorem fal_U : ∀ x, x < 64 → falI ((x : Nat) : Int) = U (falB x) := by decide +kernel
theorem wp_U : ∀ x, x < 64 → upI (orI (lftI (oneI ((x : Nat) : Int))) (rgtI (oneI ((x : Nat) : Int)))) 1 = U (wpB x) := by decide +kernel
theorem bp_U : ∀ x, x < 64 → upI (orI (lftI (oneI ((x : Nat) : Int))) (rgtI (oneI ((x : Nat) : Int)))) (-1) = U (bpB x) := by decide +kernel
theorem kn_U : ∀ x, x < 64 → knightI (oneI ((x : Nat) : Int)) = U (knB x) := by decide +kernel
theorem ki_U : ∀ x, x < 64 → kingI (oneI ((x : Nat) : Int)) = U (kiB x) := by decide +kernel

def straightB (x : Nat) (t : BitVec 64) : BitVec 64 := alongB (fileB x) x t ||| alongB (rankB x) x t
def slantB (x : Nat) (t : BitVec 64) : BitVec 64 := alongB (risB x) x t ||| alongB (falB x) x t

theorem straight_U (x : Nat) (hx : x < 64) (t : BitVec 64) : straightI (x : Int) (U t) = U (straightB x t) := by
  unfold straightI straightB orI
  rw [file_U x hx, rank_U x hx, along_U _ x hx, along_U _ x hx, or_U]
theorem slant_U (x : Nat) (hx : x < 64) (t : BitVec 64) : slantI (x : Int) (U t) = U (slantB x t) := by
  unfold slantI slantB orI
  rw [ris_U x hx, fal_U x hx, along_U _ x hx, along_U _ x hx, or_U]

def reachB (k x : Nat) (t : BitVec 64) : BitVec 64 :=
  if k = 1 then wpB x else if k = 2 then bpB x else if k = 3 then knB x else if k = 4 then slantB x t
  else if k = 5 then straightB x t else if k = 6 then slantB x t ||| straightB x t else if k = 7 then kiB x else 0#64

theorem reach_U (k x : Nat) (k0 : 1 ≤ k) (k1 : k ≤ 7) (hx : x < 64) (t : BitVec 64) : reachI (k : Int) (x : Int) (U t) = U (reachB k x t) := by
  have hk : k = 1 ∨ k = 2 ∨ k = 3 ∨ k = 4 ∨ k = 5 ∨ k = 6 ∨ k = 7 := by omega
  unfold reachI reachB
  rcases hk with rfl | rfl | rfl | rfl | rfl | rfl | rfl
  · exact wp_U x hx
  · exact bp_U x hx
  · exact kn_U x hx
  · exact slant_U x hx t
  · exact straight_U x hx t
  · show orI (slantI (x : Int) (U t)) (straightI (x : Int) (U t)) = U (slantB x t ||| straightB x t)
    rw [slant_U x hx, straight_U x hx]; exact or_U _ _
  · exact ki_U x hx

/-! who sees whom -/
theorem file_sym : ∀ x, x < 64 → ∀ y, y < 64 → (fileB x).getLsbD y = true → fileB y = fileB x := by decide +kernel
theorem rank_sym : ∀ x, x < 64 → ∀ y, y < 64 → (rankB x).getLsbD y = true → rankB y = rankB x := by decide +kernel
theorem ris_sym : ∀ x, x < 64 → ∀ y, y < 64 → (risB x).getLsbD y = true → risB y = risB x := by decide +kernel
theorem fal_sym : ∀ x, x < 64 → ∀ y, y < 64 → (falB x).getLsbD y = true → falB y = falB x := by decide +kernel
theorem file_own : ∀ x, x < 64 → (fileB x).getLsbD x = true := by decide +kernel
theorem rank_own : ∀ x, x < 64 → (rankB x).getLsbD x = true := by decide +kernel
theorem ris_own : ∀ x, x < 64 → (risB x).getLsbD x = true := by decide +kernel
theorem fal_own : ∀ x, x < 64 → (falB x).getLsbD x = true := by decide +kernel
theorem kn_sym : ∀ x, x < 64 → ∀ y, y < 64 → (knB x).getLsbD y = (knB y).getLsbD x := by decide +kernel
theorem ki_sym : ∀ x, x < 64 → ∀ y, y < 64 → (kiB x).getLsbD y = (kiB y).getLsbD x := by decide +kernel
theorem pawn_sym : ∀ x, x < 64 → ∀ y, y < 64 → (wpB x).getLsbD y = (bpB y).getLsbD x := by decide +kernel
theorem kn_own : ∀ x, x < 64 → (knB x).getLsbD x = false := by decide +kernel
theorem ki_own : ∀ x, x < 64 → (kiB x).getLsbD x = false := by decide +kernel

theorem along_sym1 (L : Nat → BitVec 64) (hs : ∀ x, x < 64 → ∀ y, y < 64 → (L x).getLsbD y = true → L y = L x) (ho : ∀ x, x < 64 → (L x).getLsbD x = true) (x y : Nat) (hx : x < 64) (hy : y < 64) (t : BitVec 64)
    (h : (alongB (L x) x t).getLsbD y = true) : (alongB (L y) y t).getLsbD x = true := by
  obtain ⟨h1, h2, h3⟩ := (along_bit _ x hx t y hy).mp h
  have e := hs x hx y hy h1
  rw [e]
  exact (along_bit _ y hy t x hx).mpr ⟨ho x hx, fun g => h2 g.symm, fun z hz => h3 z (by omega)⟩

theorem along_sym (L : Nat → BitVec 64) (hs : ∀ x, x < 64 → ∀ y, y < 64 → (L x).getLsbD y = true → L y = L x) (ho : ∀ x, x < 64 → (L x).getLsbD x = true) (x y : Nat) (hx : x < 64) (hy : y < 64) (t : BitVec 64) :
    (alongB (L x) x t).getLsbD y = (alongB (L y) y t).getLsbD x := by
  rw [Bool.eq_iff_iff]
  exact ⟨along_sym1 L hs ho x y hx hy t, along_sym1 L hs ho y x hy hx t⟩

theorem along_own (l : BitVec 64) (x : Nat) (hx : x < 64) (t : BitVec 64) : (alongB l x t).getLsbD x = false := by
  cases h : (alongB l x t).getLsbD x with
  | false => rfl
  | true => exact absurd rfl ((along_bit l x hx t x hx).mp h).2.1

theorem straight_sym (x y : Nat) (hx : x < 64) (hy : y < 64) (t : BitVec 64) : (straightB x t).getLsbD y = (straightB y t).getLsbD x := by
  unfold straightB
  rw [BitVec.getLsbD_or, BitVec.getLsbD_or, along_sym fileB file_sym file_own x y hx hy, along_sym rankB rank_sym rank_own x y hx hy]
theorem slant_sym (x y : Nat) (hx : x < 64) (hy : y < 64) (t : BitVec 64) : (slantB x t).getLsbD y = (slantB y t).getLsbD x := by
  unfold slantB
  rw [BitVec.getLsbD_or, BitVec.getLsbD_or, along_sym risB ris_sym ris_own x y hx hy, along_sym falB fal_sym fal_own x y hx hy]

theorem reach_sym (k x y : Nat) (k0 : 3 ≤ k) (k1 : k ≤ 7) (hx : x < 64) (hy : y < 64) (t : BitVec 64) : (reachB k x t).getLsbD y = (reachB k y t).getLsbD x := by
  have hk : k = 3 ∨ k = 4 ∨ k = 5 ∨ k = 6 ∨ k = 7 := by omega
  rcases hk with rfl | rfl | rfl | rfl | rfl
  · exact kn_sym x hx y hy
  · exact slant_sym x y hx hy t
  · exact straight_sym x y hx hy t
  · show (slantB x t ||| straightB x t).getLsbD y = (slantB y t ||| straightB y t).getLsbD x
    rw [BitVec.getLsbD_or, BitVec.getLsbD_or, slant_sym x y hx hy, straight_sym x y hx hy]
  · exact ki_sym x hx y hy

theorem reach_own (k x : Nat) (k0 : 3 ≤ k) (k1 : k ≤ 7) (hx : x < 64) (t : BitVec 64) : (reachB k x t).getLsbD x = false := by
  have hk : k = 3 ∨ k = 4 ∨ k = 5 ∨ k = 6 ∨ k = 7 := by omega
  rcases hk with rfl | rfl | rfl | rfl | rfl
  · exact kn_own x hx
  · show (alongB _ _ _ ||| alongB _ _ _).getLsbD x = false
    rw [BitVec.getLsbD_or, along_own _ x hx, along_own _ x hx]; rfl
  · show (alongB _ _ _ ||| alongB _ _ _).getLsbD x = false
    rw [BitVec.getLsbD_or, along_own _ x hx, along_own _ x hx]; rfl
  · show ((alongB _ _ _ ||| alongB _ _ _) ||| (alongB _ _ _ ||| alongB _ _ _)).getLsbD x = false
    rw [BitVec.getLsbD_or, BitVec.getLsbD_or, BitVec.getLsbD_or, along_own _ x hx, along_own _ x hx, along_own _ x hx, along_own _ x hx]; rfl
  · exact ki_own x hx

/-! more taken, less reached -/
theorem along_less (l : BitVec 64) (x : Nat) (hx : x < 64) (t u : BitVec 64) (h : ∀ z, t.getLsbD z = true → u.getLsbD z = true) (y : Nat) (hy : y < 64)
    (g : (alongB l x u).getLsbD y = true) : (alongB l x t).getLsbD y = true := by
  obtain ⟨h1, h2, h3⟩ := (along_bit _ x hx u y hy).mp g
  refine (along_bit _ x hx t y hy).mpr ⟨h1, h2, fun z hz hl => ?_⟩
  cases e : t.getLsbD z with
  | false => rfl
  | true => have := h3 z hz hl; rw [h z e] at this; exact absurd this (by decide)

theorem queen_less (x : Nat) (hx : x < 64) (t u : BitVec 64) (h : ∀ z, t.getLsbD z = true → u.getLsbD z = true) : reachB 6 x u &&& ~~~(reachB 6 x t) = 0#64 := by
  apply BitVec.eq_of_getLsbD_eq
  intro y hy
  have a1 := along_less (risB x) x hx t u h y hy
  have a2 := along_less (falB x) x hx t u h y hy
  have a3 := along_less (fileB x) x hx t u h y hy
  have a4 := along_less (rankB x) x hx t u h y hy
  show (((alongB (risB x) x u ||| alongB (falB x) x u) ||| (alongB (fileB x) x u ||| alongB (rankB x) x u)) &&& ~~~((alongB (risB x) x t ||| alongB (falB x) x t) ||| (alongB (fileB x) x t ||| alongB (rankB x) x t))).getLsbD y = _
  simp only [BitVec.getLsbD_and, BitVec.getLsbD_or, BitVec.getLsbD_not, hy, decide_true, Bool.true_and, BitVec.getLsbD_zero]
  generalize (alongB (risB x) x u).getLsbD y = b1 at a1 ⊢
  generalize (alongB (falB x) x u).getLsbD y = b2 at a2 ⊢
  generalize (alongB (fileB x) x u).getLsbD y = b3 at a3 ⊢
  generalize (alongB (rankB x) x u).getLsbD y = b4 at a4 ⊢
  generalize (alongB (risB x) x t).getLsbD y = c1 at a1 ⊢
  generalize (alongB (falB x) x t).getLsbD y = c2 at a2 ⊢
  generalize (alongB (fileB x) x t).getLsbD y = c3 at a3 ⊢
  generalize (alongB (rankB x) x t).getLsbD y = c4 at a4 ⊢
  revert a1 a2 a3 a4
  revert b1 b2 b3 b4 c1 c2 c3 c4
  decide

def lone (l : BitVec 64) (x y : Nat) : Bool := l.getLsbD y && (List.range 64).all fun z => !(decide (x < z ∧ z < y ∨ y < z ∧ z < x) && l.getLsbD z)
theorem lone_iff (l : BitVec 64) (x y : Nat) (h : lone l x y = true) : l.getLsbD y = true ∧ ∀ z, z < 64 → (x < z ∧ z < y ∨ y < z ∧ z < x) → l.getLsbD z = false := by
  unfold lone at h
  rw [Bool.and_eq_true, List.all_eq_true] at h
  refine ⟨h.1, fun z hz g => ?_⟩
  have := h.2 z (List.mem_range.mpr hz)
  simp only [g, decide_true, Bool.true_and, Bool.not_eq_true'] at this
  exact this
theorem king_near : ∀ x, x < 64 → ∀ y, y < 64 → (kiB x).getLsbD y = true → y ≠ x ∧ (lone (fileB x) x y || (lone (rankB x) x y || (lone (risB x) x y || lone (falB x) x y))) = true := by decide +kernel

theorem along_near (l : BitVec 64) (x : Nat) (hx : x < 64) (t : BitVec 64) (y : Nat) (hy : y < 64) (h1 : l.getLsbD y = true) (h2 : y ≠ x) (h3 : ∀ z, z < 64 → (x < z ∧ z < y ∨ y < z ∧ z < x) → l.getLsbD z = false) :
    (alongB l x t).getLsbD y = true :=
  (along_bit _ x hx t y hy).mpr ⟨h1, h2, fun z hz hl => by rw [h3 z (by omega) hz] at hl; exact absurd hl (by decide)⟩

theorem king_queen (x : Nat) (hx : x < 64) (t : BitVec 64) : reachB 7 x t &&& ~~~(reachB 6 x t) = 0#64 := by
  apply BitVec.eq_of_getLsbD_eq
  intro y hy
  show (kiB x &&& ~~~((alongB (risB x) x t ||| alongB (falB x) x t) ||| (alongB (fileB x) x t ||| alongB (rankB x) x t))).getLsbD y = _
  simp only [BitVec.getLsbD_and, BitVec.getLsbD_or, BitVec.getLsbD_not, hy, decide_true, Bool.true_and, BitVec.getLsbD_zero]
  cases h : (kiB x).getLsbD y with
  | false => rfl
  | true =>
    obtain ⟨h2, g⟩ := king_near x hx y hy h
    rw [Bool.or_eq_true, Bool.or_eq_true, Bool.or_eq_true] at g
    rcases g with g | g | g | g
    all_goals
      obtain ⟨a, b⟩ := lone_iff _ x y g
      rw [along_near _ x hx t y hy a h2 b]; simp

theorem queen_some : ∀ x, x < 64 → reachB 6 x 0#64 ≠ 0#64 := by decide +kernel
theorem rook_near : ∀ x, x < 64 → (reachB 5 x 0#64).getLsbD (x ^^^ 1) = true := by decide +kernel
theorem rook_far : ∀ x, x < 64 → (reachB 5 x 0#64).getLsbD (x ^^^ 9) = false := by decide +kernel

/-! is a square in a set -/
def onI (s y : Int) : Bool := bits .and .u64 (s / 2 ^ y.toNat) 1 == 1

theorem on_U (s : BitVec 64) (n : Nat) : onI (U s) (n : Int) = s.getLsbD n := by
  unfold onI
  have e : (2 : Int) ^ ((n : Int).toNat) = ((2 ^ n : Nat) : Int) := by simp
  have e1 : (1 : Int) = U 1#64 := by decide +kernel
  rw [e, shr_U]
  rw [show bits .and .u64 (U (s >>> n)) 1 = U (s >>> n &&& 1#64) from by rw [← and_U, ← e1]]
  have : (s >>> n &&& 1#64) = if s.getLsbD n then 1#64 else 0#64 := by
    apply BitVec.eq_of_getLsbD_eq
    intro i hi
    rw [BitVec.getLsbD_and, BitVec.getLsbD_ushiftRight]
    by_cases hz : i = 0
    · subst hz; rw [Nat.add_zero]; cases s.getLsbD n <;> simp
    · have : (1#64).getLsbD i = false := by rw [BitVec.getLsbD_one]; simp [hz]
      rw [this]; cases s.getLsbD n <;> simp [hz]
  rw [this]
  cases s.getLsbD n
  · decide +kernel
  · decide +kernel

theorem of_u64 (x : Int) (h : (Lit.int .u64 x).wf = true) : ∃ b : BitVec 64, x = U b := by
  have h' := bounds_u64 h
  exact ⟨BitVec.ofInt 64 x, (U_of x h'.1 (by omega)).symm⟩

theorem i64_and63 (n : Int) : bits .and .i64 n 63 = n % 64 := by
  have h63 : (BitVec.ofInt 64 63).toNat = 2 ^ 6 - 1 := by decide
  have key : (BitVec.ofInt 64 n &&& BitVec.ofInt 64 63).toNat = (n % ((2 ^ 64 : Nat) : Int)).toNat % 2 ^ 6 := by
    rw [BitVec.toNat_and, BitVec.toNat_ofInt, h63, Nat.and_two_pow_sub_one_eq_mod]
  show IntKind.i64.wrap ((BitVec.ofInt 64 n &&& BitVec.ofInt 64 63).toNat : Nat) = n % 64
  rw [key, IntKind.wrap_i64]
  omega

theorem low_six (n : Int) : ∃ x : Nat, x < 64 ∧ bits .and .i64 n 63 = (x : Int) := by
  refine ⟨(n % 64).toNat, by omega, ?_⟩
  rw [i64_and63]; omega

theorem xor_1 : ∀ x, x < 64 → bits .xor .i64 ((x : Nat) : Int) 1 = ((x ^^^ 1 : Nat) : Int) := by decide +kernel
theorem xor_9 : ∀ x, x < 64 → bits .xor .i64 ((x : Nat) : Int) 9 = ((x ^^^ 9 : Nat) : Int) := by decide +kernel
theorem xor_1_lt : ∀ x, x < 64 → x ^^^ 1 < 64 := by decide +kernel
theorem xor_9_lt : ∀ x, x < 64 → x ^^^ 9 < 64 := by decide +kernel
theorem U_zero : (0 : Int) = U 0#64 := by decide +kernel

end Go.Proofs.YtnfakamfmkhlbaaGreatDoor.P
