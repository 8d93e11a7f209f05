import Derived.Test.YtnfakamfmkhlbaaGreatDoorEqp
namespace Go.Proofs.YtnfakamfmkhlbaaGreatDoor.C
open Go.ChangeShapes Go.WideShapes Go.ChangeAt Go.RowKit
open Go.Proofs.YtnfakamfmkhlbaaGreatDoor.P

theorem castOk_congr (z : Nat → UInt8) {f f' : Nat → Bool} (h : ∀ i, i < 4 → f i = f' i) : castOk z f = castOk z f' := by
  have e : ∀ f : Nat → Bool, castOk z f = (castN z f 0 && (castN z f 1 && (castN z f 2 && castN z f 3))) := fun f => by
    show ([0, 1, 2, 3] : List Nat).all (castN z f) = _
    simp [List.all_cons]
  rw [e, e]
  simp only [castN, castAt, h 0 (by omega), h 1 (by omega), h 2 (by omega), h 3 (by omega)]
theorem canS_congr (z : Nat → UInt8) (wh : Bool) {f f' : Nat → Bool} (b h g : Int) (k : ∀ i, i < 4 → f i = f' i) : canS z wh f b h g = canS z wh f' b h g := by
  unfold canS canM
  rw [castOk_congr z k]
theorem row_eq {z : Nat → UInt8} {wh : Bool} {f f' : Nat → Bool} {b h g : Int} {X Y : Array Value} (r : Row z wh f b h g X) (r2 : Row z wh f' b h g Y) (k : ∀ i, i < 4 → f i = f' i) : X = Y := by
  apply Array.ext_getElem?
  intro i
  by_cases h0 : i < 64
  · rw [r.sq i h0, r2.sq i h0]
  · by_cases h1 : i < 72
    · have : i = 64 ∨ i = 65 + 0 ∨ i = 65 + 1 ∨ i = 65 + 2 ∨ i = 65 + 3 ∨ i = 69 ∨ i = 70 ∨ i = 71 := by omega
      rcases this with rfl | rfl | rfl | rfl | rfl | rfl | rfl | rfl
      · rw [r.wh, r2.wh]
      · rw [r.c 0 (by omega), r2.c 0 (by omega), k 0 (by omega)]
      · rw [r.c 1 (by omega), r2.c 1 (by omega), k 1 (by omega)]
      · rw [r.c 2 (by omega), r2.c 2 (by omega), k 2 (by omega)]
      · rw [r.c 3 (by omega), r2.c 3 (by omega), k 3 (by omega)]
      · rw [r.b, r2.b]
      · rw [r.h, r2.h]
      · rw [r.g, r2.g]
    · rw [Array.getElem?_eq_none (by rw [r.size]; omega), Array.getElem?_eq_none (by rw [r2.size]; omega)]

/-- what was written is read again as it was. -/
theorem parse_written {B : List UInt8} (hB : B.length = 64) {wh : Bool} {f : Nat → Bool} {b h g : Int} {PA : Array Value} (r : Row (zB B) wh f b h g PA) (k : canS (zB B) wh f b h g = true) {e : Ending} (he : ParseEnd ⟨(writeS (zB B) wh f b h g).toArray⟩ e) : e = .returned (.tuple #[.agg PA, .int .i64 0]) := by
  obtain ⟨k0, k1, k2, k3⟩ := can_gives k
  have hall : B.all okL = true := by
    rw [List.all_eq_true]
    intro c hc
    obtain ⟨i, hi, rfl⟩ := List.getElem_of_mem hc
    have := k0 i (by omega)
    unfold zB at this
    rwa [List.getD_eq_getElem?_getD, List.getElem?_eq_getElem hi] at this
  obtain ⟨hn, rfl⟩ := Int.eq_ofNat_of_zero_le k2.1
  obtain ⟨gn, rfl⟩ := Int.eq_ofNat_of_zero_le (show 0 ≤ g by omega)
  obtain ⟨p, p1, p2, p3, c0, c1, c2, c3, p4, p5, p6⟩ := write_forth B hB hall wh f b k1 hn gn (by omega) (by omega) ⟨(writeS (zB B) wh f b hn gn).toArray⟩ rfl
  have hc : ∀ i, i < 4 → p.castle i = f i := fun i hi => by
    have : i = 0 ∨ i = 1 ∨ i = 2 ∨ i = 3 := by omega
    rcases this with rfl | rfl | rfl | rfl
    · exact c0
    · exact c1
    · exact c2
    · exact c3
  have hcan : posCan p = true := by
    unfold posCan
    rw [posZ_is p2, p3, p4, p5, p6, canS_congr _ _ _ _ _ hc]
    exact k
  have hrow : Row (zB B) wh p.castle b hn gn (posV p) := by
    have := row_read p1
    rwa [posZ_is p2, p3, p4, p5, p6] at this
  rcases he with ⟨q, q1, _, rfl⟩ | ⟨q, q1, q2, _⟩ | ⟨q1, _⟩
  · have : q = p := Option.some.inj (q1.symm.trans p1)
    rw [this, row_eq hrow r hc]
  · have : q = p := Option.some.inj (q1.symm.trans p1)
    rw [this, hcan] at q2; cases q2
  · rw [p1] at q1; cases q1

theorem row_ones {z : Nat → UInt8} {wh : Bool} {f : Nat → Bool} {b h g : Int} {PA : Array Value} (r : Row z wh f b h g PA) : PA.all (·.oneCell') = true := by
  obtain ⟨A, a1, a2, rfl⟩ := rowp_is r
  refine (posA_ones ⟨a1, ?_⟩ wh (f 0) (f 1) (f 2) (f 3) b h g).2
  rw [Array.all_eq_true]
  intro i hi
  have := a2 i (by omega)
  rw [Array.getElem?_eq_getElem hi] at this
  simp only [Option.some.injEq] at this
  rw [this]; rfl

theorem written_short {z : Nat → UInt8} {wh : Bool} {f : Nat → Bool} {b h g : Int} (k : canS z wh f b h g = true) : (⟨(writeS z wh f b h g).toArray⟩ : ByteArray).size < 4294967281 := by
  obtain ⟨_, _, k2, k3⟩ := can_gives k
  have h1 := wboardS_len z
  have h2 := wcastS_len f
  have h3 := wbehS_len b
  have h4 := itoa_len h k2.1 k2.2
  have h5 := itoa_len g (by omega) k3.2
  show (writeS z wh f b h g).toArray.size < _
  rw [List.size_toArray]
  unfold writeS
  rw [Lib.join_length]
  simp only [Lib.lens, List.length_cons, List.length_nil, List.map_cons, List.map_nil, List.sum_cons, List.sum_nil]
  omega

/-- what is read and can be is written as it was. -/
theorem format_read {s : ByteArray} {p : Pos} (h : readS s = some p) (k : posCan p = true) : formatS (posZ p) p.white p.castle p.behind p.half p.full = .tuple #[.string s, .int .i64 0] := by
  obtain ⟨B, b1, _, _, _, _, _, b7⟩ := read_back s p h
  have k' : canS (posZ p) p.white p.castle p.behind p.half p.full = true := k
  unfold formatS
  rw [if_pos k', posZ_is b1, b7]

def firstB : ByteArray := ⟨#[114, 110, 98, 113, 107, 98, 110, 114, 47, 112, 112, 112, 112, 112, 112, 112, 112, 47, 56, 47, 56, 47, 56, 47, 56, 47, 80, 80, 80, 80, 80, 80, 80, 80, 47, 82, 78, 66, 81, 75, 66, 78, 82, 32, 119, 32, 75, 81, 107, 113, 32, 45, 32, 48, 32, 49]⟩
set_option maxRecDepth 100000 in
theorem first_all : (readS firstB).map (fun p => (posCan p, posZ p 4, posZ p 52, p.white, p.behind, p.full)) = some (true, 75, 112, true, -1, 1) := by decide +kernel
theorem first_read : ∃ p, readS firstB = some p ∧ posCan p = true ∧ posZ p 4 = 75 ∧ posZ p 52 = 112 ∧ p.white = true ∧ p.behind = -1 ∧ p.full = 1 := by
  obtain ⟨p, h1, h2⟩ := Option.map_eq_some_iff.1 first_all
  simp only [Prod.mk.injEq] at h2
  exact ⟨p, h1, h2.1, h2.2.1, h2.2.2.1, h2.2.2.2.1, h2.2.2.2.2.1, h2.2.2.2.2.2⟩

end Go.Proofs.YtnfakamfmkhlbaaGreatDoor.C
