import Derived.Test.YtnfakamfmkhlbabDoorMw7
namespace Go.Proofs.YtnfakamfmkhlbabDoor.C
open Go.ChangeShapes Go.WideShapes Go.ChangeAt Go.RowKit Go.Shelf
open Go.Proofs.YtnfakamfmkhlbabDoor.P

/-! the reference's words -/
theorem dbl_bit : ∀ j, j < 63 → IntKind.u64.wrap ((2 : Int) * U (1#64 <<< j)) = U (1#64 <<< (j + 1)) := by decide +kernel
set_option maxRecDepth 10000 in
theorem bit_any (n : Nat) (hn : n < 64) (w : World) : Calls Tryd.prog 23 #[.int .i64 (n : Int)] w fun e w' => e = .returned (.int .u64 (U (1#64 <<< n))) ∧ w' = w := by
  have h1 : (1 : Int) = U (1#64 <<< 0) := by decide +kernel
  go_enter Tryd.func23, Tryd.ntmps23
  go_wp2
  go_loopg [0, 3] n (fun g a v wr => ∃ j : Nat, j + g = n ∧ a = .int .i64 ((n : Int) - (j : Int)) ∧ v = .int .u64 (U (1#64 <<< j)) ∧ wr = w)
  case atStart => exact ⟨0, by omega, by simp, by rw [← h1], rfl⟩
  case round =>
    clear h1
    obtain ⟨j, j1, rfl, rfl, rfl⟩ := hrel
    by_cases hlt : j < n
    · have hd := dbl_bit j (by omega)
      go_wp2
      go_roundg (gk - 1)
      case measure => omega
      case rel => exact ⟨j + 1, by omega, by congr 1; omega, rfl, rfl⟩
    · have ej : j = n := by omega
      subst ej
      go_wp2
      go_ret
      exact ⟨rfl, rfl⟩

theorem tq (x : BitVec 64) (c : Int) (hc : 0 < c) : IntKind.u64.wrap ((U x).tdiv c) = U x / c := by
  rw [Int.tdiv_eq_ediv_of_nonneg (U_nonneg x), IntKind.wrap_u64]
  have h1 : 0 ≤ U x / c := Int.ediv_nonneg (U_nonneg x) (by omega)
  have h2 : U x / c ≤ U x := Int.ediv_le_self c (U_nonneg x)
  have h3 := U_lt x
  generalize U x / c = q at h1 h2
  omega
def mixRI (x : Int) : Int :=
  let a := IntKind.u64.wrap (bits .xor .u64 x (IntKind.u64.wrap (x.tdiv 1073741824)) * 13787848793156543929)
  let b := IntKind.u64.wrap (bits .xor .u64 a (IntKind.u64.wrap (a.tdiv 134217728)) * 10723151780598845931)
  bits .xor .u64 b (IntKind.u64.wrap (b.tdiv 2147483648))
theorem mixR_U (x : BitVec 64) : mixRI (U x) = U (mixB x) := by
  unfold mixRI mixB
  simp only
  rw [tq _ _ (by decide), shr30, xor_U, cB, mul_U, tq _ _ (by decide), shr27, xor_U, cC, mul_U, tq _ _ (by decide), shr31, xor_U]
theorem mixed_any (x : BitVec 64) (w : World) : Calls Tryd.prog 29 #[.int .u64 (U x)] w fun e w' => e = .returned (.int .u64 (U (mixB x))) ∧ w' = w := by
  rw [← mixR_U]
  generalize U x = y
  go_enter Tryd.func29, Tryd.ntmps29
  go_wp2
  go_ret
  exact ⟨ret_int (a := mixRI y) rfl, rfl⟩
theorem generated_any (s n : BitVec 64) (w : World) : Calls Tryd.prog 18 #[.int .u64 (U s), .int .u64 (U n)] w fun e w' => e = .returned (.int .u64 (U (numB s n))) ∧ w' = w := by
  have e1 : IntKind.u64.wrap (U n * 11400714819323198485) = U (n * 11400714819323198485#64) := by rw [cA]; exact mul_U _ _
  have e2 : IntKind.u64.wrap (U s + U (n * 11400714819323198485#64)) = U (s + n * 11400714819323198485#64) := add_U _ _
  go_enter Tryd.func18, Tryd.ntmps18
  go_wp2_with (go_at_call 29; refine (mixed_any _ _).mono ?_; rintro e w' ⟨rfl, rfl⟩)
  go_ret
  exact ⟨rfl, rfl⟩

/-! the lines -/
theorem ray_in {df dr : Int} {n : Nat} {f r : Int} (hn : 0 < n) (h : 0 ≤ f ∧ f < 8 ∧ 0 ≤ r ∧ r < 8) : ray df dr n f r = (8 * r + f).toNat :: ray df dr (n - 1) (f + df) (r + dr) := by
  cases n with
  | zero => omega
  | succ n => rw [Nat.add_sub_cancel]; show (if 0 ≤ f ∧ f < 8 ∧ 0 ≤ r ∧ r < 8 then (8 * r + f).toNat :: ray df dr n (f + df) (r + dr) else []) = _; rw [if_pos h]
theorem ray_out {df dr : Int} {n : Nat} {f r : Int} (h : ¬ (0 ≤ f ∧ f < 8 ∧ 0 ≤ r ∧ r < 8)) : ray df dr n f r = [] := by
  cases n with
  | zero => rfl
  | succ n => unfold ray; rw [if_neg h]
def ints (l : List Nat) : List Value := l.map fun (y : Nat) => Value.int .i64 (y : Int)
/-- a slice of squares of one's own -/
def Sq (b : Nat) (v : Value) (l : List Nat) (w : World) : Prop := w.ownsRow b 3 1 v l.length (ints l)
theorem infoI : (Tryd.prog.info? 3).map (fun i => (i.zero, i.size, i.bytes)) = some (some (.int .i64 0), 1, 8) := by kernel_rfl
/-- d lines are done; line d is under way: its row lies at N or above, the others' below. -/
structure Li (w : World) (k x b1 N d : Nat) (A : Array Value) (v : Value) (pre : List Nat) (wr : World) : Prop where
  out : wr.heap[b1]? = some (.cells (A.setIfInBounds d v) 52 (0, 0))
  size : A.size = 4
  own : Sq N v pre wr
  gr : Gr w wr
  old : ∀ i, i < d → ∃ u, A[i]? = some u ∧ Sq w.heap.size u (lnR k x i) wr ∧ ∀ j, u.ownBlock = some j → j < N
  res : ∃ Z, wr.heap[w.heap.size]? = some (.cells Z 52 (0, 0)) ∧ Z.size = 4
  lo : w.heap.size < b1
  hi : b1 < N
  le : N ≤ wr.heap.size
theorem Li.cell {w wr : World} {k x b1 N d : Nat} {A : Array Value} {v : Value} {pre : List Nat} (h : Li w k x b1 N d A v pre wr) (hd : d < 4) : wr.cell? ⟨b1, d, none⟩ = some v ∧ wr.frozen? ⟨b1, d, none⟩ = false := by
  constructor
  · simp only [World.cell?]
    rw [h.out]
    show (A.setIfInBounds d v)[d]? = some v
    rw [Array.getElem?_setIfInBounds, if_pos rfl, if_pos (by rw [h.size]; exact hd)]
  · simp only [World.frozen?]
    rw [h.out]
    simp
theorem Li.cell2 {w wr : World} {k x b1 N d : Nat} {A : Array Value} {v : Value} {pre : List Nat} (h : Li w k x b1 N d A v pre wr) (hd : d < 4) : ∀ (o : Obj) (w2 : World), (wr.alloc o).grownBy w2 v.ownBlock → w2.cell? ⟨b1, d, none⟩ = some v ∧ w2.frozen? ⟨b1, d, none⟩ = false := fun o w2 hg => by
  have e : w2.heap[b1]? = wr.heap[b1]? := by
    rw [hg.block b1 (by rw [World.size_alloc]; have := h.hi; have := h.le; omega) (fun e => by have := (h.own.lt b1 e.symm).1; have := h.hi; omega)]
    exact blk_old wr o b1 (by have := h.hi; have := h.le; omega)
  exact ⟨(World.cell?_of_block e).trans (h.cell hd).1, (World.frozen?_of_block e).trans (h.cell hd).2⟩
theorem Li.step {w wr w2 : World} {k x b1 N d y : Nat} {A : Array Value} {v v' : Value} {pre : List Nat} {o : Obj} (h : Li w k x b1 N d A v pre wr)
    (hown : w2.ownsRow N 3 1 v' (pre.length + 1) (ints pre ++ [.int .i64 (y : Int)])) (hg : (wr.alloc o).grownBy w2 v.ownBlock) : Li w k x b1 N d A v' (pre ++ [y]) (w2.setCell ⟨b1, d, none⟩ v') := by
  have hrow : ∀ j, v.ownBlock = some j → N ≤ j := fun j e => (h.own.lt j e).1
  have hlow : ∀ j, j < N → w2.heap[j]? = wr.heap[j]? := fun j hj => by
    have hl := h.le
    rw [hg.block j (by rw [World.size_alloc]; omega) (fun e => by have := hrow j e.symm; omega)]
    exact blk_old wr o j (by omega)
  have hsz : wr.heap.size ≤ w2.heap.size := by have := hg.size; rw [World.size_alloc] at this; omega
  refine ⟨?_, h.size, ?_, ?_, fun i hi => ?_, ?_, h.lo, h.hi, by rw [World.size_setCell]; have := h.le; omega⟩
  · have hb : w2.heap[b1]? = some (.cells (A.setIfInBounds d v) 52 (0, 0)) := by rw [hlow b1 h.hi]; exact h.out
    obtain ⟨hlt, hk⟩ := Array.getElem?_eq_some_iff.1 hb
    show (w2.heap.modify b1 _)[b1]? = _
    rw [Array.getElem?_eq_getElem (by rw [Array.size_modify]; exact hlt), Array.getElem_modify_self, hk]
    simp
  · unfold Sq ints
    rw [List.map_append, List.length_append]
    exact ownsRow_setCell_below hown h.hi v'
  · have b1' : Below w.heap.size wr (wr.alloc o) := (Below.refl _ wr).alloc (by have := h.lo; have := h.hi; have := h.le; omega) o
    exact Below.trans h.gr ((b1'.grown hg (by rw [World.size_alloc]; have := h.lo; have := h.hi; have := h.le; omega) (fun j e => by have := hrow j e; have := h.lo; have := h.hi; omega)).setCell (p := ⟨b1, d, none⟩) (Nat.le_of_lt h.lo) v')
  · obtain ⟨u, u1, u2, u3⟩ := h.old i hi
    refine ⟨u, u1, ?_, u3⟩
    have k1 : Sq w.heap.size u (lnR k x i) (wr.alloc o) := u2.alloc o
    have hne : u.ownBlock = none ∨ u.ownBlock ≠ v.ownBlock := by
      cases hu : u.ownBlock with
      | none => exact .inl rfl
      | some j => exact .inr (fun e => by have a1 := u3 j hu; have a2 := hrow j e.symm; omega)
    have k2 : Sq w.heap.size u (lnR k x i) w2 := World.ownsRow.kept k1 hg hne
    refine ownsRow_setCell_other k2 (fun e => ?_) v'
    rcases u2.2 with ⟨rfl, _⟩ | ⟨g, cap, cur, rfl, _, hgb, _⟩
    · simp [Value.ownBlock] at e
    · obtain rfl : g = b1 := by simpa [Value.ownBlock] using e
      rw [h.out] at hgb
      simp at hgb
  · obtain ⟨Z, z1, z2⟩ := h.res
    refine ⟨Z, ?_, z2⟩
    rw [Below.heap_setCell w2 ⟨b1, d, none⟩ v' w.heap.size (Nat.ne_of_lt h.lo), hlow _ (by have := h.lo; have := h.hi; omega)]
    exact z1

end Go.Proofs.YtnfakamfmkhlbabDoor.C
