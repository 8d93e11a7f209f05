import Derived.Test.YtnfakamfmkhlbabDoorMr2
namespace Go.Proofs.YtnfakamfmkhlbabDoor.C
open Go.ChangeShapes Go.WideShapes Go.ChangeAt Go.RowKit Go.Shelf
open Go.Proofs.YtnfakamfmkhlbabDoor.P

theorem Sq.form {b : Nat} {v : Value} {l : List Nat} {W : World} (h : Sq b v l W) : ∃ a cap, v = .slice a l.length cap ∧ (0 < l.length → ∃ g, a = some ⟨g, 0, none⟩ ∧ l.length ≤ cap ∧ ∀ (j : Nat) (hj : j < l.length), W.cell? ⟨g, j, none⟩ = some (.int .i64 (l[j] : Int))) := by
  rcases h.2 with ⟨e, h0⟩ | ⟨g, cap, cur, e, h1, h2, h3, h4⟩
  · exact ⟨none, 0, by rw [e, h0], fun hp => by omega⟩
  · refine ⟨some ⟨g, 0, none⟩, cap, e, fun _ => ⟨g, rfl, h3, fun j hj => ?_⟩⟩
    subst e
    have h' : W.ownsRow b 3 1 (.slice (some ⟨g, 0, none⟩) l.length cap) l.length (ints l) := h
    rw [h'.cellAt j (by omega)]
    unfold ints
    rw [List.getElem?_map, List.getElem?_eq_getElem hj]; rfl
/-- the four lines lie there, a list of squares grows beside them. -/
structure Mq (w : World) (k x bL N : Nat) (A : Array Value) (v : Value) (acc : List Nat) (wr : World) : Prop where
  box : wr.heap[bL]? = some (.cells A 52 (0, 0))
  ln : ∀ i, i < 4 → ∃ u, A[i]? = some u ∧ Sq w.heap.size u (lnR k x i) wr ∧ ∀ j, u.ownBlock = some j → j < N
  own : Sq N v acc wr
  gr : Gr w wr
  lo : w.heap.size ≤ bL
  hi : bL < N
  le : N ≤ wr.heap.size
theorem Mq.cell {w wr : World} {k x bL N d : Nat} {A : Array Value} {v u : Value} {acc : List Nat} (h : Mq w k x bL N A v acc wr) (hu : A[d]? = some u) : wr.cell? ⟨bL, d, none⟩ = some u := by
  simp only [World.cell?]
  rw [h.box]
  exact hu
theorem Mq.step {w wr w2 : World} {k x bL N y : Nat} {A : Array Value} {v v' : Value} {acc : List Nat} {o : Obj} (h : Mq w k x bL N A v acc wr)
    (hown : w2.ownsRow N 3 1 v' (acc.length + 1) (ints acc ++ [.int .i64 (y : Int)])) (hg : (wr.alloc o).grownBy w2 v.ownBlock) : Mq w k x bL N A v' (acc ++ [y]) w2 := by
  have hrow : ∀ j, v.ownBlock = some j → N ≤ j := fun j e => (h.own.lt j e).1
  have hl := h.le
  have hh := h.hi
  have hlo := h.lo
  have hlow : ∀ j, j < N → w2.heap[j]? = wr.heap[j]? := fun j hj => by
    rw [hg.block j (by rw [World.size_alloc]; omega) (fun e => by have := hrow j e.symm; omega)]
    exact blk_old wr o j (by omega)
  have hsz : wr.heap.size ≤ w2.heap.size := by have := hg.size; rw [World.size_alloc] at this; omega
  refine ⟨by rw [hlow bL hh]; exact h.box, fun i hi => ?_, ?_, ?_, hlo, hh, by omega⟩
  · obtain ⟨u, u1, u2, u3⟩ := h.ln i hi
    refine ⟨u, u1, World.ownsRow.kept (World.ownsRow.alloc u2 o) hg ?_, u3⟩
    cases hu : u.ownBlock with
    | none => exact .inl rfl
    | some j => exact .inr (fun e => by have a1 := u3 j hu; have a2 := hrow j e.symm; omega)
  · unfold Sq ints
    rw [List.map_append, List.length_append]
    exact hown
  · have b1 : Below w.heap.size wr (wr.alloc o) := (Below.refl _ wr).alloc (by omega) o
    exact Below.trans h.gr (b1.grown hg (by rw [World.size_alloc]; omega) (fun j e => by have := hrow j e; omega))
theorem lines_ones {w w' : World} {k x : Nat} {A : Array Value} (hs : A.size = 4) (h : ∀ i, i < 4 → ∃ u, A[i]? = some u ∧ Sq w.heap.size u (lnR k x i) w') : A.all (·.oneCell') = true := by
  rw [Array.all_eq_true]
  intro i hi
  obtain ⟨u, u1, u2⟩ := h i (by omega)
  have : A[i] = u := by rw [Array.getElem?_eq_getElem hi] at u1; exact Option.some.inj u1
  rw [this]
  rcases u2.2 with ⟨rfl, _⟩ | ⟨g, cap, cur, rfl, _⟩ <;> rfl
theorem Gr.alloc' {a b : World} (h : Gr a b) (o : Obj) : Gr a (b.alloc o) := Below.trans h ((Below.refl _ b).alloc (Below.size h) o)
def mtrP (k x : Nat) : Nat → List Nat
  | 0 => []
  | d + 1 => mtrP k x d ++ (lnR k x d).dropLast
theorem mtrP_4 (k x : Nat) : mtrP k x 4 = mtrR k x := by
  simp [mtrP, mtrR, List.append_assoc]
theorem mtrP_le (k x : Nat) (hk : k = 4 ∨ k = 5) (hx : x < 64) : ∀ d, d ≤ 4 → (mtrP k x d).length ≤ 7 * d
  | 0, _ => Nat.le_refl _
  | d + 1, h => by
      have h1 := mtrP_le k x hk hx d (by omega)
      have h2 := len_ok k x d hk hx (by omega)
      show (mtrP k x d ++ (lnR k x d).dropLast).length ≤ _
      rw [List.length_append, List.length_dropLast]
      omega

set_option maxRecDepth 100000 in
set_option maxHeartbeats 8000000 in
theorem matterR_any (k x : Nat) (hk : k = 4 ∨ k = 5) (hx : x < 64) (w : World) : Calls Tryd.prog 17 #[.int .i64 (k : Int), .int .i64 (x : Int)] w fun e w' => ∃ v, e = .returned v ∧ Sq w.heap.size v (mtrR k x) w' ∧ Gr w w' := by
  obtain ⟨i0, hi, hz0, hz1, hz2⟩ := info_parts infoI
  have hi' := hide hi
  clear hi
  have hln := hide (lines_any k x hk hx w)
  go_enter Tryd.func17, Tryd.ntmps17
  go_upto_region 3 with (first
    | (go_at_call 22; refine (unhide hln).mono ?_; rintro e w1 ⟨A, rfl, hsz, hA, hg1⟩)
    | (refine wpList_store_row rfl 52 _ _ rfl w1.heap.size A rfl rfl 52 _ (World.alloc_heap_new w1 _) (by rw [hsz]; exact info4) (by rw [hsz]; rfl) (lines_ones hsz hA) ?_))
  have hM0 : Mq w k x w1.heap.size (w1.heap.size + 1) A (.slice none 0 0) (mtrP k x 0) ((w1.alloc (.cells #[.slice none 0 0, .slice none 0 0, .slice none 0 0, .slice none 0 0] 52)).setRow w1.heap.size A) := by
    have hs1 := Below.size hg1
    refine ⟨setRow_heap _ _ _ _ _ _ (World.alloc_heap_new w1 _), fun i hi => ?_, World.ownsRow_nil _ _ _ _, (hg1.alloc' _).setRow _ hs1 _, hs1, Nat.lt_succ_self _, by show _ ≤ ((w1.alloc _).heap.modify _ _).size; rw [Array.size_modify, World.size_alloc]; omega⟩
    obtain ⟨u, u1, u2⟩ := hA i hi
    exact ⟨u, u1, sq_setRow (World.ownsRow.alloc u2 _) (World.alloc_heap_new w1 _), fun j e => Nat.lt_succ_of_lt (u2.lt j e).2⟩
  have hM0' := hide hM0
  clear hM0 hA hln hg1
  generalize (w1.alloc (.cells #[.slice none 0 0, .slice none 0 0, .slice none 0 0, .slice none 0 0] 52)).setRow w1.heap.size A = w2 at hM0' ⊢
  generalize w1.heap.size + 1 = N at hM0'
  generalize w1.heap.size = bL at hM0' ⊢
  go_wp2_with fail
  go_loopg [5, 7] 4 (fun g v i wr => ∃ d : Nat, d + g = 4 ∧ i = .int .i64 (d : Int) ∧ Mq w k x bL N A v (mtrP k x d) wr)
  case atStart => exact ⟨0, by omega, rfl, unhide hM0'⟩
  case round =>
    clear hM0'
    obtain ⟨d, d1, rfl, hM⟩ := hrel
    by_cases hlt : d < 4
    · obtain ⟨u, u1, u2, _⟩ := hM.ln d hlt
      obtain ⟨a, cap, rfl, _⟩ := u2.form
      have hc := hM.cell u1
      have hl7 := len_ok k x d hk hx hlt
      have hmp := mtrP_le k x hk hx d (by omega)
      have hM' := hide hM
      have hu1 := hide u1
      clear hM u1 u2
      go_wp2_with fail
      have hdt : decide ((d : Int) < 4) = true := decide_eq_true (by omega)
      simp only [hdt]
      clear hdt
      go_loopg [5, 8] ((lnR k x d).length - 1) (fun g v i wr2 => ∃ j : Nat, j + g = (lnR k x d).length - 1 ∧ i = .int .i64 (j : Int) ∧ Mq w k x bL N A v (mtrP k x d ++ (lnR k x d).take j) wr2)
      case atStart => exact ⟨0, by omega, rfl, by simpa using unhide hM'⟩
      case round =>
        clear hM' hc
        obtain ⟨j, j1, rfl, hM⟩ := hrel
        have hc := hM.cell (unhide hu1)
        by_cases hj : j + 1 < (lnR k x d).length
        · obtain ⟨u, v1, v2, _⟩ := hM.ln d hlt
          obtain rfl : u = .slice a (lnR k x d).length cap := Option.some.inj (v1.symm.trans (unhide hu1))
          obtain ⟨a2, cap2, e2, hf⟩ := v2.form
          obtain ⟨g, hag, hgc, hcells⟩ := hf (by omega)
          simp only [Value.slice.injEq, true_and] at e2
          obtain ⟨rfl, rfl⟩ := e2
          subst hag
          have hcj := hcells j (by omega)
          have htk : (lnR k x d).take (j + 1) = (lnR k x d).take j ++ [(lnR k x d)[j]] := List.take_succ_eq_append_getElem (by omega)
          have htk' := hide htk
          have hM' := hide hM
          have hN := hM.le
          have hla : (mtrP k x d ++ (lnR k x d).take j).length ≤ 40 := by rw [List.length_append, List.length_take]; omega
          clear hM v1 v2 hf hcells htk
          generalize (lnR k x d)[j] = y at hcj htk'
          go_wp2_with (at_builtin; refine wpList_append_own _ rfl (.tmp 25) (.tmp 32) 43 rfl N 3 i0 (.int .i64 0) 1 8 Tryd.underlying43 (unhide hi') hz0 hz1 hz2 rfl (by decide) u5 (mtrP k x d ++ (lnR k x d).take j).length (ints (mtrP k x d ++ (lnR k x d).take j)) rfl ((unhide hM').own.alloc _) ⟨wr.heap.size, 0, none⟩ 1 1 [.int .i64 (y : Int)] rfl rfl (cell_one_new _ _ _) (by simp [Value.oneCell']) (by unfold maxLen; omega) (by omega) (by simp; omega) ?_; intro v' w3 hown' hgrow _)
          go_roundg (gk - 1)
          case measure => omega
          case rel => exact ⟨j + 1, by omega, rfl, by rw [unhide htk', ← List.append_assoc]; exact Mq.step (unhide hM') hown' hgrow⟩
        · have hend : mtrP k x d ++ (lnR k x d).take j = mtrP k x (d + 1) := by
            show _ = mtrP k x d ++ (lnR k x d).dropLast
            rw [List.dropLast_eq_take, show j = (lnR k x d).length - 1 from by omega]
          rw [hend] at hM
          have hM' := hide hM
          clear hM hend
          go_wp2_with fail
          go_roundg (4 - d - 1)
          case measure => omega
          case rel => exact ⟨d + 1, by omega, rfl, unhide hM'⟩
    · have ed : d = 4 := by omega
      subst ed
      have hM' := hide hM
      clear hM
      go_wp2_with fail
      go_ret
      exact ⟨_, rfl, by rw [← mtrP_4]; exact World.ownsRow.mono (unhide hM').own (by have := (unhide hM').lo; have := (unhide hM').hi; omega), (unhide hM').gr⟩

end Go.Proofs.YtnfakamfmkhlbabDoor.C
