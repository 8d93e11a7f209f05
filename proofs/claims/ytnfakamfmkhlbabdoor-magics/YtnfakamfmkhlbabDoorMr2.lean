import Derived.Test.YtnfakamfmkhlbabDoorMr1
import Derived.OwnWalk
import Derived.Maps.AppendAt
namespace Go.Proofs.YtnfakamfmkhlbabDoor.C
open Go.ChangeShapes Go.WideShapes Go.ChangeAt Go.RowKit Go.Shelf
open Go.Proofs.YtnfakamfmkhlbabDoor.P

/-- d lines are done. -/
structure Lo (w : World) (k x d : Nat) (A : Array Value) (wr : World) : Prop where
  out : wr.heap[w.heap.size + 1]? = some (.cells A 52 (0, 0))
  size : A.size = 4
  gr : Gr w wr
  old : ∀ i, i < d → ∃ u, A[i]? = some u ∧ Sq w.heap.size u (lnR k x i) wr
  rest : ∀ i, d ≤ i → i < 4 → A[i]? = some (.slice none 0 0)
  res : ∃ Z, wr.heap[w.heap.size]? = some (.cells Z 52 (0, 0)) ∧ Z.size = 4
  le : w.heap.size + 2 ≤ wr.heap.size
theorem Lo.start {w : World} {k x d : Nat} {A : Array Value} {wr : World} (h : Lo w k x d A wr) (hd : d < 4) : Li w k x (w.heap.size + 1) wr.heap.size d A (.slice none 0 0) [] wr := by
  have e : A.setIfInBounds d (.slice none 0 0) = A := by
    apply Array.ext_getElem?
    intro i
    rw [Array.getElem?_setIfInBounds]
    by_cases hi : d = i
    · subst hi; rw [if_pos rfl, if_pos (by rw [h.size]; exact hd), h.rest d (Nat.le_refl _) hd]
    · rw [if_neg hi]
  refine ⟨by rw [e]; exact h.out, h.size, World.ownsRow_nil _ _ _ _, h.gr, fun i hi => ?_, h.res, Nat.lt_succ_self _, by have := h.le; omega, Nat.le_refl _⟩
  obtain ⟨u, u1, u2⟩ := h.old i hi
  exact ⟨u, u1, u2, fun j e => (u2.lt j e).2⟩
theorem Li.finish {w : World} {k x N d : Nat} {A : Array Value} {v : Value} {pre : List Nat} {wr : World} (h : Li w k x (w.heap.size + 1) N d A v pre wr) (hd : d < 4) (hp : pre = lnR k x d) (hr : ∀ i, d ≤ i → i < 4 → A[i]? = some (.slice none 0 0)) : Lo w k x (d + 1) (A.setIfInBounds d v) wr := by
  subst hp
  refine ⟨h.out, by rw [Array.size_setIfInBounds]; exact h.size, h.gr, fun i hi => ?_, fun i h1 h2 => ?_, h.res, by have := h.hi; have := h.le; omega⟩
  · by_cases e : i = d
    · subst e
      exact ⟨v, by rw [Array.getElem?_setIfInBounds, if_pos rfl, if_pos (by rw [h.size]; exact hd)], World.ownsRow.mono h.own (by have := h.lo; have := h.hi; omega)⟩
    · obtain ⟨u, u1, u2, _⟩ := h.old i (by omega)
      exact ⟨u, by rw [Array.getElem?_setIfInBounds, if_neg (by omega)]; exact u1, u2⟩
  · rw [Array.getElem?_setIfInBounds, if_neg (by omega)]; exact hr i (by omega) h2

theorem Gr.setRow {a b : World} (h : Gr a b) (g : Nat) (hg : a.heap.size ≤ g) (cs : Array Value) : Gr a (b.setRow g cs) :=
  Below.trans h ⟨rfl, rfl, rfl, by simp [World.setRow], fun k hk => setRow_other b g k cs (by omega)⟩
theorem info4 : (Tryd.prog.info? 52).map (·.size) = some 4 := by kernel_rfl
theorem setRow_far {W : World} {b j : Nat} {cs : Array Value} (h : j ≠ b) : (W.setRow b cs).heap[j]? = W.heap[j]? := by
  unfold World.setRow
  show (W.heap.modify b _)[j]? = _
  rw [Array.getElem?_modify, if_neg (fun e => h e.symm)]
theorem sq_setRow {W : World} {base b : Nat} {u : Value} {l : List Nat} {Z cs : Array Value} (h : Sq base u l W) (hz : W.heap[b]? = some (.cells Z 52 (0, 0))) : Sq base u l (W.setRow b cs) := by
  refine ⟨h.1, ?_⟩
  rcases h.2 with h0 | ⟨g, cap, cur, h1, h2, h3, h4⟩
  · exact .inl h0
  · refine .inr ⟨g, cap, cur, h1, h2, ?_, h4⟩
    rw [setRow_far (fun e => by subst e; rw [hz] at h3; simp at h3)]
    exact h3
theorem ix_0 (a b c d : Int) (w : World) : (Instr.index 72 (.agg #[.int .i64 a, .int .i64 b, .int .i64 c, .int .i64 d]) (.int .i64 0)).run Tryd.prog w = .ok (.int .i64 a) w := by kernel_rfl
theorem ix_1 (a b c d : Int) (w : World) : (Instr.index 72 (.agg #[.int .i64 a, .int .i64 b, .int .i64 c, .int .i64 d]) (.int .i64 1)).run Tryd.prog w = .ok (.int .i64 b) w := by kernel_rfl
theorem ix_2 (a b c d : Int) (w : World) : (Instr.index 72 (.agg #[.int .i64 a, .int .i64 b, .int .i64 c, .int .i64 d]) (.int .i64 2)).run Tryd.prog w = .ok (.int .i64 c) w := by kernel_rfl
theorem ix_3 (a b c d : Int) (w : World) : (Instr.index 72 (.agg #[.int .i64 a, .int .i64 b, .int .i64 c, .int .i64 d]) (.int .i64 3)).run Tryd.prog w = .ok (.int .i64 d) w := by kernel_rfl
attribute [local go_sem] ix_0 ix_1 ix_2 ix_3

set_option linter.unusedSimpArgs false in
set_option maxRecDepth 100000 in
set_option maxHeartbeats 8000000 in
theorem lines_any (k x : Nat) (hk : k = 4 ∨ k = 5) (hx : x < 64) (w : World) : Calls Tryd.prog 22 #[.int .i64 (k : Int), .int .i64 (x : Int)] w fun e w' => ∃ A : Array Value, e = .returned (.agg A) ∧ A.size = 4 ∧ (∀ i, i < 4 → ∃ u, A[i]? = some u ∧ Sq w.heap.size u (lnR k x i) w') ∧ Gr w w' := by
  obtain ⟨i0, hi, hz0, hz1, hz2⟩ := info_parts infoI
  have hi' := hide hi
  clear hi
  go_enter Tryd.func22, Tryd.ntmps22
  go_wp2
  have hL0 : Lo w k x 0 #[.slice none 0 0, .slice none 0 0, .slice none 0 0, .slice none 0 0] ((w.alloc (.cells #[.slice none 0 0, .slice none 0 0, .slice none 0 0, .slice none 0 0] 52)).alloc (.cells #[.slice none 0 0, .slice none 0 0, .slice none 0 0, .slice none 0 0] 52)) := by
    refine ⟨?_, rfl, ((Gr.refl w).alloc _ _).alloc _ _, fun i hi => absurd hi (Nat.not_lt_zero _), fun i _ hi => ?_, ⟨#[.slice none 0 0, .slice none 0 0, .slice none 0 0, .slice none 0 0], ?_, rfl⟩, by rw [World.size_alloc, World.size_alloc]; omega⟩
    · have := World.alloc_heap_new (w.alloc (.cells #[.slice none 0 0, .slice none 0 0, .slice none 0 0, .slice none 0 0] 52)) (.cells #[.slice none 0 0, .slice none 0 0, .slice none 0 0, .slice none 0 0] 52); rwa [World.size_alloc] at this
    · have : i = 0 ∨ i = 1 ∨ i = 2 ∨ i = 3 := by omega
      rcases this with rfl | rfl | rfl | rfl <;> rfl
    · rw [blk_old _ _ _ (by rw [World.size_alloc]; omega)]; exact World.alloc_heap_new w _
  have hL0' := hide hL0
  clear hL0
  generalize ((w.alloc (.cells #[.slice none 0 0, .slice none 0 0, .slice none 0 0, .slice none 0 0] 52)).alloc (.cells #[.slice none 0 0, .slice none 0 0, .slice none 0 0, .slice none 0 0] 52)) = w0 at hL0' ⊢
  generalize hZ : (#[.slice none 0 0, .slice none 0 0, .slice none 0 0, .slice none 0 0] : Array Value) = Z0 at hL0'
  clear hZ
  go_loopg [6] 4 (fun g i wr => ∃ d : Nat, d + g = 4 ∧ i = .int .i64 (d : Int) ∧ ∃ A, Lo w k x d A wr)
  case atStart => exact ⟨0, by omega, rfl, Z0, unhide hL0'⟩
  case round =>
    clear hL0'
    obtain ⟨d, d1, rfl, A, hL⟩ := hrel
    by_cases hlt : d < 4
    · have hLi := hide (hL.start hlt)
      have hrest := hide hL.rest
      have hm : (x : Int) % 8 = ((x % 8 : Nat) : Int) := by omega
      have hq : (x : Int) / 8 = ((x / 8 : Nat) : Int) := by omega
      have hl7 := hide (len_ok k x d hk hx hlt)
      have hln : Hid (lnR k x d = ray (dfR k d) (drR k d) 8 (((x % 8 : Nat) : Int) + dfR k d) (((x / 8 : Nat) : Int) + drR k d)) := hide rfl
      have hp8 : x % 8 < 8 := by omega
      have hq8 : x / 8 < 8 := by omega
      clear hL
      generalize x % 8 = xf at hm hln hp8
      generalize x / 8 = xr at hq hln hq8
      have hd : d = 0 ∨ d = 1 ∨ d = 2 ∨ d = 3 := by omega
      clear hlt
      generalize wr.heap.size = N at hLi
      rcases hk with rfl | rfl <;> rcases hd with rfl | rfl | rfl | rfl
      · have hln2 : Hid (lnR 4 x 0 = ray 1 1 8 ((xf : Int) + 1) ((xr : Int) + 1)) := hide (unhide hln)
        clear hln
        go_wp2_with fail
        simp only [Int.cast_ofNat_Int, Int.natCast_zero, Int.natCast_one, hm, hq]
        clear hm hq
        go_loopg [9, 10] 8 (fun g f r wr2 => ∃ (pre : List Nat) (F R : Int) (v : Value), pre.length + g = 8 ∧ f = .int .i64 F ∧ r = .int .i64 R ∧ -1 ≤ F ∧ F ≤ 8 ∧ -1 ≤ R ∧ R ≤ 8 ∧ lnR 4 x 0 = pre ++ ray 1 1 (8 - pre.length) F R ∧ Li w 4 x (w.heap.size + 1) N 0 A v pre wr2)
        case atStart => exact ⟨[], _, _, _, rfl, rfl, rfl, by omega, by omega, by omega, by omega, by simpa using unhide hln2, unhide hLi⟩
        case round =>
          obtain ⟨pre, F, R, v, g1, rfl, rfl, f1, f2, r1, r2, hl, hLi2⟩ := hrel
          have hp7 : pre.length ≤ 7 := by have := unhide hl7; rw [hl, List.length_append] at this; omega
          by_cases hin : 0 ≤ F ∧ F < 8 ∧ 0 ≤ R ∧ R < 8
          · obtain ⟨i1, i2, i3, i4⟩ := hin
            have hst := ray_in (df := 1) (dr := 1) (n := 8 - pre.length) (by omega) ⟨i1, i2, i3, i4⟩
            have hl2 : Hid (lnR 4 x 0 = (pre ++ [(8 * R + F).toNat]) ++ ray 1 1 (8 - (pre ++ [(8 * R + F).toNat]).length) (F + 1) (R + 1)) := hide (by
              rw [hl, hst, List.length_append, List.append_assoc]
              rw [show 8 - (pre.length + [(8 * R + F).toNat].length) = 8 - pre.length - 1 from (by simp; omega)]; rfl)
            have hy : 8 * R + F = (((8 * R + F).toNat : Nat) : Int) := by omega
            generalize (8 * R + F).toNat = y at hy hl2
            have hcA := hLi2.cell (by decide)
            have hLi' := hide hLi2
            clear hl hst hLi2
            have hN := (unhide hLi').le
            have ha1 := hide (Li.cell2 (unhide hLi') (by decide))
            obtain ⟨hcA1, hcA2⟩ := hcA
            go_wp2_with (at_builtin; refine wpList_append_own _ rfl (.tmp 54) (.tmp 59) 43 rfl N 3 i0 (.int .i64 0) 1 8 Tryd.underlying43 (unhide hi') hz0 hz1 hz2 rfl (by decide) v pre.length (ints pre) rfl ((unhide hLi').own.alloc _) ⟨wr.heap.size, 0, none⟩ 1 1 [.int .i64 (y : Int)] rfl rfl (cell_one_new _ _ _) (by simp [Value.oneCell']) (by unfold maxLen; omega) (by omega) (by simp; omega) ?_; intro v' w2 hown' hgrow _; obtain ⟨q1, q2⟩ := unhide ha1 _ _ hgrow; obtain ⟨g', cap', rfl⟩ := ownsRow_succ hown')
            go_roundg (gk - 1)
            case measure => omega
            case rel => exact ⟨pre ++ [y], _, _, _, by simp; omega, rfl, rfl, by omega, by omega, by omega, by omega, (by first | exact unhide hl2 | simpa using unhide hl2), Li.step (unhide hLi') hown' hgrow⟩
          · have hend : Hid (pre = lnR 4 x 0) := hide (by rw [hl, ray_out hin, List.append_nil])
            have hfin := hide (Li.finish hLi2 (by decide) (unhide hend) (unhide hrest))
            clear hl hLi2 hend
            by_cases e1 : 0 ≤ F
            · by_cases e2 : F < 8
              · by_cases e3 : 0 ≤ R
                · have e4 : 8 ≤ R := by omega
                  clear hin
                  go_wp2_with fail
                  go_roundg (4 - 0 - 1)
                  case measure => omega
                  case rel => exact ⟨0 + 1, by omega, rfl, _, unhide hfin⟩
                · clear hin
                  go_wp2_with fail
                  go_roundg (4 - 0 - 1)
                  case measure => omega
                  case rel => exact ⟨0 + 1, by omega, rfl, _, unhide hfin⟩
              · clear hin
                go_wp2_with fail
                go_roundg (4 - 0 - 1)
                case measure => omega
                case rel => exact ⟨0 + 1, by omega, rfl, _, unhide hfin⟩
            · clear hin
              go_wp2_with fail
              go_roundg (4 - 0 - 1)
              case measure => omega
              case rel => exact ⟨0 + 1, by omega, rfl, _, unhide hfin⟩
      · have hln2 : Hid (lnR 4 x 1 = ray (-1) 1 8 ((xf : Int) + (-1)) ((xr : Int) + 1)) := hide (unhide hln)
        clear hln
        go_wp2_with fail
        simp only [Int.cast_ofNat_Int, Int.natCast_zero, Int.natCast_one, hm, hq]
        clear hm hq
        go_loopg [9, 10] 8 (fun g f r wr2 => ∃ (pre : List Nat) (F R : Int) (v : Value), pre.length + g = 8 ∧ f = .int .i64 F ∧ r = .int .i64 R ∧ -1 ≤ F ∧ F ≤ 8 ∧ -1 ≤ R ∧ R ≤ 8 ∧ lnR 4 x 1 = pre ++ ray (-1) 1 (8 - pre.length) F R ∧ Li w 4 x (w.heap.size + 1) N 1 A v pre wr2)
        case atStart => exact ⟨[], _, _, _, rfl, rfl, rfl, by omega, by omega, by omega, by omega, by simpa using unhide hln2, unhide hLi⟩
        case round =>
          obtain ⟨pre, F, R, v, g1, rfl, rfl, f1, f2, r1, r2, hl, hLi2⟩ := hrel
          have hp7 : pre.length ≤ 7 := by have := unhide hl7; rw [hl, List.length_append] at this; omega
          by_cases hin : 0 ≤ F ∧ F < 8 ∧ 0 ≤ R ∧ R < 8
          · obtain ⟨i1, i2, i3, i4⟩ := hin
            have hst := ray_in (df := (-1)) (dr := 1) (n := 8 - pre.length) (by omega) ⟨i1, i2, i3, i4⟩
            have hl2 : Hid (lnR 4 x 1 = (pre ++ [(8 * R + F).toNat]) ++ ray (-1) 1 (8 - (pre ++ [(8 * R + F).toNat]).length) (F + (-1)) (R + 1)) := hide (by
              rw [hl, hst, List.length_append, List.append_assoc]
              rw [show 8 - (pre.length + [(8 * R + F).toNat].length) = 8 - pre.length - 1 from (by simp; omega)]; rfl)
            have hy : 8 * R + F = (((8 * R + F).toNat : Nat) : Int) := by omega
            generalize (8 * R + F).toNat = y at hy hl2
            have hcA := hLi2.cell (by decide)
            have hLi' := hide hLi2
            clear hl hst hLi2
            have hN := (unhide hLi').le
            have ha1 := hide (Li.cell2 (unhide hLi') (by decide))
            obtain ⟨hcA1, hcA2⟩ := hcA
            go_wp2_with (at_builtin; refine wpList_append_own _ rfl (.tmp 54) (.tmp 59) 43 rfl N 3 i0 (.int .i64 0) 1 8 Tryd.underlying43 (unhide hi') hz0 hz1 hz2 rfl (by decide) v pre.length (ints pre) rfl ((unhide hLi').own.alloc _) ⟨wr.heap.size, 0, none⟩ 1 1 [.int .i64 (y : Int)] rfl rfl (cell_one_new _ _ _) (by simp [Value.oneCell']) (by unfold maxLen; omega) (by omega) (by simp; omega) ?_; intro v' w2 hown' hgrow _; obtain ⟨q1, q2⟩ := unhide ha1 _ _ hgrow; obtain ⟨g', cap', rfl⟩ := ownsRow_succ hown')
            go_roundg (gk - 1)
            case measure => omega
            case rel => exact ⟨pre ++ [y], _, _, _, by simp; omega, rfl, rfl, by omega, by omega, by omega, by omega, (by first | exact unhide hl2 | simpa using unhide hl2), Li.step (unhide hLi') hown' hgrow⟩
          · have hend : Hid (pre = lnR 4 x 1) := hide (by rw [hl, ray_out hin, List.append_nil])
            have hfin := hide (Li.finish hLi2 (by decide) (unhide hend) (unhide hrest))
            clear hl hLi2 hend
            by_cases e1 : 0 ≤ F
            · by_cases e2 : F < 8
              · by_cases e3 : 0 ≤ R
                · have e4 : 8 ≤ R := by omega
                  clear hin
                  go_wp2_with fail
                  go_roundg (4 - 1 - 1)
                  case measure => omega
                  case rel => exact ⟨1 + 1, by omega, rfl, _, unhide hfin⟩
                · clear hin
                  go_wp2_with fail
                  go_roundg (4 - 1 - 1)
                  case measure => omega
                  case rel => exact ⟨1 + 1, by omega, rfl, _, unhide hfin⟩
              · clear hin
                go_wp2_with fail
                go_roundg (4 - 1 - 1)
                case measure => omega
                case rel => exact ⟨1 + 1, by omega, rfl, _, unhide hfin⟩
            · clear hin
              go_wp2_with fail
              go_roundg (4 - 1 - 1)
              case measure => omega
              case rel => exact ⟨1 + 1, by omega, rfl, _, unhide hfin⟩
      · have hln2 : Hid (lnR 4 x 2 = ray (-1) (-1) 8 ((xf : Int) + (-1)) ((xr : Int) + (-1))) := hide (unhide hln)
        clear hln
        go_wp2_with fail
        simp only [Int.cast_ofNat_Int, Int.natCast_zero, Int.natCast_one, hm, hq]
        clear hm hq
        go_loopg [9, 10] 8 (fun g f r wr2 => ∃ (pre : List Nat) (F R : Int) (v : Value), pre.length + g = 8 ∧ f = .int .i64 F ∧ r = .int .i64 R ∧ -1 ≤ F ∧ F ≤ 8 ∧ -1 ≤ R ∧ R ≤ 8 ∧ lnR 4 x 2 = pre ++ ray (-1) (-1) (8 - pre.length) F R ∧ Li w 4 x (w.heap.size + 1) N 2 A v pre wr2)
        case atStart => exact ⟨[], _, _, _, rfl, rfl, rfl, by omega, by omega, by omega, by omega, by simpa using unhide hln2, unhide hLi⟩
        case round =>
          obtain ⟨pre, F, R, v, g1, rfl, rfl, f1, f2, r1, r2, hl, hLi2⟩ := hrel
          have hp7 : pre.length ≤ 7 := by have := unhide hl7; rw [hl, List.length_append] at this; omega
          by_cases hin : 0 ≤ F ∧ F < 8 ∧ 0 ≤ R ∧ R < 8
          · obtain ⟨i1, i2, i3, i4⟩ := hin
            have hst := ray_in (df := (-1)) (dr := (-1)) (n := 8 - pre.length) (by omega) ⟨i1, i2, i3, i4⟩
            have hl2 : Hid (lnR 4 x 2 = (pre ++ [(8 * R + F).toNat]) ++ ray (-1) (-1) (8 - (pre ++ [(8 * R + F).toNat]).length) (F + (-1)) (R + (-1))) := hide (by
              rw [hl, hst, List.length_append, List.append_assoc]
              rw [show 8 - (pre.length + [(8 * R + F).toNat].length) = 8 - pre.length - 1 from (by simp; omega)]; rfl)
            have hy : 8 * R + F = (((8 * R + F).toNat : Nat) : Int) := by omega
            generalize (8 * R + F).toNat = y at hy hl2
            have hcA := hLi2.cell (by decide)
            have hLi' := hide hLi2
            clear hl hst hLi2
            have hN := (unhide hLi').le
            have ha1 := hide (Li.cell2 (unhide hLi') (by decide))
            obtain ⟨hcA1, hcA2⟩ := hcA
            go_wp2_with (at_builtin; refine wpList_append_own _ rfl (.tmp 54) (.tmp 59) 43 rfl N 3 i0 (.int .i64 0) 1 8 Tryd.underlying43 (unhide hi') hz0 hz1 hz2 rfl (by decide) v pre.length (ints pre) rfl ((unhide hLi').own.alloc _) ⟨wr.heap.size, 0, none⟩ 1 1 [.int .i64 (y : Int)] rfl rfl (cell_one_new _ _ _) (by simp [Value.oneCell']) (by unfold maxLen; omega) (by omega) (by simp; omega) ?_; intro v' w2 hown' hgrow _; obtain ⟨q1, q2⟩ := unhide ha1 _ _ hgrow; obtain ⟨g', cap', rfl⟩ := ownsRow_succ hown')
            go_roundg (gk - 1)
            case measure => omega
            case rel => exact ⟨pre ++ [y], _, _, _, by simp; omega, rfl, rfl, by omega, by omega, by omega, by omega, (by first | exact unhide hl2 | simpa using unhide hl2), Li.step (unhide hLi') hown' hgrow⟩
          · have hend : Hid (pre = lnR 4 x 2) := hide (by rw [hl, ray_out hin, List.append_nil])
            have hfin := hide (Li.finish hLi2 (by decide) (unhide hend) (unhide hrest))
            clear hl hLi2 hend
            by_cases e1 : 0 ≤ F
            · by_cases e2 : F < 8
              · by_cases e3 : 0 ≤ R
                · have e4 : 8 ≤ R := by omega
                  clear hin
                  go_wp2_with fail
                  go_roundg (4 - 2 - 1)
                  case measure => omega
                  case rel => exact ⟨2 + 1, by omega, rfl, _, unhide hfin⟩
                · clear hin
                  go_wp2_with fail
                  go_roundg (4 - 2 - 1)
                  case measure => omega
                  case rel => exact ⟨2 + 1, by omega, rfl, _, unhide hfin⟩
              · clear hin
                go_wp2_with fail
                go_roundg (4 - 2 - 1)
                case measure => omega
                case rel => exact ⟨2 + 1, by omega, rfl, _, unhide hfin⟩
            · clear hin
              go_wp2_with fail
              go_roundg (4 - 2 - 1)
              case measure => omega
              case rel => exact ⟨2 + 1, by omega, rfl, _, unhide hfin⟩
      · have hln2 : Hid (lnR 4 x 3 = ray 1 (-1) 8 ((xf : Int) + 1) ((xr : Int) + (-1))) := hide (unhide hln)
        clear hln
        go_wp2_with fail
        simp only [Int.cast_ofNat_Int, Int.natCast_zero, Int.natCast_one, hm, hq]
        clear hm hq
        go_loopg [9, 10] 8 (fun g f r wr2 => ∃ (pre : List Nat) (F R : Int) (v : Value), pre.length + g = 8 ∧ f = .int .i64 F ∧ r = .int .i64 R ∧ -1 ≤ F ∧ F ≤ 8 ∧ -1 ≤ R ∧ R ≤ 8 ∧ lnR 4 x 3 = pre ++ ray 1 (-1) (8 - pre.length) F R ∧ Li w 4 x (w.heap.size + 1) N 3 A v pre wr2)
        case atStart => exact ⟨[], _, _, _, rfl, rfl, rfl, by omega, by omega, by omega, by omega, by simpa using unhide hln2, unhide hLi⟩
        case round =>
          obtain ⟨pre, F, R, v, g1, rfl, rfl, f1, f2, r1, r2, hl, hLi2⟩ := hrel
          have hp7 : pre.length ≤ 7 := by have := unhide hl7; rw [hl, List.length_append] at this; omega
          by_cases hin : 0 ≤ F ∧ F < 8 ∧ 0 ≤ R ∧ R < 8
          · obtain ⟨i1, i2, i3, i4⟩ := hin
            have hst := ray_in (df := 1) (dr := (-1)) (n := 8 - pre.length) (by omega) ⟨i1, i2, i3, i4⟩
            have hl2 : Hid (lnR 4 x 3 = (pre ++ [(8 * R + F).toNat]) ++ ray 1 (-1) (8 - (pre ++ [(8 * R + F).toNat]).length) (F + 1) (R + (-1))) := hide (by
              rw [hl, hst, List.length_append, List.append_assoc]
              rw [show 8 - (pre.length + [(8 * R + F).toNat].length) = 8 - pre.length - 1 from (by simp; omega)]; rfl)
            have hy : 8 * R + F = (((8 * R + F).toNat : Nat) : Int) := by omega
            generalize (8 * R + F).toNat = y at hy hl2
            have hcA := hLi2.cell (by decide)
            have hLi' := hide hLi2
            clear hl hst hLi2
            have hN := (unhide hLi').le
            have ha1 := hide (Li.cell2 (unhide hLi') (by decide))
            obtain ⟨hcA1, hcA2⟩ := hcA
            go_wp2_with (at_builtin; refine wpList_append_own _ rfl (.tmp 54) (.tmp 59) 43 rfl N 3 i0 (.int .i64 0) 1 8 Tryd.underlying43 (unhide hi') hz0 hz1 hz2 rfl (by decide) v pre.length (ints pre) rfl ((unhide hLi').own.alloc _) ⟨wr.heap.size, 0, none⟩ 1 1 [.int .i64 (y : Int)] rfl rfl (cell_one_new _ _ _) (by simp [Value.oneCell']) (by unfold maxLen; omega) (by omega) (by simp; omega) ?_; intro v' w2 hown' hgrow _; obtain ⟨q1, q2⟩ := unhide ha1 _ _ hgrow; obtain ⟨g', cap', rfl⟩ := ownsRow_succ hown')
            go_roundg (gk - 1)
            case measure => omega
            case rel => exact ⟨pre ++ [y], _, _, _, by simp; omega, rfl, rfl, by omega, by omega, by omega, by omega, (by first | exact unhide hl2 | simpa using unhide hl2), Li.step (unhide hLi') hown' hgrow⟩
          · have hend : Hid (pre = lnR 4 x 3) := hide (by rw [hl, ray_out hin, List.append_nil])
            have hfin := hide (Li.finish hLi2 (by decide) (unhide hend) (unhide hrest))
            clear hl hLi2 hend
            by_cases e1 : 0 ≤ F
            · by_cases e2 : F < 8
              · by_cases e3 : 0 ≤ R
                · have e4 : 8 ≤ R := by omega
                  clear hin
                  go_wp2_with fail
                  go_roundg (4 - 3 - 1)
                  case measure => omega
                  case rel => exact ⟨3 + 1, by omega, rfl, _, unhide hfin⟩
                · clear hin
                  go_wp2_with fail
                  go_roundg (4 - 3 - 1)
                  case measure => omega
                  case rel => exact ⟨3 + 1, by omega, rfl, _, unhide hfin⟩
              · clear hin
                go_wp2_with fail
                go_roundg (4 - 3 - 1)
                case measure => omega
                case rel => exact ⟨3 + 1, by omega, rfl, _, unhide hfin⟩
            · clear hin
              go_wp2_with fail
              go_roundg (4 - 3 - 1)
              case measure => omega
              case rel => exact ⟨3 + 1, by omega, rfl, _, unhide hfin⟩
      · have hln2 : Hid (lnR 5 x 0 = ray 1 0 8 ((xf : Int) + 1) ((xr : Int) + 0)) := hide (unhide hln)
        clear hln
        go_wp2_with fail
        simp only [Int.cast_ofNat_Int, Int.natCast_zero, Int.natCast_one, hm, hq]
        clear hm hq
        go_loopg [9, 10] 8 (fun g f r wr2 => ∃ (pre : List Nat) (F R : Int) (v : Value), pre.length + g = 8 ∧ f = .int .i64 F ∧ r = .int .i64 R ∧ -1 ≤ F ∧ F ≤ 8 ∧ -1 ≤ R ∧ R ≤ 8 ∧ lnR 5 x 0 = pre ++ ray 1 0 (8 - pre.length) F R ∧ Li w 5 x (w.heap.size + 1) N 0 A v pre wr2)
        case atStart => exact ⟨[], _, _, _, rfl, rfl, rfl, by omega, by omega, by omega, by omega, by simpa using unhide hln2, unhide hLi⟩
        case round =>
          obtain ⟨pre, F, R, v, g1, rfl, rfl, f1, f2, r1, r2, hl, hLi2⟩ := hrel
          have hp7 : pre.length ≤ 7 := by have := unhide hl7; rw [hl, List.length_append] at this; omega
          by_cases hin : 0 ≤ F ∧ F < 8 ∧ 0 ≤ R ∧ R < 8
          · obtain ⟨i1, i2, i3, i4⟩ := hin
            have hst := ray_in (df := 1) (dr := 0) (n := 8 - pre.length) (by omega) ⟨i1, i2, i3, i4⟩
            have hl2 : Hid (lnR 5 x 0 = (pre ++ [(8 * R + F).toNat]) ++ ray 1 0 (8 - (pre ++ [(8 * R + F).toNat]).length) (F + 1) (R + 0)) := hide (by
              rw [hl, hst, List.length_append, List.append_assoc]
              rw [show 8 - (pre.length + [(8 * R + F).toNat].length) = 8 - pre.length - 1 from (by simp; omega)]; rfl)
            have hy : 8 * R + F = (((8 * R + F).toNat : Nat) : Int) := by omega
            generalize (8 * R + F).toNat = y at hy hl2
            have hcA := hLi2.cell (by decide)
            have hLi' := hide hLi2
            clear hl hst hLi2
            have hN := (unhide hLi').le
            have ha1 := hide (Li.cell2 (unhide hLi') (by decide))
            obtain ⟨hcA1, hcA2⟩ := hcA
            go_wp2_with (at_builtin; refine wpList_append_own _ rfl (.tmp 54) (.tmp 59) 43 rfl N 3 i0 (.int .i64 0) 1 8 Tryd.underlying43 (unhide hi') hz0 hz1 hz2 rfl (by decide) v pre.length (ints pre) rfl ((unhide hLi').own.alloc _) ⟨wr.heap.size, 0, none⟩ 1 1 [.int .i64 (y : Int)] rfl rfl (cell_one_new _ _ _) (by simp [Value.oneCell']) (by unfold maxLen; omega) (by omega) (by simp; omega) ?_; intro v' w2 hown' hgrow _; obtain ⟨q1, q2⟩ := unhide ha1 _ _ hgrow; obtain ⟨g', cap', rfl⟩ := ownsRow_succ hown')
            go_roundg (gk - 1)
            case measure => omega
            case rel => exact ⟨pre ++ [y], _, _, _, by simp; omega, rfl, rfl, by omega, by omega, by omega, by omega, (by first | exact unhide hl2 | simpa using unhide hl2), Li.step (unhide hLi') hown' hgrow⟩
          · have hend : Hid (pre = lnR 5 x 0) := hide (by rw [hl, ray_out hin, List.append_nil])
            have hfin := hide (Li.finish hLi2 (by decide) (unhide hend) (unhide hrest))
            clear hl hLi2 hend
            by_cases e1 : 0 ≤ F
            · by_cases e2 : F < 8
              · by_cases e3 : 0 ≤ R
                · have e4 : 8 ≤ R := by omega
                  clear hin
                  go_wp2_with fail
                  go_roundg (4 - 0 - 1)
                  case measure => omega
                  case rel => exact ⟨0 + 1, by omega, rfl, _, unhide hfin⟩
                · clear hin
                  go_wp2_with fail
                  go_roundg (4 - 0 - 1)
                  case measure => omega
                  case rel => exact ⟨0 + 1, by omega, rfl, _, unhide hfin⟩
              · clear hin
                go_wp2_with fail
                go_roundg (4 - 0 - 1)
                case measure => omega
                case rel => exact ⟨0 + 1, by omega, rfl, _, unhide hfin⟩
            · clear hin
              go_wp2_with fail
              go_roundg (4 - 0 - 1)
              case measure => omega
              case rel => exact ⟨0 + 1, by omega, rfl, _, unhide hfin⟩
      · have hln2 : Hid (lnR 5 x 1 = ray 0 1 8 ((xf : Int) + 0) ((xr : Int) + 1)) := hide (unhide hln)
        clear hln
        go_wp2_with fail
        simp only [Int.cast_ofNat_Int, Int.natCast_zero, Int.natCast_one, hm, hq]
        clear hm hq
        go_loopg [9, 10] 8 (fun g f r wr2 => ∃ (pre : List Nat) (F R : Int) (v : Value), pre.length + g = 8 ∧ f = .int .i64 F ∧ r = .int .i64 R ∧ -1 ≤ F ∧ F ≤ 8 ∧ -1 ≤ R ∧ R ≤ 8 ∧ lnR 5 x 1 = pre ++ ray 0 1 (8 - pre.length) F R ∧ Li w 5 x (w.heap.size + 1) N 1 A v pre wr2)
        case atStart => exact ⟨[], _, _, _, rfl, rfl, rfl, by omega, by omega, by omega, by omega, by simpa using unhide hln2, unhide hLi⟩
        case round =>
          obtain ⟨pre, F, R, v, g1, rfl, rfl, f1, f2, r1, r2, hl, hLi2⟩ := hrel
          have hp7 : pre.length ≤ 7 := by have := unhide hl7; rw [hl, List.length_append] at this; omega
          by_cases hin : 0 ≤ F ∧ F < 8 ∧ 0 ≤ R ∧ R < 8
          · obtain ⟨i1, i2, i3, i4⟩ := hin
            have hst := ray_in (df := 0) (dr := 1) (n := 8 - pre.length) (by omega) ⟨i1, i2, i3, i4⟩
            have hl2 : Hid (lnR 5 x 1 = (pre ++ [(8 * R + F).toNat]) ++ ray 0 1 (8 - (pre ++ [(8 * R + F).toNat]).length) (F + 0) (R + 1)) := hide (by
              rw [hl, hst, List.length_append, List.append_assoc]
              rw [show 8 - (pre.length + [(8 * R + F).toNat].length) = 8 - pre.length - 1 from (by simp; omega)]; rfl)
            have hy : 8 * R + F = (((8 * R + F).toNat : Nat) : Int) := by omega
            generalize (8 * R + F).toNat = y at hy hl2
            have hcA := hLi2.cell (by decide)
            have hLi' := hide hLi2
            clear hl hst hLi2
            have hN := (unhide hLi').le
            have ha1 := hide (Li.cell2 (unhide hLi') (by decide))
            obtain ⟨hcA1, hcA2⟩ := hcA
            go_wp2_with (at_builtin; refine wpList_append_own _ rfl (.tmp 54) (.tmp 59) 43 rfl N 3 i0 (.int .i64 0) 1 8 Tryd.underlying43 (unhide hi') hz0 hz1 hz2 rfl (by decide) v pre.length (ints pre) rfl ((unhide hLi').own.alloc _) ⟨wr.heap.size, 0, none⟩ 1 1 [.int .i64 (y : Int)] rfl rfl (cell_one_new _ _ _) (by simp [Value.oneCell']) (by unfold maxLen; omega) (by omega) (by simp; omega) ?_; intro v' w2 hown' hgrow _; obtain ⟨q1, q2⟩ := unhide ha1 _ _ hgrow; obtain ⟨g', cap', rfl⟩ := ownsRow_succ hown')
            go_roundg (gk - 1)
            case measure => omega
            case rel => exact ⟨pre ++ [y], _, _, _, by simp; omega, rfl, rfl, by omega, by omega, by omega, by omega, (by first | exact unhide hl2 | simpa using unhide hl2), Li.step (unhide hLi') hown' hgrow⟩
          · have hend : Hid (pre = lnR 5 x 1) := hide (by rw [hl, ray_out hin, List.append_nil])
            have hfin := hide (Li.finish hLi2 (by decide) (unhide hend) (unhide hrest))
            clear hl hLi2 hend
            by_cases e1 : 0 ≤ F
            · by_cases e2 : F < 8
              · by_cases e3 : 0 ≤ R
                · have e4 : 8 ≤ R := by omega
                  clear hin
                  go_wp2_with fail
                  go_roundg (4 - 1 - 1)
                  case measure => omega
                  case rel => exact ⟨1 + 1, by omega, rfl, _, unhide hfin⟩
                · clear hin
                  go_wp2_with fail
                  go_roundg (4 - 1 - 1)
                  case measure => omega
                  case rel => exact ⟨1 + 1, by omega, rfl, _, unhide hfin⟩
              · clear hin
                go_wp2_with fail
                go_roundg (4 - 1 - 1)
                case measure => omega
                case rel => exact ⟨1 + 1, by omega, rfl, _, unhide hfin⟩
            · clear hin
              go_wp2_with fail
              go_roundg (4 - 1 - 1)
              case measure => omega
              case rel => exact ⟨1 + 1, by omega, rfl, _, unhide hfin⟩
      · have hln2 : Hid (lnR 5 x 2 = ray (-1) 0 8 ((xf : Int) + (-1)) ((xr : Int) + 0)) := hide (unhide hln)
        clear hln
        go_wp2_with fail
        simp only [Int.cast_ofNat_Int, Int.natCast_zero, Int.natCast_one, hm, hq]
        clear hm hq
        go_loopg [9, 10] 8 (fun g f r wr2 => ∃ (pre : List Nat) (F R : Int) (v : Value), pre.length + g = 8 ∧ f = .int .i64 F ∧ r = .int .i64 R ∧ -1 ≤ F ∧ F ≤ 8 ∧ -1 ≤ R ∧ R ≤ 8 ∧ lnR 5 x 2 = pre ++ ray (-1) 0 (8 - pre.length) F R ∧ Li w 5 x (w.heap.size + 1) N 2 A v pre wr2)
        case atStart => exact ⟨[], _, _, _, rfl, rfl, rfl, by omega, by omega, by omega, by omega, by simpa using unhide hln2, unhide hLi⟩
        case round =>
          obtain ⟨pre, F, R, v, g1, rfl, rfl, f1, f2, r1, r2, hl, hLi2⟩ := hrel
          have hp7 : pre.length ≤ 7 := by have := unhide hl7; rw [hl, List.length_append] at this; omega
          by_cases hin : 0 ≤ F ∧ F < 8 ∧ 0 ≤ R ∧ R < 8
          · obtain ⟨i1, i2, i3, i4⟩ := hin
            have hst := ray_in (df := (-1)) (dr := 0) (n := 8 - pre.length) (by omega) ⟨i1, i2, i3, i4⟩
            have hl2 : Hid (lnR 5 x 2 = (pre ++ [(8 * R + F).toNat]) ++ ray (-1) 0 (8 - (pre ++ [(8 * R + F).toNat]).length) (F + (-1)) (R + 0)) := hide (by
              rw [hl, hst, List.length_append, List.append_assoc]
              rw [show 8 - (pre.length + [(8 * R + F).toNat].length) = 8 - pre.length - 1 from (by simp; omega)]; rfl)
            have hy : 8 * R + F = (((8 * R + F).toNat : Nat) : Int) := by omega
            generalize (8 * R + F).toNat = y at hy hl2
            have hcA := hLi2.cell (by decide)
            have hLi' := hide hLi2
            clear hl hst hLi2
            have hN := (unhide hLi').le
            have ha1 := hide (Li.cell2 (unhide hLi') (by decide))
            obtain ⟨hcA1, hcA2⟩ := hcA
            go_wp2_with (at_builtin; refine wpList_append_own _ rfl (.tmp 54) (.tmp 59) 43 rfl N 3 i0 (.int .i64 0) 1 8 Tryd.underlying43 (unhide hi') hz0 hz1 hz2 rfl (by decide) v pre.length (ints pre) rfl ((unhide hLi').own.alloc _) ⟨wr.heap.size, 0, none⟩ 1 1 [.int .i64 (y : Int)] rfl rfl (cell_one_new _ _ _) (by simp [Value.oneCell']) (by unfold maxLen; omega) (by omega) (by simp; omega) ?_; intro v' w2 hown' hgrow _; obtain ⟨q1, q2⟩ := unhide ha1 _ _ hgrow; obtain ⟨g', cap', rfl⟩ := ownsRow_succ hown')
            go_roundg (gk - 1)
            case measure => omega
            case rel => exact ⟨pre ++ [y], _, _, _, by simp; omega, rfl, rfl, by omega, by omega, by omega, by omega, (by first | exact unhide hl2 | simpa using unhide hl2), Li.step (unhide hLi') hown' hgrow⟩
          · have hend : Hid (pre = lnR 5 x 2) := hide (by rw [hl, ray_out hin, List.append_nil])
            have hfin := hide (Li.finish hLi2 (by decide) (unhide hend) (unhide hrest))
            clear hl hLi2 hend
            by_cases e1 : 0 ≤ F
            · by_cases e2 : F < 8
              · by_cases e3 : 0 ≤ R
                · have e4 : 8 ≤ R := by omega
                  clear hin
                  go_wp2_with fail
                  go_roundg (4 - 2 - 1)
                  case measure => omega
                  case rel => exact ⟨2 + 1, by omega, rfl, _, unhide hfin⟩
                · clear hin
                  go_wp2_with fail
                  go_roundg (4 - 2 - 1)
                  case measure => omega
                  case rel => exact ⟨2 + 1, by omega, rfl, _, unhide hfin⟩
              · clear hin
                go_wp2_with fail
                go_roundg (4 - 2 - 1)
                case measure => omega
                case rel => exact ⟨2 + 1, by omega, rfl, _, unhide hfin⟩
            · clear hin
              go_wp2_with fail
              go_roundg (4 - 2 - 1)
              case measure => omega
              case rel => exact ⟨2 + 1, by omega, rfl, _, unhide hfin⟩
      · have hln2 : Hid (lnR 5 x 3 = ray 0 (-1) 8 ((xf : Int) + 0) ((xr : Int) + (-1))) := hide (unhide hln)
        clear hln
        go_wp2_with fail
        simp only [Int.cast_ofNat_Int, Int.natCast_zero, Int.natCast_one, hm, hq]
        clear hm hq
        go_loopg [9, 10] 8 (fun g f r wr2 => ∃ (pre : List Nat) (F R : Int) (v : Value), pre.length + g = 8 ∧ f = .int .i64 F ∧ r = .int .i64 R ∧ -1 ≤ F ∧ F ≤ 8 ∧ -1 ≤ R ∧ R ≤ 8 ∧ lnR 5 x 3 = pre ++ ray 0 (-1) (8 - pre.length) F R ∧ Li w 5 x (w.heap.size + 1) N 3 A v pre wr2)
        case atStart => exact ⟨[], _, _, _, rfl, rfl, rfl, by omega, by omega, by omega, by omega, by simpa using unhide hln2, unhide hLi⟩
        case round =>
          obtain ⟨pre, F, R, v, g1, rfl, rfl, f1, f2, r1, r2, hl, hLi2⟩ := hrel
          have hp7 : pre.length ≤ 7 := by have := unhide hl7; rw [hl, List.length_append] at this; omega
          by_cases hin : 0 ≤ F ∧ F < 8 ∧ 0 ≤ R ∧ R < 8
          · obtain ⟨i1, i2, i3, i4⟩ := hin
            have hst := ray_in (df := 0) (dr := (-1)) (n := 8 - pre.length) (by omega) ⟨i1, i2, i3, i4⟩
            have hl2 : Hid (lnR 5 x 3 = (pre ++ [(8 * R + F).toNat]) ++ ray 0 (-1) (8 - (pre ++ [(8 * R + F).toNat]).length) (F + 0) (R + (-1))) := hide (by
              rw [hl, hst, List.length_append, List.append_assoc]
              rw [show 8 - (pre.length + [(8 * R + F).toNat].length) = 8 - pre.length - 1 from (by simp; omega)]; rfl)
            have hy : 8 * R + F = (((8 * R + F).toNat : Nat) : Int) := by omega
            generalize (8 * R + F).toNat = y at hy hl2
            have hcA := hLi2.cell (by decide)
            have hLi' := hide hLi2
            clear hl hst hLi2
            have hN := (unhide hLi').le
            have ha1 := hide (Li.cell2 (unhide hLi') (by decide))
            obtain ⟨hcA1, hcA2⟩ := hcA
            go_wp2_with (at_builtin; refine wpList_append_own _ rfl (.tmp 54) (.tmp 59) 43 rfl N 3 i0 (.int .i64 0) 1 8 Tryd.underlying43 (unhide hi') hz0 hz1 hz2 rfl (by decide) v pre.length (ints pre) rfl ((unhide hLi').own.alloc _) ⟨wr.heap.size, 0, none⟩ 1 1 [.int .i64 (y : Int)] rfl rfl (cell_one_new _ _ _) (by simp [Value.oneCell']) (by unfold maxLen; omega) (by omega) (by simp; omega) ?_; intro v' w2 hown' hgrow _; obtain ⟨q1, q2⟩ := unhide ha1 _ _ hgrow; obtain ⟨g', cap', rfl⟩ := ownsRow_succ hown')
            go_roundg (gk - 1)
            case measure => omega
            case rel => exact ⟨pre ++ [y], _, _, _, by simp; omega, rfl, rfl, by omega, by omega, by omega, by omega, (by first | exact unhide hl2 | simpa using unhide hl2), Li.step (unhide hLi') hown' hgrow⟩
          · have hend : Hid (pre = lnR 5 x 3) := hide (by rw [hl, ray_out hin, List.append_nil])
            have hfin := hide (Li.finish hLi2 (by decide) (unhide hend) (unhide hrest))
            clear hl hLi2 hend
            by_cases e1 : 0 ≤ F
            · by_cases e2 : F < 8
              · by_cases e3 : 0 ≤ R
                · have e4 : 8 ≤ R := by omega
                  clear hin
                  go_wp2_with fail
                  go_roundg (4 - 3 - 1)
                  case measure => omega
                  case rel => exact ⟨3 + 1, by omega, rfl, _, unhide hfin⟩
                · clear hin
                  go_wp2_with fail
                  go_roundg (4 - 3 - 1)
                  case measure => omega
                  case rel => exact ⟨3 + 1, by omega, rfl, _, unhide hfin⟩
              · clear hin
                go_wp2_with fail
                go_roundg (4 - 3 - 1)
                case measure => omega
                case rel => exact ⟨3 + 1, by omega, rfl, _, unhide hfin⟩
            · clear hin
              go_wp2_with fail
              go_roundg (4 - 3 - 1)
              case measure => omega
              case rel => exact ⟨3 + 1, by omega, rfl, _, unhide hfin⟩
    · have ed : d = 4 := by omega
      subst ed
      have hones : Hid (A.all (·.oneCell') = true) := hide (by
        rw [Array.all_eq_true]
        intro i hi
        obtain ⟨u, u1, u2⟩ := hL.old i (by rw [hL.size] at hi; exact hi)
        have : A[i] = u := by rw [Array.getElem?_eq_getElem hi] at u1; exact Option.some.inj u1
        rw [this]
        rcases u2.2 with ⟨rfl, _⟩ | ⟨g, cap, cur, rfl, _⟩ <;> rfl)
      obtain ⟨Z, z1, z2⟩ := hL.res
      have hsz := hL.size
      have hout := hide hL.out
      have hres := hide z1
      have hfin : Hid (∀ i, i < 4 → ∃ u, A[i]? = some u ∧ Sq w.heap.size u (lnR k x i) (wr.setRow w.heap.size A)) := hide (fun i hi => by
        obtain ⟨u, u1, u2⟩ := hL.old i hi
        exact ⟨u, u1, sq_setRow u2 z1⟩)
      have hgr := hide hL.gr
      clear hL z1
      go_wp2_with (first
        | (refine wpList_load_row rfl 52 _ rfl (w.heap.size + 1) rfl 52 A (0, 0) _ (unhide hout) Tryd.underlying52 rfl (by rw [hsz]; exact info4) ?_)
        | (refine wpList_store_row rfl 52 _ _ rfl w.heap.size A rfl rfl 52 Z (unhide hres) (by rw [hsz]; exact info4) (by rw [z2, hsz]) (unhide hones) ?_))
      exact bodyPost_ret (v := .agg A) (results_cell_row Tryd.results22 _ _ w.heap.size 52 _ (0, 0) _ rfl (setRow_heap _ _ _ _ _ _ (unhide hres)) Tryd.underlying52 rfl (by rw [hsz]; exact info4)) rfl ⟨A, rfl, hsz, unhide hfin, (unhide hgr).setRow _ (Nat.le_refl _) _⟩

end Go.Proofs.YtnfakamfmkhlbabDoor.C
