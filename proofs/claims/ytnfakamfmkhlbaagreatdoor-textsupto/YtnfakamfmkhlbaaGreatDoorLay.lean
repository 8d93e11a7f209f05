import Derived.Test.YtnfakamfmkhlbaaGreatDoorMen
import Derived.Test.YtnfakamfmkhlbaaGreatDoorNota4
namespace Go.Proofs.YtnfakamfmkhlbaaGreatDoor.C
open Go.ChangeShapes Go.WideShapes Go.ChangeAt Go.RowKit
open Go.Proofs.YtnfakamfmkhlbaaGreatDoor.P
attribute [local go_sem] setCell_drewN alloc_drewN

theorem ix64 (B : Array Value) (k : Nat) (hk : k < 64) (v : Int) (hB : B[k]? = some (.int .u8 v)) (w : World) : (Instr.index 22 (.agg B) (.int .i64 (k : Nat))).run Tryz.prog w = .ok (.int .u8 v) w := by
  have h64 : (0 : Int) ≤ (k : Int) ∧ (k : Int) < 64 := by omega
  have hu := Tryz.underlying22
  simp [Instr.index, run_underlying hu, asIntOf, h64, go_sem, hB]
  intro h; omega

/-- the squares that a man of this place stands on, of the first k. -/
def layS (z : Nat → UInt8) : Nat → Nat → BitVec 64
  | 0, _ => 0#64
  | k + 1, p => layS z k p ||| (if Lib.indexByte lettersL (z k) = (p : Int) then 1#64 <<< k else 0#64)
def okY (c : UInt8) : Bool := c == 46 || decide (0 ≤ Lib.indexByte lettersL c)
def layOk (z : Nat → UInt8) : Bool := (List.range 64).all fun i => okY (z i)
def Z12 : Array Value := #[.int .u64 0, .int .u64 0, .int .u64 0, .int .u64 0, .int .u64 0, .int .u64 0, .int .u64 0, .int .u64 0, .int .u64 0, .int .u64 0, .int .u64 0, .int .u64 0]

theorem layS_skip {z : Nat → UInt8} {k p : Nat} (h : Lib.indexByte lettersL (z k) ≠ (p : Int)) : layS z (k + 1) p = layS z k p := by
  show layS z k p ||| (if _ then _ else _) = _
  rw [if_neg h]; simp
theorem layS_hit {z : Nat → UInt8} {k p : Nat} (h : Lib.indexByte lettersL (z k) = (p : Int)) : layS z (k + 1) p = layS z k p ||| 1#64 <<< k := by
  show layS z k p ||| (if _ then _ else _) = _
  rw [if_pos h]
theorem isMen_skip {z : Nat → UInt8} {k : Nat} {M : Array Value} (h : Lib.indexByte lettersL (z k) < 0) (hM : IsMen (layS z k) M) : IsMen (layS z (k + 1)) M :=
  ⟨hM.1, fun i hi => by rw [layS_skip (by omega)]; exact hM.2 i hi⟩
theorem isMen_put {z : Nat → UInt8} {k p : Nat} {M : Array Value} (hp : p < 12) (h : Lib.indexByte lettersL (z k) = (p : Int)) (hM : IsMen (layS z k) M) : IsMen (layS z (k + 1)) (M.setIfInBounds p (.int .u64 (U (layS z (k + 1) p)))) := by
  refine ⟨by simpa using hM.1, fun i hi => ?_⟩
  rw [Array.getElem?_setIfInBounds]
  by_cases e : p = i
  · subst e; rw [if_pos rfl, if_pos (by rw [hM.1]; exact hp)]
  · rw [if_neg e, layS_skip (by omega)]; exact hM.2 i hi
theorem ib_dot : Lib.indexByte lettersL 46 = -1 := by decide +kernel
theorem ib_lt : ∀ c : UInt8, Lib.indexByte lettersL c < 12 := by
  intro c
  have : ∀ n, n < 256 → Lib.indexByte lettersL (UInt8.ofNat n) < 12 := by decide +kernel
  have h := this c.toNat c.toNat_lt
  simpa using h
theorem isMen_0 (z : Nat → UInt8) : IsMen (layS z 0) Z12 := by
  refine ⟨rfl, fun i hi => ?_⟩
  have : i = 0 ∨ i = 1 ∨ i = 2 ∨ i = 3 ∨ i = 4 ∨ i = 5 ∨ i = 6 ∨ i = 7 ∨ i = 8 ∨ i = 9 ∨ i = 10 ∨ i = 11 := by omega
  rcases this with rfl | rfl | rfl | rfl | rfl | rfl | rfl | rfl | rfl | rfl | rfl | rfl <;> rfl
theorem IsMen.ones {m : Nat → BitVec 64} {M : Array Value} (h : IsMen m M) : M.all (·.oneCell') = true := by
  rw [Array.all_eq_true]
  intro i hi
  have h2 := h.2 i (by rw [← h.1]; exact hi)
  rw [Array.getElem?_eq_getElem hi] at h2
  rw [Option.some.inj h2]
  simp [Value.oneCell']
theorem IsMen.info {m : Nat → BitVec 64} {M : Array Value} (h : IsMen m M) : (Tryz.prog.info? 151).map (·.size) = some M.size := by rw [info12, h.1]

/-- how Lay ends. -/
def LayEnd (z : Nat → UInt8) (e : Ending) : Prop := ∃ M, e = .returned (.tuple #[.agg M, .bool (layOk z)]) ∧ (∃ m, IsMen m M) ∧ (layOk z = true → IsMen (layS z 64) M)
theorem layOk_bad {z : Nat → UInt8} {k : Nat} (hk : k < 64) (h : okY (z k) = false) : layOk z = false := by
  unfold layOk
  rw [List.all_eq_false]
  exact ⟨k, List.mem_range.2 hk, by rw [h]; decide⟩
theorem layOk_all {z : Nat → UInt8} (h : ∀ j, j < 64 → okY (z j) = true) : layOk z = true := by
  unfold layOk
  rw [List.all_eq_true]
  intro j hj
  exact h j (List.mem_range.1 hj)

set_option maxRecDepth 100000 in
set_option maxHeartbeats 8000000 in
theorem lay_any (z : Nat → UInt8) (B : Array Value) (hs : B.size = 64) (hB : ∀ i, i < 64 → B[i]? = some (.int .u8 ((z i).toNat : Int))) (w : World) : Calls Tryz.prog 73 #[.agg B] w fun e w' => LayEnd z e ∧ Gr w w' := by
  have hs' := hide hs
  have hB' := hide hB
  clear hs hB
  have hh : Hid (∀ o1 o2 o3, _) := hide (heap3 w)
  go_enter Tryz.func73, Tryz.ntmps73
  go_wp2_with (refine wpList_load_row rfl 22 _ rfl w.heap.size rfl 22 B (0, 0) _ (unhide hh _ _ _).1 Tryz.underlying22 rfl (by rw [unhide hs']; exact info64) ?_)
  go_loopg [9] 64 (fun g n wr => ∃ k : Nat, k + g = 64 ∧ n = .int .i64 k ∧ (∀ j, j < k → okY (z j) = true) ∧ ∃ (M : Array Value) (d : Nat), IsMen (layS z k) M ∧ wr = (((w.alloc (.cells B 22)).alloc (.cells Z12 151)).alloc (.cells M 151)).drewN d)
  case atStart => exact ⟨0, rfl, rfl, fun j hj => absurd hj (Nat.not_lt_zero j), Z12, 0, isMen_0 z, rfl⟩
  case round =>
    obtain ⟨k, k1, rfl, k3, M, d, hM, rfl⟩ := hrel
    have k3' := hide k3
    have hM' := hide hM
    have hMs := hM.1
    clear k3 hM
    by_cases hlt : k < 64
    · have hix := ix64 B k hlt _ (unhide hB' k hlt)
      have hk0 : (0 : Int) ≤ (k : Int) := by omega
      have hk6 : (k : Int) < 64 := by omega
      by_cases hdot : z k = 46
      · have hz46 : ((z k).toNat : Int) = 46 := by rw [hdot]; rfl
        rw [hz46] at hix
        go_wp2
        go_roundg (gk - 1)
        case measure => omega
        case rel => exact ⟨k + 1, by omega, by go_num, (by
          intro j hj
          by_cases hjk : j = k
          · subst hjk; unfold okY; rw [hdot]; rfl
          · exact unhide k3' j (by omega)), M, d, isMen_skip (by rw [hdot, ib_dot]; decide) (unhide hM'), rfl⟩
      · have hz46 : (((z k).toNat : Int) == 46) = false := by
          rw [beq_eq_false_iff_ne]
          intro h
          apply hdot
          apply UInt8.toNat_inj.1
          have : (z k).toNat = 46 := by omega
          rw [this]; rfl
        have hdot' := hide hdot
        clear hdot
        have hu : ((z k).toNat : Int).toNat.toUInt8 = z k := by simp
        have hl0 : Hid (okY (z k) = decide (0 ≤ Lib.indexByte lettersL (z k))) := hide (by unfold okY; rw [beq_eq_false_iff_ne.2 (unhide hdot'), Bool.false_or])
        have h12 := ib_lt (z k)
        have hie : Hid (Lib.indexByte lettersL (z k) = Lib.indexByte lettersL (z k)) := hide rfl
        generalize hix2 : Lib.indexByte lettersL (z k) = ix at hl0 h12
        have hixe := hide hix2
        have hix' : Lib.indexByte [80, 78, 66, 82, 81, 75, 112, 110, 98, 114, 113, 107] (z k) = ix := hix2
        clear hix2 hie
        by_cases hneg : ix < 0
        · have hbad : Hid (layOk z = false) := hide (layOk_bad hlt (by rw [unhide hl0]; exact decide_eq_false (by omega)))
          go_wp2_with (first | (go_at_call 138; refine (Tryz.strings_IndexByte _ _ _).mono ?_; rintro e w' ⟨rfl, rfl⟩) | (refine wpList_store_row rfl 151 _ _ rfl (w.heap.size + 1) Z12 rfl rfl 151 Z12 (unhide hh _ _ _).2.1 info12 rfl (isMen_0 z).ones ?_))
          exact bodyPost_ret (v := .tuple #[.agg Z12, .bool false]) (results_cell_tmp Tryz.results73 _ _ (w.heap.size + 1) 151 Z12 (0, 0) _ rfl (setRow_heap _ _ _ _ _ _ (unhide hh _ _ _).2.1) Tryz.underlying151 rfl info12) rfl ⟨⟨Z12, by rw [unhide hbad], ⟨_, isMen_0 z⟩, fun h => by rw [unhide hbad] at h; cases h⟩, (Gr.drewN ((((Gr.refl w).alloc _ _).alloc _ _).alloc _ _) _).setRow _ (by omega) _⟩
        · obtain ⟨p, rfl⟩ : ∃ p : Nat, ix = p := ⟨ix.toNat, by omega⟩
          have hp : p < 12 := by omega
          have hp0 : (0 : Int) ≤ (p : Int) := by omega
          have hp12 : (p : Int) < 12 := by omega
          have hcell : (((w.alloc (.cells B 22)).alloc (.cells Z12 151)).alloc (.cells M 151)).cell? ⟨w.heap.size + 1 + 1, p, none⟩ = some (.int .u64 (U (layS z k p))) := by
            rw [cell_of_row _ _ _ _ _ _ (unhide hh _ _ _).2.2]; exact (unhide hM').2 p hp
          have hor : bits .or .u64 (U (layS z k p)) (oneI (k : Int)) = U (layS z (k + 1) p) := by rw [one_U k hlt, or_U, layS_hit (unhide hixe)]
          go_wp2_with (go_at_call 138; refine (Tryz.strings_IndexByte _ _ _).mono ?_; rintro e w' ⟨rfl, rfl⟩)
          have hone := hide (one_any (k : Int) hk0 (by omega))
          go_region_with (go_at_call 139; refine (unhide hone _).mono ?_; rintro e w' ⟨rfl, rfl⟩)
          all_goals
            go_wp2
            go_roundg (gk - 1)
            case measure => omega
            case rel => exact ⟨k + 1, by omega, by go_num, (by
              intro j hj
              by_cases hjk : j = k
              · subst hjk; rw [unhide hl0]; exact decide_eq_true (by omega)
              · exact unhide k3' j (by omega)), _, _, isMen_put hp (unhide hixe) (unhide hM'), rfl⟩
    · have ek : k = 64 := by omega
      subst ek
      have hall := hide (layOk_all (unhide k3'))
      go_wp2_with (first | (refine wpList_load_row rfl 151 _ rfl (w.heap.size + 2) rfl 151 M (0, 0) _ (unhide hh _ _ _).2.2 Tryz.underlying151 rfl (unhide hM').info ?_) | (refine wpList_store_row rfl 151 _ _ rfl (w.heap.size + 1) M rfl rfl 151 Z12 (unhide hh _ _ _).2.1 (unhide hM').info hMs.symm (unhide hM').ones ?_))
      exact bodyPost_ret (v := .tuple #[.agg M, .bool true]) (results_cell_tmp Tryz.results73 _ _ (w.heap.size + 1) 151 M (0, 0) _ rfl (setRow_heap _ _ _ _ _ _ (unhide hh _ _ _).2.1) Tryz.underlying151 rfl (unhide hM').info) rfl ⟨⟨M, by rw [unhide hall], ⟨_, unhide hM'⟩, fun _ => unhide hM'⟩, (Gr.drewN ((((Gr.refl w).alloc _ _).alloc _ _).alloc _ _) _).setRow _ (by omega) _⟩

end Go.Proofs.YtnfakamfmkhlbaaGreatDoor.C
