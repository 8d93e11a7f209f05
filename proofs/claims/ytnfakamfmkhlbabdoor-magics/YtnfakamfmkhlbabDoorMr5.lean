import Derived.Test.YtnfakamfmkhlbabDoorMr4
namespace Go.Proofs.YtnfakamfmkhlbabDoor.C
open Go.ChangeShapes Go.WideShapes Go.ChangeAt Go.RowKit Go.Shelf
open Go.Proofs.YtnfakamfmkhlbabDoor.P

theorem Sq.same {b : Nat} {v : Value} {l : List Nat} {W W' : World} (h : Sq b v l W) (e : ∀ j, v.ownBlock = some j → W'.heap[j]? = W.heap[j]?) : Sq b v l W' := by
  refine ⟨h.1, ?_⟩
  rcases h.2 with h0 | ⟨g, cap, cur, rfl, h2, h3, h4⟩
  · exact .inl h0
  · exact .inr ⟨g, cap, cur, rfl, h2, by rw [e g rfl]; exact h3, h4⟩
/-- what the reference's test holds: its squares, its lines, its table. -/
structure Mg (w : World) (k x bL tb : Nat) (A : Array Value) (v : Value) (T : Nat → BitVec 64) (wr : World) : Prop where
  box : wr.heap[bL]? = some (.cells A 52 (0, 0))
  ln : ∀ i, i < 4 → ∃ u, A[i]? = some u ∧ Sq w.heap.size u (lnR k x i) wr ∧ u.ownBlock ≠ some tb
  m : Sq w.heap.size v (mtrR k x) wr
  mb : v.ownBlock ≠ some tb
  tbl : Tbl tb 4096 T wr
  gr : Gr w wr
  ne : bL ≠ tb
  lo : w.heap.size ≤ tb
  tl : tb < wr.heap.size
  bl : bL < wr.heap.size
theorem Mg.step {w : World} {k x bL tb : Nat} {A : Array Value} {v : Value} {T : Nat → BitVec 64} {wr w' : World} (h : Mg w k x bL tb A v T wr) (g : Gr wr w') : Mg w k x bL tb A v T w' := by
  have hs := Below.size g
  have hk : ∀ j, j < wr.heap.size → w'.heap[j]? = wr.heap[j]? := fun j hj => Below.block g j hj
  have hw := Below.size h.gr
  refine ⟨by rw [hk _ h.bl]; exact h.box, fun i hi => ?_, h.m.same (fun j e => hk j (h.m.lt j e).2), h.mb, h.tbl.far (hk _ h.tl), Gr.trans h.gr g, h.ne, h.lo, Nat.lt_of_lt_of_le h.tl hs, Nat.lt_of_lt_of_le h.bl hs⟩
  obtain ⟨u, u1, u2, u3⟩ := h.ln i hi
  exact ⟨u, u1, u2.same (fun j e => hk j (u2.lt j e).2), u3⟩
theorem Mg.put {w : World} {k x bL tb p : Nat} {A : Array Value} {v : Value} {T : Nat → BitVec 64} {wr : World} (h : Mg w k x bL tb A v T wr) (hp : p < 4096) (r : BitVec 64) : Mg w k x bL tb A v (upd T p r) (wr.setCell ⟨tb, p, none⟩ (.int .u64 (U r))) := by
  have hk : ∀ j, j ≠ tb → (wr.setCell ⟨tb, p, none⟩ (.int .u64 (U r))).heap[j]? = wr.heap[j]? := fun j hj => Below.heap_setCell wr ⟨tb, p, none⟩ _ j hj
  refine ⟨by rw [hk _ h.ne]; exact h.box, fun i hi => ?_, h.m.same (fun j e => hk j (fun q => h.mb (by rw [e, q]))), h.mb, h.tbl.put hp r, Below.setCell h.gr (p := ⟨tb, p, none⟩) h.lo _, h.ne, h.lo, by rw [World.size_setCell]; exact h.tl, by rw [World.size_setCell]; exact h.bl⟩
  obtain ⟨u, u1, u2, u3⟩ := h.ln i hi
  exact ⟨u, u1, u2.same (fun j e => hk j (fun q => u3 (by rw [e, q]))), u3⟩
theorem infoU : (Tryd.prog.info? 22).map (fun i => (i.zero, i.size, i.bytes)) = some (some (.int .u64 0), 1, 8) := by kernel_rfl
theorem mk_4096 (w : World) : (Instr.makeSlice 54 (.int .i64 4096) (.int .i64 4096)).run Tryd.prog w = .ok (.slice (some ⟨w.heap.size, 0, none⟩) 4096 4096) (w.alloc (.cells (madeCells #[.int .u64 0] 4096) 22)) := by
  obtain ⟨i0, hi, hz0, hz1, hz2⟩ := info_parts infoU
  have := run_makeSlice (P := Tryd.prog) w 54 22 i0 (.int .u64 0) Tryd.underlying54 hi hz0 .i64 .i64 4096 4096 (by omega) (Int.le_refl _) (by rw [hz1]; decide) (by rw [hz2]; decide) (by decide)
  rw [hz1] at this
  exact this
theorem Mg.start {w w1 w2 : World} {k x : Nat} {A : Array Value} {v : Value} (hv : Sq w.heap.size v (mtrR k x) w1) (hg1 : Gr w w1) (hA : ∀ i, i < 4 → ∃ u, A[i]? = some u ∧ Sq w1.heap.size u (lnR k x i) w2) (hg2 : Gr w1 w2) (Z : Array Value) :
    Mg w k x w2.heap.size (w2.heap.size + 1) A v (fun _ => 0#64) (((w2.alloc (.cells Z 52)).setRow w2.heap.size A).alloc (.cells (madeCells #[.int .u64 0] 4096) 22)) := by
  have s1 := Below.size hg1
  have s2 := Below.size hg2
  have hZ := World.alloc_heap_new w2 (.cells Z 52)
  have hb : ((w2.alloc (.cells Z 52)).setRow w2.heap.size A).heap[w2.heap.size]? = some (.cells A 52 (0, 0)) := setRow_heap _ _ _ _ _ _ hZ
  have hS : ((w2.alloc (.cells Z 52)).setRow w2.heap.size A).heap.size = w2.heap.size + 1 := by
    show ((w2.alloc _).heap.modify _ _).size = _
    rw [Array.size_modify, World.size_alloc]
  have hold : ∀ j, j < w2.heap.size → ((w2.alloc (.cells Z 52)).setRow w2.heap.size A).heap[j]? = w2.heap[j]? := fun j hj => by
    rw [setRow_far (by omega)]; exact blk_old w2 _ j hj
  have hgr : Gr w ((w2.alloc (.cells Z 52)).setRow w2.heap.size A) := ((Gr.trans hg1 hg2).alloc' _).setRow _ (by omega) _
  generalize (w2.alloc (.cells Z 52)).setRow w2.heap.size A = W at hS hb hold hgr ⊢
  have hN : ∀ j, j < w2.heap.size + 1 → (W.alloc (.cells (madeCells #[.int .u64 0] 4096) 22)).heap[j]? = W.heap[j]? := fun j hj => blk_old W _ j (by omega)
  have hs3 : (W.alloc (.cells (madeCells #[.int .u64 0] 4096) 22)).heap.size = w2.heap.size + 2 := by rw [World.size_alloc]; omega
  have hr := World.rowIs_made W (.int .u64 0) 4096 22
  rw [hS] at hr
  refine ⟨by rw [hN _ (by omega)]; exact hb, fun i hi => ?_, (hv.same (fun j e => ?_)), fun e => ?_, fun i hi => ⟨by rw [hr.cell hi, U_zero], hr.frozen i⟩, hgr.alloc' _, by omega, by omega, by omega, by omega⟩
  · obtain ⟨u, u1, u2⟩ := hA i hi
    refine ⟨u, u1, World.ownsRow.mono (u2.same (fun j e => ?_)) s1, fun e => ?_⟩
    · have := (u2.lt j e).2
      rw [hN j (by omega), hold j this]
    · have := (u2.lt _ e).2; omega
  · have := (hv.lt j e).2
    rw [hN j (by omega), hold j (by omega)]
    exact Below.block hg2 j this
  · have := (hv.lt _ e).2; omega

end Go.Proofs.YtnfakamfmkhlbabDoor.C
