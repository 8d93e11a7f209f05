import Derived.Test.YtnfakamfmkhlbaaGreatDoorZg9
import Derived.Test.YtnfakamfmkhlbaaGreatDoorZg8
namespace Go.Proofs.YtnfakamfmkhlbaaGreatDoor.C
open Go.ChangeShapes Go.WideShapes Go.ChangeAt Go.RowKit Go.Shelf
open Go.Proofs.YtnfakamfmkhlbaaGreatDoor.P
attribute [local go_sem] setCell_drewN alloc_drewN Oper.semAt_some
variable {m : Nat → BitVec 64} {wh : Bool} {own oth beh : BitVec 64} {fc : Nat → Bool} {FA : Array Value}
def menOf (FA : Array Value) : Array Value := (FA.toList.take 12).toArray
theorem Fld.isMen (r : Fld m wh own oth beh fc FA) : IsMen m (menOf FA) := by
 refine ⟨by simp [menOf, r.size], fun i hi => ?_⟩
 have := r.men i hi
 rw [menOf, List.getElem?_toArray, List.getElem?_take, if_pos hi, Array.getElem?_toList]
 exact this
theorem Fld.held (r : Fld m wh own oth beh fc FA) {b : Nat} {W : World} (h : FAt b FA W) : HeldAt b (menOf FA) W := by
 refine ⟨h.1, ?_, by simp [menOf, r.size]⟩
 have := h.take 12
 rwa [menOf]
theorem sqs_lt {s : BitVec 64} {x : Nat} (h : x ∈ sqs s) : x < 64 := by
 unfold sqs at h
 exact List.mem_range.1 (List.mem_filter.1 h).1
theorem pre_mem {α : Type} {pre xs : List α} {x : α} (h : pre ++ [x] <+: xs) : x ∈ xs := h.subset (by simp)
def anyB (m : Nat → BitVec 64) (s : BitVec 64) (wh : Bool) : Bool := (sqs s).any fun y => attackedS m (y : Int) (!wh)
theorem res_any (tmps : Array Value) (w : World) (b : Nat) (v : Value) (hp : tmps.getD 4 undef = .pointer (some ⟨b, 0, none⟩)) (hc : w.cell? ⟨b, 0, none⟩ = some v) : (results Tryz.f246 tmps).run Tryz.prog w = .ok v w := by
 have hp' : tmps[4]?.getD undef = .pointer (some ⟨b, 0, none⟩) := by simpa using hp
 simp [results, Tryz.results246, hp', asAddr, go_sem, hc]
theorem heapTwo (w : World) (o1 o2 : Obj) : ((w.alloc o1).alloc o2).heap[w.heap.size]? = some o1 ∧ ((w.alloc o1).alloc o2).heap[w.heap.size + 1]? = some o2 := by
 constructor
 ·rw [Below.heap_alloc _ _ _ (by simp)]; exact World.alloc_heap_new w _
 ·have := World.alloc_heap_new (w.alloc o1) o2; rwa [World.size_alloc] at this
set_option maxRecDepth 100000 in
set_option maxHeartbeats 4000000 in
theorem anyAtt_any (r : Fld m wh own oth beh fc FA) (s : BitVec 64) (w : World) (hT : TabIn w) : Calls Tryz.prog 246 #[.agg FA, .int .u64 (U s)] w fun e w' => e = .returned (.bool (anyB m s wh)) ∧ Gr w w' := by
 have hM := hide r.isMen
 have hr := hide r
 have hz := hide r.size
 clear r
 refine (callsIn_wide (n := 3)).1 ?_
 refine callsIn_of_wp_marks Tryz.func246 rfl trivial ?_ rfl
 simp only [Tryz.ntmps246, List.size_toArray, List.length_cons, List.length_nil, Nat.reduceAdd, Nat.reduceSub, Array.replicate_succ, Array.replicate_zero, List.push_toArray, List.append_toArray, List.nil_append, List.cons_append]
 gi_wp2_with (refine ⟨trivial, ?_⟩; gi_at_call 142; refine (callsIn_wide.2 (squares_any _ _)).mono ?_; rintro e w5 ⟨rfl, rfl⟩)
 obtain ⟨h1, h2⟩ := heapTwo w (.cells FA 259) (.cells #[.bool false] 4)
 generalize hw2 : (w.alloc (.cells FA 259)).alloc (.cells #[.bool false] 4) = w2 at h1 h2 ⊢
 have hs2 : w2.heap.size = w.heap.size + 2 := by rw [← hw2]; simp
 have hg2 : Gr w w2 := by rw [← hw2]; exact ((Gr.refl w).alloc _ _).alloc _ _
 clear hw2
 generalize hw3 : w2.alloc (.cells #[.int .u64 (U s)] 149) = w3
 have hs3 : w3.heap.size = w.heap.size + 3 := by rw [← hw3, World.size_alloc, hs2]
 have hg3 : Gr w2 w3 := by rw [← hw3]; exact (Gr.refl _).alloc _ _
 have b0 : w3.heap[w.heap.size]? = some (.cells FA 259) := (Below.block hg3 _ (by omega)).trans h1
 have b1 : w3.heap[w.heap.size + 1]? = some (.cells #[.bool false] 4) := (Below.block hg3 _ (by omega)).trans h2
 have hc3 : w3.cell? ⟨w2.heap.size, 0, none⟩ = some (.int .u64 (U s)) := by rw [← hw3]; exact (cell_new_l w2 _ _).1
 have hG3 := Gr.trans hg2 hg3
 have hT3 := hT.gr hG3
 have hT0 := hT.2
 clear hw3 hg3 h1 h2 hg2
 rw [hs2] at hc3
 refine range_out (gf := 224) (lb := #[.pointer (some ⟨w.heap.size + 2, 0, none⟩)]) rfl (enters_of Tryz.func224 (by kernel_rfl) rfl)
  (sq_it s (w.heap.size + 2) (fun _ => False) w3 hc3 hT3.1) (fun _ h => h.elim) (by rintro k (rfl | rfl) <;> omega) (Fr.refl _ _) (fun _ => rfl)
  (fun pre W => (∀ y ∈ pre, attackedS m (y : Int) (!wh) = false) ∧ Below w3.heap.size w3 W)
  (fun c pre W => c = .ret ∧ (∃ y ∈ pre, attackedS m (y : Int) (!wh) = true) ∧ W.heap[w.heap.size + 1]? = some (.cells #[.bool true] 4) ∧ Gr w W ∧ w3.heap.size ≤ W.heap.size)
  ?sI ?sX ⟨fun y hy => absurd hy (List.not_mem_nil), Below.refl _ _⟩ ?round ?done ?stop
 case sI => exact fun s A A' h f => ⟨h.1, h.2.trans (f.below h.2.size (fun _ _ hk => .inl hk))⟩
 case sX => exact fun c s A A' h f => ⟨h.1, h.2.1, f.same _ _ h.2.2.1 (.inl (by omega)), Below.trans h.2.2.2.1 ((f.below h.2.2.2.2 (fun _ _ hk => .inl hk)).mono (by omega)), Nat.le_trans h.2.2.2.2 f.size⟩
 case round =>
  intro l pre x W hbl hx hi hl
  gi_wp2
  refine ⟨Fr.refl _ _, ?_⟩
  rintro W2 - ⟨hpre, hB⟩ -
  have hxm := sqs_lt (pre_mem hx)
  have hx0 : (0 : Int) ≤ (x : Int) := by omega
  have hx1 : (x : Int) ≤ 63 := by omega
  have d0 := (Below.block hB w.heap.size (by omega)).trans b0
  have d2 := (Below.block hB (w.heap.size + 1) (by omega)).trans b1
  have hra : FAt w.heap.size FA W2 := ⟨(Array.getElem?_eq_some_iff.1 d0).1, fun j v hv => by rw [cell_of_row _ _ _ _ _ _ d0, Nat.zero_add, ← Array.getElem?_toList]; exact hv⟩
  have hheld := (unhide hr).held hra
  have c12 := hra.cell (unhide hr).wh
  have hat := hide (attacked_any m _ (unhide hM) (x : Int) hx0 hx1 (!wh) W2)
  have hszW : w.heap.size + 1 < W2.heap.size := (Array.getElem?_eq_some_iff.1 d2).1
  have hpre' := hide hpre
  have hB' := hide hB
  have d2' := hide d2
  have b' := hide (And.intro b0 b1)
  obtain ⟨v, hv⟩ : ∃ v, Hid (attackedS m (x : Int) (!wh) = v) := ⟨_, hide rfl⟩
  rw [unhide hv] at hat
  clear hpre hB d0 d2 b0 b1 hc3 hi hra
  cases v
  ·gi_wp2_with (first
    | (refine wpListIn_load_men rfl _ rfl w.heap.size rfl hheld ?_)
    | (refine ⟨trivial, ?_⟩; gi_at_call 145; refine (CallsIn.inRound l (callsIn_wide.2 (unhide hat))).mono ?_; rintro e w' ⟨rfl, hg⟩))
   refine ⟨Fr.of_gr hg, fun y hy => ?_, (unhide hB').trans (Below.mono hg (Below.size (unhide hB')))⟩
   rcases List.mem_append.1 hy with h | h
   ·exact unhide hpre' y h
   ·rw [List.mem_singleton] at h; subst h; exact unhide hv
  ·gi_wp2_with (first
    | (refine wpListIn_load_men rfl _ rfl w.heap.size rfl hheld ?_)
    | (refine ⟨trivial, ?_⟩; gi_at_call 145; refine (CallsIn.inRound l (callsIn_wide.2 (unhide hat))).mono ?_; rintro e w' ⟨rfl, hg⟩; have d3 := (Below.block hg (w.heap.size + 1) hszW).trans (unhide d2'); have d4 := cell_of_box_l d3; obtain ⟨d4a, d4b⟩ := d4))
   refine ⟨(Fr.of_gr hg).setCell _ ?_, rfl, ⟨x, List.mem_append.2 (.inr (List.mem_singleton.2 rfl)), unhide hv⟩, set_box d3, Below.setCell (Gr.trans (Gr.trans hG3 (unhide hB')) hg) (show w.heap.size ≤ w.heap.size + 1 by omega) _, ?_⟩
   ·rintro o - (q | q)
    ·rcases q with q | q
     ·simp at q
     ·simp at q; omega
    ·have := q.1; simp at this; omega
   ·have e1 := Below.size (unhide hB')
    have e2 := Below.size hg
    simp [World.setCell]
    omega
 case done =>
  rintro D W hD ⟨hpre, hB⟩ hK
  have d2 := (Below.block hB (w.heap.size + 1) (by omega)).trans b1
  obtain ⟨d2a, d2b⟩ := cell_of_box_l d2
  have hK' := hide ((KeepsOthers.setCell W ⟨w.heap.size + 1, 0, none⟩ (.bool false)).same D _ hK rfl)
  have hv : Hid (anyB m s wh = false) := hide (by
   unfold anyB
   rw [List.any_eq_false]
   intro y hy
   rw [hpre y hy]; decide)
  have hres := hide (cell_of_box_l (put_far (D := D) (o' := .deferred none) (set_box (v := .bool false) d2) (by omega))).1
  have hgr : Hid (Gr w ((W.setCell ⟨w.heap.size + 1, 0, none⟩ (.bool false)).putObj D (.deferred none))) := hide ((Below.setCell (Gr.trans hG3 hB) (show w.heap.size ≤ w.heap.size + 1 by omega) _).trans (belowK_b (w := w3) (n₀ := w.heap.size) (by omega) _ D _ _ hD (unhide hK') rfl rfl))
  clear hpre hB b0 b1 d2
  gi_wp2
  refine ⟨by simp, .inl ⟨_, _, rfl, run_takeDeferred (unhide hK'), ?_⟩⟩
  exact ⟨_, res_any _ _ _ _ rfl (unhide hres), by rw [unhide hv], unhide hgr⟩
 case stop =>
  rintro D c pre W hD hpre ⟨rfl, ⟨y, hy1, hy2⟩, d2, hgw, _⟩ hK
  have hv : Hid (anyB m s wh = true) := hide (by
   unfold anyB
   rw [List.any_eq_true]
   exact ⟨y, hpre.subset hy1, hy2⟩)
  have hres := hide (cell_of_box_l (put_far (D := D) (o' := .deferred none) d2 (by omega))).1
  have hgr : Hid (Gr w (W.putObj D (.deferred none))) := hide (Below.trans hgw (belowK_b (w := w3) (n₀ := w.heap.size) (by omega) _ D _ _ hD hK rfl rfl))
  gi_wp2
  refine ⟨by simp, .inl ⟨_, _, rfl, run_takeDeferred hK, ?_⟩⟩
  exact ⟨_, res_any _ _ _ _ rfl (unhide hres), by rw [unhide hv], unhide hgr⟩
end Go.Proofs.YtnfakamfmkhlbaaGreatDoor.C
