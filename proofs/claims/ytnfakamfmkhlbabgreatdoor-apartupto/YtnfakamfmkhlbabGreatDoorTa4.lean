import Derived.Test.YtnfakamfmkhlbabGreatDoorTa3
import Derived.Test.YtnfakamfmkhlbabGreatDoorKb21
import Derived.Test.YtnfakamfmkhlbabGreatDoorTa2
namespace Go.Proofs.YtnfakamfmkhlbabGreatDoor.C

open Go.ChangeShapes Go.WideShapes Go.ChangeAt Go.RowKit Go.Shelf

open Go.Proofs.YtnfakamfmkhlbabGreatDoor.P

attribute [local go_sem] setCell_drewN alloc_drewN Oper.semAt_some

/-! brief.which -/

def wh3 (a c d : Bool) (f : Nat) : List UInt8 := if a = false then [] else if c = false then [fileC f] else if d = false then [rankC f] else [fileC f, rankC f]

theorem whT_3 (L : List Mv) (f : Nat) : whT L f = wh3 (!L.isEmpty) (L.any fun y => decide (y.1 % 8 = f % 8)) (L.any fun y => decide (y.1 / 8 = f / 8)) f := by
  have h : ∀ p : Mv → Bool, (L.all (fun y => !p y) = true) ↔ (L.any p = false) := fun p => by
    rw [List.all_eq_true, List.any_eq_false]
    simp
  unfold whT wh3
  simp only [h, Bool.not_eq_false']
  rfl

theorem oth_no {pre : List Mv} {z : Nat → UInt8} {f t : Nat} {y : Mv} (h : ¬ (y.2.1 = t ∧ y.1 ≠ f ∧ z y.1 = z f)) : othB (pre ++ [y]) z f t = othB pre z f t := by
  unfold othB
  rw [List.filter_append, List.filter_cons_of_neg (by simpa [and_assoc] using h), List.filter_nil, List.append_nil]

theorem oth_yes {pre : List Mv} {z : Nat → UInt8} {f t : Nat} {y : Mv} (h : y.2.1 = t ∧ y.1 ≠ f ∧ z y.1 = z f) : othB (pre ++ [y]) z f t = othB pre z f t ++ [y] := by
  unfold othB
  rw [List.filter_append, List.filter_cons_of_pos (by simpa [and_assoc] using h), List.filter_nil]

structure W4 (Bx b0 y1 y2 f t : Nat) (Z1 Zf : Int) (W : World) : Prop where
  a0 : W.cell? ⟨Bx, 0, none⟩ = some (.int .i64 (y1 : Int))
  a1 : W.cell? ⟨Bx, 1, none⟩ = some (.int .i64 (y2 : Int))
  m0 : W.cell? ⟨b0 + 1 + 1, 0, none⟩ = some (.int .i64 (f : Int))
  m1 : W.cell? ⟨b0 + 1 + 1, 1, none⟩ = some (.int .i64 (t : Int))
  q1 : W.cell? ⟨b0 + 1, y1, none⟩ = some (.int .u8 Z1)
  q2 : W.cell? ⟨b0 + 1, f, none⟩ = some (.int .u8 Zf)

structure Wq (w : World) (S0 b0 : Nat) (PA M : Array Value) (a c d : Bool) (V : World) : Prop where
  pa : V.heap[b0 + 1]? = some (.cells PA 70)
  mv : V.heap[b0 + 1 + 1]? = some (.cells M 87)
  o : V.heap[b0 + 1 + 1 + 1]? = some (.cells #[.bool a] 4)
  fl : V.heap[b0 + 1 + 1 + 1 + 1]? = some (.cells #[.bool c] 4)
  rk : V.heap[b0 + 1 + 1 + 1 + 1 + 1]? = some (.cells #[.bool d] 4)
  gr : Gr w V
  sz : S0 ≤ V.heap.size

theorem Wq.same {w : World} {S0 b0 : Nat} {PA M : Array Value} {a c d : Bool} {V V' : World} (h : Wq w S0 b0 PA M a c d V) (g : Gr w V') (hs : V.heap.size ≤ V'.heap.size) (hk : ∀ k o, k < b0 + 6 → V.heap[k]? = some o → V'.heap[k]? = some o) : Wq w S0 b0 PA M a c d V' :=
  ⟨hk _ _ (by omega) h.pa, hk _ _ (by omega) h.mv, hk _ _ (by omega) h.o, hk _ _ (by omega) h.fl, hk _ _ (by omega) h.rk, g, Nat.le_trans h.sz hs⟩

theorem Wq.drew {w : World} {S0 b0 : Nat} {PA M : Array Value} {a c d : Bool} {V : World} (h : Wq w S0 b0 PA M a c d V) : Wq w S0 b0 PA M a c d V.drew := ⟨h.pa, h.mv, h.o, h.fl, h.rk, h.gr.drew, h.sz⟩

theorem Wq.setO {w : World} {S0 b0 : Nat} {PA M : Array Value} {a c d : Bool} {V : World} (hb : b0 = w.heap.size) (h : Wq w S0 b0 PA M a c d V) (v : Bool) : Wq w S0 b0 PA M v c d (V.setCell ⟨b0 + 1 + 1 + 1, 0, none⟩ (.bool v)) := by
  refine ⟨?_, ?_, set_box h.o, ?_, ?_, Below.setCell h.gr (show w.heap.size ≤ b0 + 1 + 1 + 1 by omega) _, by rw [World.size_setCell]; exact h.sz⟩
  all_goals rw [Below.heap_setCell _ _ _ _ (by first | (simp; done) | (simp; omega))]
  · exact h.pa
  · exact h.mv
  · exact h.fl
  · exact h.rk

theorem Wq.setF {w : World} {S0 b0 : Nat} {PA M : Array Value} {a c d : Bool} {V : World} (hb : b0 = w.heap.size) (h : Wq w S0 b0 PA M a c d V) (v : Bool) : Wq w S0 b0 PA M a v d (V.setCell ⟨b0 + 1 + 1 + 1 + 1, 0, none⟩ (.bool v)) := by
  refine ⟨?_, ?_, ?_, set_box h.fl, ?_, Below.setCell h.gr (show w.heap.size ≤ b0 + 1 + 1 + 1 + 1 by omega) _, by rw [World.size_setCell]; exact h.sz⟩
  all_goals rw [Below.heap_setCell _ _ _ _ (by first | (simp; done) | (simp; omega))]
  · exact h.pa
  · exact h.mv
  · exact h.o
  · exact h.rk

theorem Wq.setR {w : World} {S0 b0 : Nat} {PA M : Array Value} {a c d : Bool} {V : World} (hb : b0 = w.heap.size) (h : Wq w S0 b0 PA M a c d V) (v : Bool) : Wq w S0 b0 PA M a c v (V.setCell ⟨b0 + 1 + 1 + 1 + 1 + 1, 0, none⟩ (.bool v)) := by
  refine ⟨?_, ?_, ?_, ?_, set_box h.rk, Below.setCell h.gr (show w.heap.size ≤ b0 + 1 + 1 + 1 + 1 + 1 by omega) _, by rw [World.size_setCell]; exact h.sz⟩
  all_goals rw [Below.heap_setCell _ _ _ _ (by first | (simp; done) | (simp; omega))]
  · exact h.pa
  · exact h.mv
  · exact h.o
  · exact h.fl

theorem wq_start (w : World) (PA M : Array Value) : Wq w 0 w.heap.size PA M false false false ((((((w.alloc (.cells setA 74)).alloc (.cells PA 70)).alloc (.cells M 87)).alloc (.cells #[.bool false] 4)).alloc (.cells #[.bool false] 4)).alloc (.cells #[.bool false] 4)) := by
  have g : Gr w ((((((w.alloc (.cells setA 74)).alloc (.cells PA 70)).alloc (.cells M 87)).alloc (.cells #[.bool false] 4)).alloc (.cells #[.bool false] 4)).alloc (.cells #[.bool false] 4)) := ((((((Gr.refl w).alloc _ _).alloc _ _).alloc _ _).alloc _ _).alloc _ _).alloc _ _
  refine ⟨?_, ?_, ?_, ?_, ?_, g, Nat.zero_le _⟩ <;> (simp only [World.alloc, Array.getElem?_push, Array.size_push]; simp)

set_option linter.unusedSimpArgs false in
set_option maxRecDepth 100000 in
set_option maxHeartbeats 4000000 in
theorem which_any {z : Nat → UInt8} {wh : Bool} {fc : Nat → Bool} {b h g : Int} {PA : Array Value} (r : Row z wh fc b h g PA) (hok : layOk z = true) (hb0 : -1 ≤ b) (hb1 : b ≤ 63) (f t : Nat) (hf : f < 64) (u : UInt8) (w : World) (hT : TabIn w) (hC : CasTab w) :
    Calls Tryz.prog 203 #[.agg setA, .agg PA, .agg #[.int .i64 (f : Int), .int .i64 (t : Int), .int .u8 (u.toNat : Int)]] w fun e w' => e = .returned (.string (str (whT (othB (movS z wh fc b) z f t) f))) ∧ Gr w w' := by
  rw [whT_3]
  obtain ⟨va, hva⟩ : ∃ v, Hid ((!(othB (movS z wh fc b) z f t).isEmpty) = v) := ⟨_, hide rfl⟩
  obtain ⟨vc, hvc⟩ : ∃ v, Hid (((othB (movS z wh fc b) z f t).any fun y => decide (y.1 % 8 = f % 8)) = v) := ⟨_, hide rfl⟩
  obtain ⟨vd, hvd⟩ : ∃ v, Hid (((othB (movS z wh fc b) z f t).any fun y => decide (y.1 / 8 = f / 8)) = v) := ⟨_, hide rfl⟩
  rw [unhide hva, unhide hvc, unhide hvd]
  have hok' : ∀ x ∈ movS z wh fc b, okM x := movS_ok z wh fc b
  have hst := hide (wq_start w PA #[.int .i64 (f : Int), .int .i64 (t : Int), .int .u8 (u.toNat : Int)])
  have hsz0 : Hid (((((((w.alloc (.cells setA 74)).alloc (.cells PA 70)).alloc (.cells #[.int .i64 (f : Int), .int .i64 (t : Int), .int .u8 (u.toNat : Int)] 87)).alloc (.cells #[.bool false] 4)).alloc (.cells #[.bool false] 4)).alloc (.cells #[.bool false] 4)).heap.size = w.heap.size + 6) := hide (by simp)
  have hway : Hid (((((((w.alloc (.cells setA 74)).alloc (.cells PA 70)).alloc (.cells #[.int .i64 (f : Int), .int .i64 (t : Int), .int .u8 (u.toNat : Int)] 87)).alloc (.cells #[.bool false] 4)).alloc (.cells #[.bool false] 4)).alloc (.cells #[.bool false] 4)).cell? ⟨w.heap.size, 1, none⟩ = some (.func (.func 61) #[] #[])) := hide (by
    have g1 : Gr (w.alloc (.cells setA 74)) ((((((w.alloc (.cells setA 74)).alloc (.cells PA 70)).alloc (.cells #[.int .i64 (f : Int), .int .i64 (t : Int), .int .u8 (u.toNat : Int)] 87)).alloc (.cells #[.bool false] 4)).alloc (.cells #[.bool false] 4)).alloc (.cells #[.bool false] 4)) := (((((Gr.refl _).alloc _ _).alloc _ _).alloc _ _).alloc _ _).alloc _ _
    have e1 := (Below.block g1 w.heap.size (by rw [World.size_alloc]; omega)).trans (World.alloc_heap_new w _)
    rw [cell_of_row _ _ _ _ _ _ e1]; rfl)
  have hpz := r.size
  have hi72 : (Tryz.prog.info? 70).map (·.size) = some PA.toList.length := by rw [Array.length_toList, hpz]; exact infoP72
  refine (callsIn_wide (n := 9)).1 ?_
  refine callsIn_of_wp_marks Tryz.func203 rfl trivial ?_ rfl
  simp only [Tryz.ntmps203, List.size_toArray, List.length_cons, List.length_nil, Nat.reduceAdd, Nat.reduceSub, Array.replicate_succ, Array.replicate_zero, List.push_toArray, List.append_toArray, List.nil_append, List.cons_append]
  refine wpIn_wide.2 ?_
  go_upto_region 2 with fail
  generalize ((((((w.alloc (.cells setA 74)).alloc (.cells PA 70)).alloc (.cells #[.int .i64 (f : Int), .int .i64 (t : Int), .int .u8 (u.toNat : Int)] 87)).alloc (.cells #[.bool false] 4)).alloc (.cells #[.bool false] 4)).alloc (.cells #[.bool false] 4)) = w0 at hst hsz0 hway ⊢
  have c1 := unhide hway
  have hg0 := (unhide hst).gr
  have hsz := unhide hsz0
  go_wp2_with (first
    | (go_at_call 61; refine (setsMoves_mk PA _).mono ?_; rintro e w2 ⟨rfl, hp2, hg2⟩)
    | (refine wpList_load_row rfl 70 _ rfl (w.heap.size + 1) rfl 70 PA (0, 0) _ (unhide hst).pa Tryz.underlying70 rfl (by rw [Array.length_toList] at hi72; exact hi72) ?_))
  have hgw2 := Gr.trans hg0 hg2
  have hit := movesS_it r hok hb0 hb1 w0.heap.size (fun _ => False) (fun _ q => q.elim) w2 hp2 (hT.gr hgw2) (hC.gr hgw2)
  have hs2 := Below.size hg2
  have hbl := (Array.getElem?_eq_some_iff.1 hp2).1
  have hW2 : Wq w w2.heap.size w.heap.size PA #[.int .i64 (f : Int), .int .i64 (t : Int), .int .u8 (u.toNat : Int)] false false false w2 := by
    have q := (unhide hst).same (V' := w2) hgw2 hs2 (fun k o hk ho => (Below.block hg2 _ (Array.getElem?_eq_some_iff.1 ho).1).trans ho)
    exact ⟨q.pa, q.mv, q.o, q.fl, q.rk, q.gr, Nat.le_refl _⟩
  have hT2 := hT.2
  have hC2 := hC.2
  rw [hsz] at hp2 hs2 hbl hit
  clear hst hsz0 hway c1 hg0 hg2
  refine wpIn_wide.1 (range_out (n := 9) (gf := 128) (lb := #[.pointer (some ⟨w.heap.size + 6, 0, none⟩)]) rfl (enters_of Tryz.func128 (by kernel_rfl) rfl) hit (fun _ h => h.elim) (by rintro k (rfl | rfl | rfl) <;> omega) (Fr.refl _ _) (fun _ => rfl)
    (fun pre V => Wq w w2.heap.size w.heap.size PA #[.int .i64 (f : Int), .int .i64 (t : Int), .int .u8 (u.toNat : Int)] (!(othB pre z f t).isEmpty) ((othB pre z f t).any fun y => decide (y.1 % 8 = f % 8)) ((othB pre z f t).any fun y => decide (y.1 / 8 = f / 8)) V)
    (fun _ _ _ => False)
    ?sI (fun _ _ _ _ h _ => h) hW2 ?rnd ?done (fun _ _ _ _ _ _ h _ => h.elim))
  case sI => exact fun s A A' h q => h.same (Below.trans h.gr (q.below (n := w.heap.size) (Below.size h.gr) (fun k o hk => .inl (by omega)))) q.size (fun k o hk ho => q.same _ _ ho (.inl (by omega)))
  case done =>
    rintro D V hD hV hK
    have a1 := (cell_of_box_l hV.o).1
    have a2 := (cell_of_box_l hV.fl).1
    have a3 := (cell_of_box_l hV.rk).1
    obtain ⟨x0, x1, x2⟩ := mv_cells hV.mv
    have hgV := hide hV.gr
    rw [unhide hva] at a1
    rw [unhide hvc] at a2
    rw [unhide hvd] at a3
    have sz : (str [fileC f, rankC f]).size = 2 := rfl
    have ex1 : (str [fileC f, rankC f]).extract 0 1 = str [fileC f] := rfl
    have ex2 : (str [fileC f, rankC f]).extract 1 2 = str [rankC f] := rfl
    have hN := hide (fun W => nameG_any f hf W)
    have hDr : Hid (∀ W, Gr V W → W.heap[D]? = some (.deferred (some [])) ∧ Gr w W) := hide fun W gW => ⟨(Below.block gW _ (Array.getElem?_eq_some_iff.1 hK).1).trans hK, Gr.trans (unhide hgV) gW⟩
    clear hV hit hW2 hT hC r hp2 hva hvc hvd
    go_upto_region 9 with (go_at_call 69; refine (unhide hN _).mono ?_; rintro e w5 ⟨rfl, hg5⟩)
    obtain ⟨hK5, hg5w⟩ := unhide hDr _ hg5
    have b1 := (Below.cell hg5 (World.block_lt_of_cell? _ _ a1)).trans a1
    have b2 := (Below.cell hg5 (World.block_lt_of_cell? _ _ a2)).trans a2
    have b3 := (Below.cell hg5 (World.block_lt_of_cell? _ _ a3)).trans a3
    clear a1 a2 a3 hN hDr hg5 x0 x1 x2
    have hfin := hide hg5w
    clear hg5w
    cases va with
    | false =>
      go_wp2_with fail
      refine ⟨by simp, .inl ⟨_, _, rfl, run_takeDeferred hK5, ?_⟩⟩
      exact ⟨_, results_tmp rfl _ _ _, rfl, Below.trans (unhide hfin) (belowK_b (w := w2) (n₀ := w.heap.size) (by omega) _ D _ _ hD hK5 rfl rfl)⟩
    | true =>
      cases vc with
      | false =>
        go_wp2_with fail
        refine ⟨by simp, .inl ⟨_, _, rfl, run_takeDeferred hK5, ?_⟩⟩
        exact ⟨_, results_tmp rfl _ _ _, rfl, Below.trans (unhide hfin) (belowK_b (w := w2) (n₀ := w.heap.size) (by omega) _ D _ _ hD hK5 rfl rfl)⟩
      | true =>
        cases vd with
        | false =>
          go_wp2_with fail
          refine ⟨by simp, .inl ⟨_, _, rfl, run_takeDeferred hK5, ?_⟩⟩
          exact ⟨_, results_tmp rfl _ _ _, rfl, Below.trans (unhide hfin) (belowK_b (w := w2) (n₀ := w.heap.size) (by omega) _ D _ _ hD hK5 rfl rfl)⟩
        | true =>
          go_wp2_with fail
          refine ⟨by simp, .inl ⟨_, _, rfl, run_takeDeferred hK5, ?_⟩⟩
          exact ⟨_, results_tmp rfl _ _ _, rfl, Below.trans (unhide hfin) (belowK_b (w := w2) (n₀ := w.heap.size) (by omega) _ D _ _ hD hK5 rfl rfl)⟩
  case rnd =>
    rintro l1 pre ⟨y1, y2, y3⟩ V hbl' hx hV hl
    have hl' : l1 < V.heap.size := hl.elim fun r hr => (Array.getElem?_eq_some_iff.1 hr).1
    simp only [encM, mvV]
    gi_wp2
    refine ⟨(Fr.refl _ _).alloc _, ?_⟩
    intro V2 f2 hV2 hl2
    have kx : V2.heap[V.heap.size]? = some (.cells #[.int .i64 (y1 : Int), .int .i64 (y2 : Int), .int .u8 (y3.toNat : Int)] 87) := f2.same _ _ (World.alloc_heap_new V _) (by omega)
    have hVs := hV.sz
    generalize V.heap.size = Bx at kx hl' hVs ⊢
    clear hV f2
    have hoky := hok' _ (hx.subset (List.mem_append_right _ (List.mem_singleton.2 rfl)))
    have hy1 : y1 < 64 := hoky.1
    have hS4 : Hid (W4 Bx w.heap.size y1 y2 f t ((z y1).toNat : Int) ((z f).toNat : Int) V2.drew) := hide ⟨(mv_cells (show V2.drew.heap[Bx]? = _ from kx)).1, (mv_cells (show V2.drew.heap[Bx]? = _ from kx)).2.1, (mv_cells (show V2.drew.heap[w.heap.size + 1 + 1]? = _ from hV2.mv)).1, (mv_cells (show V2.drew.heap[w.heap.size + 1 + 1]? = _ from hV2.mv)).2.1, by rw [cell_of_row _ _ _ _ _ _ (show V2.drew.heap[w.heap.size + 1]? = _ from hV2.pa)]; exact r.sq y1 hy1, by rw [cell_of_row _ _ _ _ _ _ (show V2.drew.heap[w.heap.size + 1]? = _ from hV2.pa)]; exact r.sq f hf⟩
    have hCz : z y1 = z f ↔ ((z y1).toNat : Int) = ((z f).toNat : Int) := ⟨fun q => by rw [q], fun q => UInt8.toNat_inj.1 (by omega)⟩
    have hfin : Hid (∀ W a c d, Wq w w2.heap.size w.heap.size PA #[.int .i64 (f : Int), .int .i64 (t : Int), .int .u8 (u.toNat : Int)] a c d W → Fr (fun k _ => k ≠ w.heap.size + 1 + 1 + 1 ∧ k ≠ w.heap.size + 1 + 1 + 1 + 1 ∧ k ≠ w.heap.size + 1 + 1 + 1 + 1 + 1) V2 W → a = (!(othB (pre ++ [(y1, y2, y3)]) z f t).isEmpty) → c = ((othB (pre ++ [(y1, y2, y3)]) z f t).any fun y => decide (y.1 % 8 = f % 8)) → d = ((othB (pre ++ [(y1, y2, y3)]) z f t).any fun y => decide (y.1 / 8 = f / 8)) →
        Fr (Rnd1 w2.heap.size (fun _ => False) (fun k => k = w.heap.size + 6 ∨ k = 2 ∨ k = 3)) V2 W ∧ Wq w w2.heap.size w.heap.size PA #[.int .i64 (f : Int), .int .i64 (t : Int), .int .u8 (u.toNat : Int)] (!(othB (pre ++ [(y1, y2, y3)]) z f t).isEmpty) ((othB (pre ++ [(y1, y2, y3)]) z f t).any fun y => decide (y.1 % 8 = f % 8)) ((othB (pre ++ [(y1, y2, y3)]) z f t).any fun y => decide (y.1 / 8 = f / 8)) W) := hide (fun W a c d hW hF e1 e2 e3 => by
      subst e1 e2 e3
      refine ⟨hF.mono ?_, hW⟩
      rintro k o - (q | q)
      · rcases q with q | q | q <;> omega
      · have := q.1; omega)
    have hVh := hide hV2
    have b64 : ¬ (64 ≤ (y1 : Int)) := by omega
    have c64 : ¬ (64 ≤ (f : Int)) := by omega
    obtain ⟨oc, hoc⟩ : ∃ v, Hid (((othB pre z f t).any fun y => decide (y.1 % 8 = f % 8)) = v) := ⟨_, hide rfl⟩
    obtain ⟨od, hod⟩ : ∃ v, Hid (((othB pre z f t).any fun y => decide (y.1 / 8 = f / 8)) = v) := ⟨_, hide rfl⟩
    obtain ⟨nc, hnc⟩ : ∃ v, Hid ((oc || decide (y1 % 8 = f % 8)) = v) := ⟨_, hide rfl⟩
    obtain ⟨nd, hnd⟩ : ∃ v, Hid ((od || decide (y1 / 8 = f / 8)) = v) := ⟨_, hide rfl⟩
    have hVq : Wq w w2.heap.size w.heap.size PA #[.int .i64 (f : Int), .int .i64 (t : Int), .int .u8 (u.toNat : Int)] (!(othB pre z f t).isEmpty) oc od V2.drew := by
      rw [← unhide hoc, ← unhide hod]; exact hV2.drew
    have hV3 := hVq.setO rfl true
    have hV4 := hV3.setF rfl nc
    have hV5 := hide (hV4.setR rfl nd)
    have k3 : (V2.drew.setCell ⟨w.heap.size + 1 + 1 + 1, 0, none⟩ (.bool true)).heap[Bx]? = some (.cells #[.int .i64 (y1 : Int), .int .i64 (y2 : Int), .int .u8 (y3.toNat : Int)] 87) := by
      rw [Below.heap_setCell _ _ _ _ (by simp; omega)]; exact kx
    have k4 : ((V2.drew.setCell ⟨w.heap.size + 1 + 1 + 1, 0, none⟩ (.bool true)).setCell ⟨w.heap.size + 1 + 1 + 1 + 1, 0, none⟩ (.bool nc)).heap[Bx]? = some (.cells #[.int .i64 (y1 : Int), .int .i64 (y2 : Int), .int .u8 (y3.toNat : Int)] 87) := by
      rw [Below.heap_setCell _ _ _ _ (by simp; omega)]; exact k3
    obtain ⟨oa, g9⟩ : ∃ oa, V2.drew.cell? ⟨w.heap.size + 1 + 1 + 1, 0, none⟩ = some (.bool oa) := ⟨_, (cell_of_box_l hVq.o).1⟩
    have g0 : V2.drew.frozen? ⟨w.heap.size + 1 + 1 + 1, 0, none⟩ = false := (cell_of_box_l hVq.o).2
    have g1 : ((V2.setCell ⟨w.heap.size + 1 + 1 + 1, 0, none⟩ (.bool true)).drew).cell? ⟨w.heap.size + 1 + 1 + 1 + 1, 0, none⟩ = some (.bool oc) := (cell_of_box_l hV3.fl).1
    have g2 : ((V2.setCell ⟨w.heap.size + 1 + 1 + 1, 0, none⟩ (.bool true)).drew).frozen? ⟨w.heap.size + 1 + 1 + 1 + 1, 0, none⟩ = false := (cell_of_box_l hV3.fl).2
    have g3 : (((V2.setCell ⟨w.heap.size + 1 + 1 + 1, 0, none⟩ (.bool true)).setCell ⟨w.heap.size + 1 + 1 + 1 + 1, 0, none⟩ (.bool nc)).drew).cell? ⟨w.heap.size + 1 + 1 + 1 + 1 + 1, 0, none⟩ = some (.bool od) := (cell_of_box_l hV4.rk).1
    have g4 : (((V2.setCell ⟨w.heap.size + 1 + 1 + 1, 0, none⟩ (.bool true)).setCell ⟨w.heap.size + 1 + 1 + 1 + 1, 0, none⟩ (.bool nc)).drew).frozen? ⟨w.heap.size + 1 + 1 + 1 + 1 + 1, 0, none⟩ = false := (cell_of_box_l hV4.rk).2
    have g5 : ((V2.setCell ⟨w.heap.size + 1 + 1 + 1, 0, none⟩ (.bool true)).drew).cell? ⟨Bx, 0, none⟩ = some (.int .i64 (y1 : Int)) := (mv_cells k3).1
    have g6 : (((V2.setCell ⟨w.heap.size + 1 + 1 + 1, 0, none⟩ (.bool true)).setCell ⟨w.heap.size + 1 + 1 + 1 + 1, 0, none⟩ (.bool nc)).drew).cell? ⟨Bx, 0, none⟩ = some (.int .i64 (y1 : Int)) := (mv_cells k4).1
    have g7 : ((V2.setCell ⟨w.heap.size + 1 + 1 + 1, 0, none⟩ (.bool true)).drew).cell? ⟨w.heap.size + 1 + 1, 0, none⟩ = some (.int .i64 (f : Int)) := (mv_cells hV3.mv).1
    have g8 : (((V2.setCell ⟨w.heap.size + 1 + 1 + 1, 0, none⟩ (.bool true)).setCell ⟨w.heap.size + 1 + 1 + 1 + 1, 0, none⟩ (.bool nc)).drew).cell? ⟨w.heap.size + 1 + 1, 0, none⟩ = some (.int .i64 (f : Int)) := (mv_cells hV4.mv).1
    have hV5' : Hid (Wq w w2.heap.size w.heap.size PA #[.int .i64 (f : Int), .int .i64 (t : Int), .int .u8 (u.toNat : Int)] true nc nd ((((V2.setCell ⟨w.heap.size + 1 + 1 + 1, 0, none⟩ (.bool true)).setCell ⟨w.heap.size + 1 + 1 + 1 + 1, 0, none⟩ (.bool nc)).setCell ⟨w.heap.size + 1 + 1 + 1 + 1 + 1, 0, none⟩ (.bool nd)).drew)) := hide (show Wq w w2.heap.size w.heap.size PA #[.int .i64 (f : Int), .int .i64 (t : Int), .int .u8 (u.toNat : Int)] true nc nd (((V2.drew.setCell ⟨w.heap.size + 1 + 1 + 1, 0, none⟩ (.bool true)).setCell ⟨w.heap.size + 1 + 1 + 1 + 1, 0, none⟩ (.bool nc)).setCell ⟨w.heap.size + 1 + 1 + 1 + 1 + 1, 0, none⟩ (.bool nd)) from unhide hV5)
    have hFr : Hid (Fr (fun k _ => k ≠ w.heap.size + 1 + 1 + 1 ∧ k ≠ w.heap.size + 1 + 1 + 1 + 1 ∧ k ≠ w.heap.size + 1 + 1 + 1 + 1 + 1) V2 ((((V2.setCell ⟨w.heap.size + 1 + 1 + 1, 0, none⟩ (.bool true)).setCell ⟨w.heap.size + 1 + 1 + 1 + 1, 0, none⟩ (.bool nc)).setCell ⟨w.heap.size + 1 + 1 + 1 + 1 + 1, 0, none⟩ (.bool nd)).drew)) := hide (Fr.drew ((((Fr.refl _ V2).setCell _ (fun o _ q => q.1 rfl)).setCell _ (fun o _ q => q.2.1 rfl)).setCell _ (fun o _ q => q.2.2 rfl)))
    clear hV5
    clear hVq hV3 hV4 k3 k4
    have hxl : ∀ n : Nat, IntKind.i64.wrap (n : Int) = IntKind.i64.wrap (n : Int) := fun _ => rfl
    generalize hZ1 : ((z y1).toNat : Int) = Z1 at hS4 hCz
    generalize hZf : ((z f).toNat : Int) = Zf at hS4 hCz
    clear hV2 kx hx hit hW2 hva hvc hvd hok' r hT hC hZ1 hZf hxl hf hy1
    by_cases hA : y2 = t
    · have hA' : (y2 : Int) = (t : Int) := by omega
      by_cases hB : y1 = f
      · have hB' : (y1 : Int) = (f : Int) := by omega
        have hno : Hid (othB (pre ++ [(y1, y2, y3)]) z f t = othB pre z f t) := hide (oth_no fun q => q.2.1 hB)
        clear hCz
        gi_wp2
        refine region_in_round (S := W4 Bx w.heap.size y1 y2 f t Z1 Zf) (by kernel_rfl) (fun ⟨_, _, h⟩ => h) (by kernel_rfl) (unhide hS4) (fun hHeld => ?_)
        refine wpAnyH_take (i := 0) (v := .pointer (some ⟨Bx, 1, none⟩)) rfl (by kernel_rfl) (by kernel_rfl) (by kernel_rfl) (fun _ _ _ h => h) (Or.inl ⟨by rfl, fun w hw => (by obtain ⟨a0, a1, m0, m1, q1, q2⟩ := hw; go_simp)⟩) hHeld ?_
        simp only [Act.put, List.getElem_toArray, List.getElem_cons_zero, List.getElem_cons_succ, List.setIfInBounds_toArray, List.set_cons_zero, List.set_cons_succ]
        refine wpAnyH_take (i := 1) (v := .int .i64 (y2 : Int)) rfl (by kernel_rfl) (by kernel_rfl) (by kernel_rfl) (fun _ _ _ h => h) (Or.inl ⟨by rfl, fun w hw => (by obtain ⟨a0, a1, m0, m1, q1, q2⟩ := hw; go_simp)⟩) hHeld ?_
        simp only [Act.put, List.getElem_toArray, List.getElem_cons_zero, List.getElem_cons_succ, List.setIfInBounds_toArray, List.set_cons_zero, List.set_cons_succ]
        refine wpAnyH_take (i := 2) (v := .pointer (some ⟨w.heap.size + 1 + 1, 1, none⟩)) rfl (by kernel_rfl) (by kernel_rfl) (by kernel_rfl) (fun _ _ _ h => h) (Or.inl ⟨by rfl, fun w hw => (by obtain ⟨a0, a1, m0, m1, q1, q2⟩ := hw; go_simp)⟩) hHeld ?_
        simp only [Act.put, List.getElem_toArray, List.getElem_cons_zero, List.getElem_cons_succ, List.setIfInBounds_toArray, List.set_cons_zero, List.set_cons_succ]
        refine wpAnyH_take (i := 3) (v := .int .i64 (t : Int)) rfl (by kernel_rfl) (by kernel_rfl) (by kernel_rfl) (fun _ _ _ h => h) (Or.inl ⟨by rfl, fun w hw => (by obtain ⟨a0, a1, m0, m1, q1, q2⟩ := hw; go_simp)⟩) hHeld ?_
        simp only [Act.put, List.getElem_toArray, List.getElem_cons_zero, List.getElem_cons_succ, List.setIfInBounds_toArray, List.set_cons_zero, List.set_cons_succ]
        refine wpAnyH_take (i := 4) (v := .bool true) rfl (by kernel_rfl) (by kernel_rfl) (by kernel_rfl) (fun _ _ _ h => h) (Or.inl ⟨by rfl, fun w hw => (by obtain ⟨a0, a1, m0, m1, q1, q2⟩ := hw; go_simp)⟩) hHeld ?_
        simp only [Act.put, List.getElem_toArray, List.getElem_cons_zero, List.getElem_cons_succ, List.setIfInBounds_toArray, List.set_cons_zero, List.set_cons_succ]
        refine wpAnyH_take (i := 5) (v := .bool true) rfl (by kernel_rfl) (by kernel_rfl) (by kernel_rfl) (fun _ _ _ h => h) (Or.inl ⟨by rfl, fun w hw => (by obtain ⟨a0, a1, m0, m1, q1, q2⟩ := hw; go_simp)⟩) hHeld ?_
        simp only [Act.put, List.getElem_toArray, List.getElem_cons_zero, List.getElem_cons_succ, List.setIfInBounds_toArray, List.set_cons_zero, List.set_cons_succ]
        refine wpAnyH_take (i := 6) (v := .pointer (some ⟨Bx, 0, none⟩)) rfl (by kernel_rfl) (by kernel_rfl) (by kernel_rfl) (fun _ _ _ h => h) (Or.inl ⟨by rfl, fun w hw => (by obtain ⟨a0, a1, m0, m1, q1, q2⟩ := hw; go_simp)⟩) hHeld ?_
        simp only [Act.put, List.getElem_toArray, List.getElem_cons_zero, List.getElem_cons_succ, List.setIfInBounds_toArray, List.set_cons_zero, List.set_cons_succ]
        refine wpAnyH_take (i := 7) (v := .int .i64 (y1 : Int)) rfl (by kernel_rfl) (by kernel_rfl) (by kernel_rfl) (fun _ _ _ h => h) (Or.inl ⟨by rfl, fun w hw => (by obtain ⟨a0, a1, m0, m1, q1, q2⟩ := hw; go_simp)⟩) hHeld ?_
        simp only [Act.put, List.getElem_toArray, List.getElem_cons_zero, List.getElem_cons_succ, List.setIfInBounds_toArray, List.set_cons_zero, List.set_cons_succ]
        refine wpAnyH_take (i := 8) (v := .pointer (some ⟨w.heap.size + 1 + 1, 0, none⟩)) rfl (by kernel_rfl) (by kernel_rfl) (by kernel_rfl) (fun _ _ _ h => h) (Or.inl ⟨by rfl, fun w hw => (by obtain ⟨a0, a1, m0, m1, q1, q2⟩ := hw; go_simp)⟩) hHeld ?_
        simp only [Act.put, List.getElem_toArray, List.getElem_cons_zero, List.getElem_cons_succ, List.setIfInBounds_toArray, List.set_cons_zero, List.set_cons_succ]
        refine wpAnyH_take (i := 9) (v := .int .i64 (f : Int)) rfl (by kernel_rfl) (by kernel_rfl) (by kernel_rfl) (fun _ _ _ h => h) (Or.inl ⟨by rfl, fun w hw => (by obtain ⟨a0, a1, m0, m1, q1, q2⟩ := hw; go_simp)⟩) hHeld ?_
        simp only [Act.put, List.getElem_toArray, List.getElem_cons_zero, List.getElem_cons_succ, List.setIfInBounds_toArray, List.set_cons_zero, List.set_cons_succ]
        refine wpAnyH_take (i := 10) (v := .bool false) rfl (by kernel_rfl) (by kernel_rfl) (by kernel_rfl) (fun _ _ _ h => h) (Or.inl ⟨by rfl, fun w hw => (by obtain ⟨a0, a1, m0, m1, q1, q2⟩ := hw; go_simp)⟩) hHeld ?_
        simp only [Act.put, List.getElem_toArray, List.getElem_cons_zero, List.getElem_cons_succ, List.setIfInBounds_toArray, List.set_cons_zero, List.set_cons_succ]
        refine wpAnyH_take (i := 11) (v := .bool false) rfl (by kernel_rfl) (by kernel_rfl) (by kernel_rfl) (fun _ _ _ h => h) (Or.inl ⟨by rfl, fun w hw => (by obtain ⟨a0, a1, m0, m1, q1, q2⟩ := hw; go_simp)⟩) hHeld ?_
        simp only [Act.put, List.getElem_toArray, List.getElem_cons_zero, List.getElem_cons_succ, List.setIfInBounds_toArray, List.set_cons_zero, List.set_cons_succ]
        refine wpAnyH_take (i := 12) (v := .bool false) rfl (by kernel_rfl) (by kernel_rfl) (by kernel_rfl) (fun _ _ _ h => h) (Or.inl ⟨by rfl, fun w hw => (by obtain ⟨a0, a1, m0, m1, q1, q2⟩ := hw; go_simp)⟩) hHeld ?_
        simp only [Act.put, List.getElem_toArray, List.getElem_cons_zero, List.getElem_cons_succ, List.setIfInBounds_toArray, List.set_cons_zero, List.set_cons_succ]
        refine wpAnyH_take (i := 13) (v := undef) rfl (by kernel_rfl) (by kernel_rfl) (by kernel_rfl) (fun _ _ _ h => h) (Or.inr ⟨by rfl, rfl⟩) hHeld ?_
        simp only [Act.put, List.getElem_toArray, List.getElem_cons_zero, List.getElem_cons_succ, List.setIfInBounds_toArray, List.set_cons_zero, List.set_cons_succ]
        refine wpAnyH_take (i := 14) (v := undef) rfl (by kernel_rfl) (by kernel_rfl) (by kernel_rfl) (fun _ _ _ h => h) (Or.inr ⟨by rfl, rfl⟩) hHeld ?_
        simp only [Act.put, List.getElem_toArray, List.getElem_cons_zero, List.getElem_cons_succ, List.setIfInBounds_toArray, List.set_cons_zero, List.set_cons_succ]
        refine wpAnyH_take (i := 15) (v := undef) rfl (by kernel_rfl) (by kernel_rfl) (by kernel_rfl) (fun _ _ _ h => h) (Or.inr ⟨by rfl, rfl⟩) hHeld ?_
        simp only [Act.put, List.getElem_toArray, List.getElem_cons_zero, List.getElem_cons_succ, List.setIfInBounds_toArray, List.set_cons_zero, List.set_cons_succ]
        refine wpAnyH_take (i := 16) (v := undef) rfl (by kernel_rfl) (by kernel_rfl) (by kernel_rfl) (fun _ _ _ h => h) (Or.inr ⟨by rfl, rfl⟩) hHeld ?_
        simp only [Act.put, List.getElem_toArray, List.getElem_cons_zero, List.getElem_cons_succ, List.setIfInBounds_toArray, List.set_cons_zero, List.set_cons_succ]
        refine wpAnyH_take (i := 17) (v := undef) rfl (by kernel_rfl) (by kernel_rfl) (by kernel_rfl) (fun _ _ _ h => h) (Or.inr ⟨by rfl, rfl⟩) hHeld ?_
        simp only [Act.put, List.getElem_toArray, List.getElem_cons_zero, List.getElem_cons_succ, List.setIfInBounds_toArray, List.set_cons_zero, List.set_cons_succ]
        refine wpAnyH_take (i := 18) (v := undef) rfl (by kernel_rfl) (by kernel_rfl) (by kernel_rfl) (fun _ _ _ h => h) (Or.inr ⟨by rfl, rfl⟩) hHeld ?_
        simp only [Act.put, List.getElem_toArray, List.getElem_cons_zero, List.getElem_cons_succ, List.setIfInBounds_toArray, List.set_cons_zero, List.set_cons_succ]
        refine wpAnyH_take (i := 19) (v := undef) rfl (by kernel_rfl) (by kernel_rfl) (by kernel_rfl) (fun _ _ _ h => h) (Or.inr ⟨by rfl, rfl⟩) hHeld ?_
        simp only [Act.put, List.getElem_toArray, List.getElem_cons_zero, List.getElem_cons_succ, List.setIfInBounds_toArray, List.set_cons_zero, List.set_cons_succ]
        refine wpAnyH_take (i := 20) (v := undef) rfl (by kernel_rfl) (by kernel_rfl) (by kernel_rfl) (fun _ _ _ h => h) (Or.inr ⟨by rfl, rfl⟩) hHeld ?_
        simp only [Act.put, List.getElem_toArray, List.getElem_cons_zero, List.getElem_cons_succ, List.setIfInBounds_toArray, List.set_cons_zero, List.set_cons_succ]
        refine wpAnyH_take (i := 21) (v := undef) rfl (by kernel_rfl) (by kernel_rfl) (by kernel_rfl) (fun _ _ _ h => h) (Or.inr ⟨by rfl, rfl⟩) hHeld ?_
        simp only [Act.put, List.getElem_toArray, List.getElem_cons_zero, List.getElem_cons_succ, List.setIfInBounds_toArray, List.set_cons_zero, List.set_cons_succ]
        refine wpAnyH_take (i := 22) (v := undef) rfl (by kernel_rfl) (by kernel_rfl) (by kernel_rfl) (fun _ _ _ h => h) (Or.inr ⟨by rfl, rfl⟩) hHeld ?_
        simp only [Act.put, List.getElem_toArray, List.getElem_cons_zero, List.getElem_cons_succ, List.setIfInBounds_toArray, List.set_cons_zero, List.set_cons_succ]
        refine wpAnyH_take (i := 23) (v := undef) rfl (by kernel_rfl) (by kernel_rfl) (by kernel_rfl) (fun _ _ _ h => h) (Or.inr ⟨by rfl, rfl⟩) hHeld ?_
        simp only [Act.put, List.getElem_toArray, List.getElem_cons_zero, List.getElem_cons_succ, List.setIfInBounds_toArray, List.set_cons_zero, List.set_cons_succ]
        refine wpAnyH_take (i := 24) (v := .bool false) rfl (by kernel_rfl) (by kernel_rfl) (by kernel_rfl) (fun _ _ _ h => h) (Or.inl ⟨by rfl, fun w hw => (by obtain ⟨a0, a1, m0, m1, q1, q2⟩ := hw; go_simp)⟩) hHeld ?_
        simp only [Act.put, List.getElem_toArray, List.getElem_cons_zero, List.getElem_cons_succ, List.setIfInBounds_toArray, List.set_cons_zero, List.set_cons_succ]
        refine wpAnyH_done (by kernel_rfl) ?_ _
        gi_wp2
        exact unhide hfin _ _ _ _ (unhide hVh).drew (Fr.drew (Fr.refl _ _)) (by rw [unhide hno]) (by rw [unhide hno]) (by rw [unhide hno])
      · have hB' : ¬ (y1 : Int) = (f : Int) := by omega
        by_cases hZ : z y1 = z f
        · have hZ' := hCz.1 hZ
          have hye : Hid (othB (pre ++ [(y1, y2, y3)]) z f t = othB pre z f t ++ [(y1, y2, y3)]) := hide (oth_yes ⟨hA, hB, hZ⟩)
          clear hCz
          gi_wp2
          refine region_in_round (S := W4 Bx w.heap.size y1 y2 f t Z1 Zf) (by kernel_rfl) (fun ⟨_, _, h⟩ => h) (by kernel_rfl) (unhide hS4) (fun hHeld => ?_)
          refine wpAnyH_take (i := 0) (v := .pointer (some ⟨Bx, 1, none⟩)) rfl (by kernel_rfl) (by kernel_rfl) (by kernel_rfl) (fun _ _ _ h => h) (Or.inl ⟨by rfl, fun w hw => (by obtain ⟨a0, a1, m0, m1, q1, q2⟩ := hw; go_simp)⟩) hHeld ?_
          simp only [Act.put, List.getElem_toArray, List.getElem_cons_zero, List.getElem_cons_succ, List.setIfInBounds_toArray, List.set_cons_zero, List.set_cons_succ]
          refine wpAnyH_take (i := 1) (v := .int .i64 (y2 : Int)) rfl (by kernel_rfl) (by kernel_rfl) (by kernel_rfl) (fun _ _ _ h => h) (Or.inl ⟨by rfl, fun w hw => (by obtain ⟨a0, a1, m0, m1, q1, q2⟩ := hw; go_simp)⟩) hHeld ?_
          simp only [Act.put, List.getElem_toArray, List.getElem_cons_zero, List.getElem_cons_succ, List.setIfInBounds_toArray, List.set_cons_zero, List.set_cons_succ]
          refine wpAnyH_take (i := 2) (v := .pointer (some ⟨w.heap.size + 1 + 1, 1, none⟩)) rfl (by kernel_rfl) (by kernel_rfl) (by kernel_rfl) (fun _ _ _ h => h) (Or.inl ⟨by rfl, fun w hw => (by obtain ⟨a0, a1, m0, m1, q1, q2⟩ := hw; go_simp)⟩) hHeld ?_
          simp only [Act.put, List.getElem_toArray, List.getElem_cons_zero, List.getElem_cons_succ, List.setIfInBounds_toArray, List.set_cons_zero, List.set_cons_succ]
          refine wpAnyH_take (i := 3) (v := .int .i64 (t : Int)) rfl (by kernel_rfl) (by kernel_rfl) (by kernel_rfl) (fun _ _ _ h => h) (Or.inl ⟨by rfl, fun w hw => (by obtain ⟨a0, a1, m0, m1, q1, q2⟩ := hw; go_simp)⟩) hHeld ?_
          simp only [Act.put, List.getElem_toArray, List.getElem_cons_zero, List.getElem_cons_succ, List.setIfInBounds_toArray, List.set_cons_zero, List.set_cons_succ]
          refine wpAnyH_take (i := 4) (v := .bool true) rfl (by kernel_rfl) (by kernel_rfl) (by kernel_rfl) (fun _ _ _ h => h) (Or.inl ⟨by rfl, fun w hw => (by obtain ⟨a0, a1, m0, m1, q1, q2⟩ := hw; go_simp)⟩) hHeld ?_
          simp only [Act.put, List.getElem_toArray, List.getElem_cons_zero, List.getElem_cons_succ, List.setIfInBounds_toArray, List.set_cons_zero, List.set_cons_succ]
          refine wpAnyH_take (i := 5) (v := .bool true) rfl (by kernel_rfl) (by kernel_rfl) (by kernel_rfl) (fun _ _ _ h => h) (Or.inl ⟨by rfl, fun w hw => (by obtain ⟨a0, a1, m0, m1, q1, q2⟩ := hw; go_simp)⟩) hHeld ?_
          simp only [Act.put, List.getElem_toArray, List.getElem_cons_zero, List.getElem_cons_succ, List.setIfInBounds_toArray, List.set_cons_zero, List.set_cons_succ]
          refine wpAnyH_take (i := 6) (v := .pointer (some ⟨Bx, 0, none⟩)) rfl (by kernel_rfl) (by kernel_rfl) (by kernel_rfl) (fun _ _ _ h => h) (Or.inl ⟨by rfl, fun w hw => (by obtain ⟨a0, a1, m0, m1, q1, q2⟩ := hw; go_simp)⟩) hHeld ?_
          simp only [Act.put, List.getElem_toArray, List.getElem_cons_zero, List.getElem_cons_succ, List.setIfInBounds_toArray, List.set_cons_zero, List.set_cons_succ]
          refine wpAnyH_take (i := 7) (v := .int .i64 (y1 : Int)) rfl (by kernel_rfl) (by kernel_rfl) (by kernel_rfl) (fun _ _ _ h => h) (Or.inl ⟨by rfl, fun w hw => (by obtain ⟨a0, a1, m0, m1, q1, q2⟩ := hw; go_simp)⟩) hHeld ?_
          simp only [Act.put, List.getElem_toArray, List.getElem_cons_zero, List.getElem_cons_succ, List.setIfInBounds_toArray, List.set_cons_zero, List.set_cons_succ]
          refine wpAnyH_take (i := 8) (v := .pointer (some ⟨w.heap.size + 1 + 1, 0, none⟩)) rfl (by kernel_rfl) (by kernel_rfl) (by kernel_rfl) (fun _ _ _ h => h) (Or.inl ⟨by rfl, fun w hw => (by obtain ⟨a0, a1, m0, m1, q1, q2⟩ := hw; go_simp)⟩) hHeld ?_
          simp only [Act.put, List.getElem_toArray, List.getElem_cons_zero, List.getElem_cons_succ, List.setIfInBounds_toArray, List.set_cons_zero, List.set_cons_succ]
          refine wpAnyH_take (i := 9) (v := .int .i64 (f : Int)) rfl (by kernel_rfl) (by kernel_rfl) (by kernel_rfl) (fun _ _ _ h => h) (Or.inl ⟨by rfl, fun w hw => (by obtain ⟨a0, a1, m0, m1, q1, q2⟩ := hw; go_simp)⟩) hHeld ?_
          simp only [Act.put, List.getElem_toArray, List.getElem_cons_zero, List.getElem_cons_succ, List.setIfInBounds_toArray, List.set_cons_zero, List.set_cons_succ]
          refine wpAnyH_take (i := 10) (v := .bool true) rfl (by kernel_rfl) (by kernel_rfl) (by kernel_rfl) (fun _ _ _ h => h) (Or.inl ⟨by rfl, fun w hw => (by obtain ⟨a0, a1, m0, m1, q1, q2⟩ := hw; go_simp)⟩) hHeld ?_
          simp only [Act.put, List.getElem_toArray, List.getElem_cons_zero, List.getElem_cons_succ, List.setIfInBounds_toArray, List.set_cons_zero, List.set_cons_succ]
          refine wpAnyH_take (i := 11) (v := .bool true) rfl (by kernel_rfl) (by kernel_rfl) (by kernel_rfl) (fun _ _ _ h => h) (Or.inl ⟨by rfl, fun w hw => (by obtain ⟨a0, a1, m0, m1, q1, q2⟩ := hw; go_simp)⟩) hHeld ?_
          simp only [Act.put, List.getElem_toArray, List.getElem_cons_zero, List.getElem_cons_succ, List.setIfInBounds_toArray, List.set_cons_zero, List.set_cons_succ]
          refine wpAnyH_take (i := 12) (v := .bool true) rfl (by kernel_rfl) (by kernel_rfl) (by kernel_rfl) (fun _ _ _ h => h) (Or.inl ⟨by rfl, fun w hw => (by obtain ⟨a0, a1, m0, m1, q1, q2⟩ := hw; go_simp)⟩) hHeld ?_
          simp only [Act.put, List.getElem_toArray, List.getElem_cons_zero, List.getElem_cons_succ, List.setIfInBounds_toArray, List.set_cons_zero, List.set_cons_succ]
          refine wpAnyH_take (i := 13) (v := .pointer (some ⟨Bx, 0, none⟩)) rfl (by kernel_rfl) (by kernel_rfl) (by kernel_rfl) (fun _ _ _ h => h) (Or.inl ⟨by rfl, fun w hw => (by obtain ⟨a0, a1, m0, m1, q1, q2⟩ := hw; go_simp)⟩) hHeld ?_
          simp only [Act.put, List.getElem_toArray, List.getElem_cons_zero, List.getElem_cons_succ, List.setIfInBounds_toArray, List.set_cons_zero, List.set_cons_succ]
          refine wpAnyH_take (i := 14) (v := .int .i64 (y1 : Int)) rfl (by kernel_rfl) (by kernel_rfl) (by kernel_rfl) (fun _ _ _ h => h) (Or.inl ⟨by rfl, fun w hw => (by obtain ⟨a0, a1, m0, m1, q1, q2⟩ := hw; go_simp)⟩) hHeld ?_
          simp only [Act.put, List.getElem_toArray, List.getElem_cons_zero, List.getElem_cons_succ, List.setIfInBounds_toArray, List.set_cons_zero, List.set_cons_succ]
          refine wpAnyH_take (i := 15) (v := .pointer (some ⟨w.heap.size + 1, 0, none⟩)) rfl (by kernel_rfl) (by kernel_rfl) (by kernel_rfl) (fun _ _ _ h => h) (Or.inl ⟨by rfl, fun w hw => (by obtain ⟨a0, a1, m0, m1, q1, q2⟩ := hw; go_simp)⟩) hHeld ?_
          simp only [Act.put, List.getElem_toArray, List.getElem_cons_zero, List.getElem_cons_succ, List.setIfInBounds_toArray, List.set_cons_zero, List.set_cons_succ]
          refine wpAnyH_take (i := 16) (v := .pointer (some ⟨w.heap.size + 1, y1, none⟩)) rfl (by kernel_rfl) (by kernel_rfl) (by kernel_rfl) (fun _ _ _ h => h) (Or.inl ⟨by rfl, fun w hw => (by obtain ⟨a0, a1, m0, m1, q1, q2⟩ := hw; go_simp)⟩) hHeld ?_
          simp only [Act.put, List.getElem_toArray, List.getElem_cons_zero, List.getElem_cons_succ, List.setIfInBounds_toArray, List.set_cons_zero, List.set_cons_succ]
          refine wpAnyH_take (i := 17) (v := .int .u8 Z1) rfl (by kernel_rfl) (by kernel_rfl) (by kernel_rfl) (fun _ _ _ h => h) (Or.inl ⟨by rfl, fun w hw => (by obtain ⟨a0, a1, m0, m1, q1, q2⟩ := hw; go_simp)⟩) hHeld ?_
          simp only [Act.put, List.getElem_toArray, List.getElem_cons_zero, List.getElem_cons_succ, List.setIfInBounds_toArray, List.set_cons_zero, List.set_cons_succ]
          refine wpAnyH_take (i := 18) (v := .pointer (some ⟨w.heap.size + 1 + 1, 0, none⟩)) rfl (by kernel_rfl) (by kernel_rfl) (by kernel_rfl) (fun _ _ _ h => h) (Or.inl ⟨by rfl, fun w hw => (by obtain ⟨a0, a1, m0, m1, q1, q2⟩ := hw; go_simp)⟩) hHeld ?_
          simp only [Act.put, List.getElem_toArray, List.getElem_cons_zero, List.getElem_cons_succ, List.setIfInBounds_toArray, List.set_cons_zero, List.set_cons_succ]
          refine wpAnyH_take (i := 19) (v := .int .i64 (f : Int)) rfl (by kernel_rfl) (by kernel_rfl) (by kernel_rfl) (fun _ _ _ h => h) (Or.inl ⟨by rfl, fun w hw => (by obtain ⟨a0, a1, m0, m1, q1, q2⟩ := hw; go_simp)⟩) hHeld ?_
          simp only [Act.put, List.getElem_toArray, List.getElem_cons_zero, List.getElem_cons_succ, List.setIfInBounds_toArray, List.set_cons_zero, List.set_cons_succ]
          refine wpAnyH_take (i := 20) (v := .pointer (some ⟨w.heap.size + 1, 0, none⟩)) rfl (by kernel_rfl) (by kernel_rfl) (by kernel_rfl) (fun _ _ _ h => h) (Or.inl ⟨by rfl, fun w hw => (by obtain ⟨a0, a1, m0, m1, q1, q2⟩ := hw; go_simp)⟩) hHeld ?_
          simp only [Act.put, List.getElem_toArray, List.getElem_cons_zero, List.getElem_cons_succ, List.setIfInBounds_toArray, List.set_cons_zero, List.set_cons_succ]
          refine wpAnyH_take (i := 21) (v := .pointer (some ⟨w.heap.size + 1, f, none⟩)) rfl (by kernel_rfl) (by kernel_rfl) (by kernel_rfl) (fun _ _ _ h => h) (Or.inl ⟨by rfl, fun w hw => (by obtain ⟨a0, a1, m0, m1, q1, q2⟩ := hw; go_simp)⟩) hHeld ?_
          simp only [Act.put, List.getElem_toArray, List.getElem_cons_zero, List.getElem_cons_succ, List.setIfInBounds_toArray, List.set_cons_zero, List.set_cons_succ]
          refine wpAnyH_take (i := 22) (v := .int .u8 Zf) rfl (by kernel_rfl) (by kernel_rfl) (by kernel_rfl) (fun _ _ _ h => h) (Or.inl ⟨by rfl, fun w hw => (by obtain ⟨a0, a1, m0, m1, q1, q2⟩ := hw; go_simp)⟩) hHeld ?_
          simp only [Act.put, List.getElem_toArray, List.getElem_cons_zero, List.getElem_cons_succ, List.setIfInBounds_toArray, List.set_cons_zero, List.set_cons_succ]
          refine wpAnyH_take (i := 23) (v := .bool true) rfl (by kernel_rfl) (by kernel_rfl) (by kernel_rfl) (fun _ _ _ h => h) (Or.inl ⟨by rfl, fun w hw => (by obtain ⟨a0, a1, m0, m1, q1, q2⟩ := hw; go_simp)⟩) hHeld ?_
          simp only [Act.put, List.getElem_toArray, List.getElem_cons_zero, List.getElem_cons_succ, List.setIfInBounds_toArray, List.set_cons_zero, List.set_cons_succ]
          refine wpAnyH_take (i := 24) (v := .bool true) rfl (by kernel_rfl) (by kernel_rfl) (by kernel_rfl) (fun _ _ _ h => h) (Or.inl ⟨by rfl, fun w hw => (by obtain ⟨a0, a1, m0, m1, q1, q2⟩ := hw; go_simp)⟩) hHeld ?_
          simp only [Act.put, List.getElem_toArray, List.getElem_cons_zero, List.getElem_cons_succ, List.setIfInBounds_toArray, List.set_cons_zero, List.set_cons_succ]
          refine wpAnyH_done (by kernel_rfl) ?_ _
          have hc3 : (oc = true ∧ nc = true) ∨ (oc = false ∧ ((y1 : Int) % 8 == (f : Int) % 8) = true ∧ nc = true) ∨ (oc = false ∧ ((y1 : Int) % 8 == (f : Int) % 8) = false ∧ nc = false) := by
            have := unhide hnc
            cases oc
            · by_cases q : y1 % 8 = f % 8
              · exact .inr (.inl ⟨rfl, by rw [beq_iff_eq]; omega, by rw [← this]; simp [q]⟩)
              · exact .inr (.inr ⟨rfl, by rw [beq_eq_false_iff_ne]; omega, by rw [← this]; simp [q]⟩)
            · exact .inl ⟨rfl, by rw [← this]; rfl⟩
          have hd3 : (od = true ∧ nd = true) ∨ (od = false ∧ ((y1 : Int) / 8 == (f : Int) / 8) = true ∧ nd = true) ∨ (od = false ∧ ((y1 : Int) / 8 == (f : Int) / 8) = false ∧ nd = false) := by
            have := unhide hnd
            cases od
            · by_cases q : y1 / 8 = f / 8
              · exact .inr (.inl ⟨rfl, by rw [beq_iff_eq]; omega, by rw [← this]; simp [q]⟩)
              · exact .inr (.inr ⟨rfl, by rw [beq_eq_false_iff_ne]; omega, by rw [← this]; simp [q]⟩)
            · exact .inl ⟨rfl, by rw [← this]; rfl⟩
          have hlast := hide (unhide hfin _ _ _ _ (unhide hV5') (unhide hFr) (by rw [unhide hye]; cases othB pre z f t <;> rfl) (by rw [unhide hye, List.any_append, unhide hoc, ← unhide hnc]; simp) (by rw [unhide hye, List.any_append, unhide hod, ← unhide hnd]; simp))
          clear hye hfin hV5' hFr hVh hoc hod hnc hnd hHeld hS4
          rcases hc3 with ⟨rfl, rfl⟩ | ⟨rfl, e6, rfl⟩ | ⟨rfl, e6, rfl⟩ <;> rcases hd3 with ⟨rfl, rfl⟩ | ⟨rfl, e7, rfl⟩ | ⟨rfl, e7, rfl⟩
          all_goals
            gi_wp2
            exact unhide hlast
        · have hZ' : ¬ Z1 = Zf := fun q => hZ (hCz.2 q)
          have hno : Hid (othB (pre ++ [(y1, y2, y3)]) z f t = othB pre z f t) := hide (oth_no fun q => hZ q.2.2)
          clear hCz
          gi_wp2
          refine region_in_round (S := W4 Bx w.heap.size y1 y2 f t Z1 Zf) (by kernel_rfl) (fun ⟨_, _, h⟩ => h) (by kernel_rfl) (unhide hS4) (fun hHeld => ?_)
          refine wpAnyH_take (i := 0) (v := .pointer (some ⟨Bx, 1, none⟩)) rfl (by kernel_rfl) (by kernel_rfl) (by kernel_rfl) (fun _ _ _ h => h) (Or.inl ⟨by rfl, fun w hw => (by obtain ⟨a0, a1, m0, m1, q1, q2⟩ := hw; go_simp)⟩) hHeld ?_
          simp only [Act.put, List.getElem_toArray, List.getElem_cons_zero, List.getElem_cons_succ, List.setIfInBounds_toArray, List.set_cons_zero, List.set_cons_succ]
          refine wpAnyH_take (i := 1) (v := .int .i64 (y2 : Int)) rfl (by kernel_rfl) (by kernel_rfl) (by kernel_rfl) (fun _ _ _ h => h) (Or.inl ⟨by rfl, fun w hw => (by obtain ⟨a0, a1, m0, m1, q1, q2⟩ := hw; go_simp)⟩) hHeld ?_
          simp only [Act.put, List.getElem_toArray, List.getElem_cons_zero, List.getElem_cons_succ, List.setIfInBounds_toArray, List.set_cons_zero, List.set_cons_succ]
          refine wpAnyH_take (i := 2) (v := .pointer (some ⟨w.heap.size + 1 + 1, 1, none⟩)) rfl (by kernel_rfl) (by kernel_rfl) (by kernel_rfl) (fun _ _ _ h => h) (Or.inl ⟨by rfl, fun w hw => (by obtain ⟨a0, a1, m0, m1, q1, q2⟩ := hw; go_simp)⟩) hHeld ?_
          simp only [Act.put, List.getElem_toArray, List.getElem_cons_zero, List.getElem_cons_succ, List.setIfInBounds_toArray, List.set_cons_zero, List.set_cons_succ]
          refine wpAnyH_take (i := 3) (v := .int .i64 (t : Int)) rfl (by kernel_rfl) (by kernel_rfl) (by kernel_rfl) (fun _ _ _ h => h) (Or.inl ⟨by rfl, fun w hw => (by obtain ⟨a0, a1, m0, m1, q1, q2⟩ := hw; go_simp)⟩) hHeld ?_
          simp only [Act.put, List.getElem_toArray, List.getElem_cons_zero, List.getElem_cons_succ, List.setIfInBounds_toArray, List.set_cons_zero, List.set_cons_succ]
          refine wpAnyH_take (i := 4) (v := .bool true) rfl (by kernel_rfl) (by kernel_rfl) (by kernel_rfl) (fun _ _ _ h => h) (Or.inl ⟨by rfl, fun w hw => (by obtain ⟨a0, a1, m0, m1, q1, q2⟩ := hw; go_simp)⟩) hHeld ?_
          simp only [Act.put, List.getElem_toArray, List.getElem_cons_zero, List.getElem_cons_succ, List.setIfInBounds_toArray, List.set_cons_zero, List.set_cons_succ]
          refine wpAnyH_take (i := 5) (v := .bool true) rfl (by kernel_rfl) (by kernel_rfl) (by kernel_rfl) (fun _ _ _ h => h) (Or.inl ⟨by rfl, fun w hw => (by obtain ⟨a0, a1, m0, m1, q1, q2⟩ := hw; go_simp)⟩) hHeld ?_
          simp only [Act.put, List.getElem_toArray, List.getElem_cons_zero, List.getElem_cons_succ, List.setIfInBounds_toArray, List.set_cons_zero, List.set_cons_succ]
          refine wpAnyH_take (i := 6) (v := .pointer (some ⟨Bx, 0, none⟩)) rfl (by kernel_rfl) (by kernel_rfl) (by kernel_rfl) (fun _ _ _ h => h) (Or.inl ⟨by rfl, fun w hw => (by obtain ⟨a0, a1, m0, m1, q1, q2⟩ := hw; go_simp)⟩) hHeld ?_
          simp only [Act.put, List.getElem_toArray, List.getElem_cons_zero, List.getElem_cons_succ, List.setIfInBounds_toArray, List.set_cons_zero, List.set_cons_succ]
          refine wpAnyH_take (i := 7) (v := .int .i64 (y1 : Int)) rfl (by kernel_rfl) (by kernel_rfl) (by kernel_rfl) (fun _ _ _ h => h) (Or.inl ⟨by rfl, fun w hw => (by obtain ⟨a0, a1, m0, m1, q1, q2⟩ := hw; go_simp)⟩) hHeld ?_
          simp only [Act.put, List.getElem_toArray, List.getElem_cons_zero, List.getElem_cons_succ, List.setIfInBounds_toArray, List.set_cons_zero, List.set_cons_succ]
          refine wpAnyH_take (i := 8) (v := .pointer (some ⟨w.heap.size + 1 + 1, 0, none⟩)) rfl (by kernel_rfl) (by kernel_rfl) (by kernel_rfl) (fun _ _ _ h => h) (Or.inl ⟨by rfl, fun w hw => (by obtain ⟨a0, a1, m0, m1, q1, q2⟩ := hw; go_simp)⟩) hHeld ?_
          simp only [Act.put, List.getElem_toArray, List.getElem_cons_zero, List.getElem_cons_succ, List.setIfInBounds_toArray, List.set_cons_zero, List.set_cons_succ]
          refine wpAnyH_take (i := 9) (v := .int .i64 (f : Int)) rfl (by kernel_rfl) (by kernel_rfl) (by kernel_rfl) (fun _ _ _ h => h) (Or.inl ⟨by rfl, fun w hw => (by obtain ⟨a0, a1, m0, m1, q1, q2⟩ := hw; go_simp)⟩) hHeld ?_
          simp only [Act.put, List.getElem_toArray, List.getElem_cons_zero, List.getElem_cons_succ, List.setIfInBounds_toArray, List.set_cons_zero, List.set_cons_succ]
          refine wpAnyH_take (i := 10) (v := .bool true) rfl (by kernel_rfl) (by kernel_rfl) (by kernel_rfl) (fun _ _ _ h => h) (Or.inl ⟨by rfl, fun w hw => (by obtain ⟨a0, a1, m0, m1, q1, q2⟩ := hw; go_simp)⟩) hHeld ?_
          simp only [Act.put, List.getElem_toArray, List.getElem_cons_zero, List.getElem_cons_succ, List.setIfInBounds_toArray, List.set_cons_zero, List.set_cons_succ]
          refine wpAnyH_take (i := 11) (v := .bool true) rfl (by kernel_rfl) (by kernel_rfl) (by kernel_rfl) (fun _ _ _ h => h) (Or.inl ⟨by rfl, fun w hw => (by obtain ⟨a0, a1, m0, m1, q1, q2⟩ := hw; go_simp)⟩) hHeld ?_
          simp only [Act.put, List.getElem_toArray, List.getElem_cons_zero, List.getElem_cons_succ, List.setIfInBounds_toArray, List.set_cons_zero, List.set_cons_succ]
          refine wpAnyH_take (i := 12) (v := .bool true) rfl (by kernel_rfl) (by kernel_rfl) (by kernel_rfl) (fun _ _ _ h => h) (Or.inl ⟨by rfl, fun w hw => (by obtain ⟨a0, a1, m0, m1, q1, q2⟩ := hw; go_simp)⟩) hHeld ?_
          simp only [Act.put, List.getElem_toArray, List.getElem_cons_zero, List.getElem_cons_succ, List.setIfInBounds_toArray, List.set_cons_zero, List.set_cons_succ]
          refine wpAnyH_take (i := 13) (v := .pointer (some ⟨Bx, 0, none⟩)) rfl (by kernel_rfl) (by kernel_rfl) (by kernel_rfl) (fun _ _ _ h => h) (Or.inl ⟨by rfl, fun w hw => (by obtain ⟨a0, a1, m0, m1, q1, q2⟩ := hw; go_simp)⟩) hHeld ?_
          simp only [Act.put, List.getElem_toArray, List.getElem_cons_zero, List.getElem_cons_succ, List.setIfInBounds_toArray, List.set_cons_zero, List.set_cons_succ]
          refine wpAnyH_take (i := 14) (v := .int .i64 (y1 : Int)) rfl (by kernel_rfl) (by kernel_rfl) (by kernel_rfl) (fun _ _ _ h => h) (Or.inl ⟨by rfl, fun w hw => (by obtain ⟨a0, a1, m0, m1, q1, q2⟩ := hw; go_simp)⟩) hHeld ?_
          simp only [Act.put, List.getElem_toArray, List.getElem_cons_zero, List.getElem_cons_succ, List.setIfInBounds_toArray, List.set_cons_zero, List.set_cons_succ]
          refine wpAnyH_take (i := 15) (v := .pointer (some ⟨w.heap.size + 1, 0, none⟩)) rfl (by kernel_rfl) (by kernel_rfl) (by kernel_rfl) (fun _ _ _ h => h) (Or.inl ⟨by rfl, fun w hw => (by obtain ⟨a0, a1, m0, m1, q1, q2⟩ := hw; go_simp)⟩) hHeld ?_
          simp only [Act.put, List.getElem_toArray, List.getElem_cons_zero, List.getElem_cons_succ, List.setIfInBounds_toArray, List.set_cons_zero, List.set_cons_succ]
          refine wpAnyH_take (i := 16) (v := .pointer (some ⟨w.heap.size + 1, y1, none⟩)) rfl (by kernel_rfl) (by kernel_rfl) (by kernel_rfl) (fun _ _ _ h => h) (Or.inl ⟨by rfl, fun w hw => (by obtain ⟨a0, a1, m0, m1, q1, q2⟩ := hw; go_simp)⟩) hHeld ?_
          simp only [Act.put, List.getElem_toArray, List.getElem_cons_zero, List.getElem_cons_succ, List.setIfInBounds_toArray, List.set_cons_zero, List.set_cons_succ]
          refine wpAnyH_take (i := 17) (v := .int .u8 Z1) rfl (by kernel_rfl) (by kernel_rfl) (by kernel_rfl) (fun _ _ _ h => h) (Or.inl ⟨by rfl, fun w hw => (by obtain ⟨a0, a1, m0, m1, q1, q2⟩ := hw; go_simp)⟩) hHeld ?_
          simp only [Act.put, List.getElem_toArray, List.getElem_cons_zero, List.getElem_cons_succ, List.setIfInBounds_toArray, List.set_cons_zero, List.set_cons_succ]
          refine wpAnyH_take (i := 18) (v := .pointer (some ⟨w.heap.size + 1 + 1, 0, none⟩)) rfl (by kernel_rfl) (by kernel_rfl) (by kernel_rfl) (fun _ _ _ h => h) (Or.inl ⟨by rfl, fun w hw => (by obtain ⟨a0, a1, m0, m1, q1, q2⟩ := hw; go_simp)⟩) hHeld ?_
          simp only [Act.put, List.getElem_toArray, List.getElem_cons_zero, List.getElem_cons_succ, List.setIfInBounds_toArray, List.set_cons_zero, List.set_cons_succ]
          refine wpAnyH_take (i := 19) (v := .int .i64 (f : Int)) rfl (by kernel_rfl) (by kernel_rfl) (by kernel_rfl) (fun _ _ _ h => h) (Or.inl ⟨by rfl, fun w hw => (by obtain ⟨a0, a1, m0, m1, q1, q2⟩ := hw; go_simp)⟩) hHeld ?_
          simp only [Act.put, List.getElem_toArray, List.getElem_cons_zero, List.getElem_cons_succ, List.setIfInBounds_toArray, List.set_cons_zero, List.set_cons_succ]
          refine wpAnyH_take (i := 20) (v := .pointer (some ⟨w.heap.size + 1, 0, none⟩)) rfl (by kernel_rfl) (by kernel_rfl) (by kernel_rfl) (fun _ _ _ h => h) (Or.inl ⟨by rfl, fun w hw => (by obtain ⟨a0, a1, m0, m1, q1, q2⟩ := hw; go_simp)⟩) hHeld ?_
          simp only [Act.put, List.getElem_toArray, List.getElem_cons_zero, List.getElem_cons_succ, List.setIfInBounds_toArray, List.set_cons_zero, List.set_cons_succ]
          refine wpAnyH_take (i := 21) (v := .pointer (some ⟨w.heap.size + 1, f, none⟩)) rfl (by kernel_rfl) (by kernel_rfl) (by kernel_rfl) (fun _ _ _ h => h) (Or.inl ⟨by rfl, fun w hw => (by obtain ⟨a0, a1, m0, m1, q1, q2⟩ := hw; go_simp)⟩) hHeld ?_
          simp only [Act.put, List.getElem_toArray, List.getElem_cons_zero, List.getElem_cons_succ, List.setIfInBounds_toArray, List.set_cons_zero, List.set_cons_succ]
          refine wpAnyH_take (i := 22) (v := .int .u8 Zf) rfl (by kernel_rfl) (by kernel_rfl) (by kernel_rfl) (fun _ _ _ h => h) (Or.inl ⟨by rfl, fun w hw => (by obtain ⟨a0, a1, m0, m1, q1, q2⟩ := hw; go_simp)⟩) hHeld ?_
          simp only [Act.put, List.getElem_toArray, List.getElem_cons_zero, List.getElem_cons_succ, List.setIfInBounds_toArray, List.set_cons_zero, List.set_cons_succ]
          refine wpAnyH_take (i := 23) (v := .bool false) rfl (by kernel_rfl) (by kernel_rfl) (by kernel_rfl) (fun _ _ _ h => h) (Or.inl ⟨by rfl, fun w hw => (by obtain ⟨a0, a1, m0, m1, q1, q2⟩ := hw; go_simp)⟩) hHeld ?_
          simp only [Act.put, List.getElem_toArray, List.getElem_cons_zero, List.getElem_cons_succ, List.setIfInBounds_toArray, List.set_cons_zero, List.set_cons_succ]
          refine wpAnyH_take (i := 24) (v := .bool false) rfl (by kernel_rfl) (by kernel_rfl) (by kernel_rfl) (fun _ _ _ h => h) (Or.inl ⟨by rfl, fun w hw => (by obtain ⟨a0, a1, m0, m1, q1, q2⟩ := hw; go_simp)⟩) hHeld ?_
          simp only [Act.put, List.getElem_toArray, List.getElem_cons_zero, List.getElem_cons_succ, List.setIfInBounds_toArray, List.set_cons_zero, List.set_cons_succ]
          refine wpAnyH_done (by kernel_rfl) ?_ _
          gi_wp2
          exact unhide hfin _ _ _ _ (unhide hVh).drew (Fr.drew (Fr.refl _ _)) (by rw [unhide hno]) (by rw [unhide hno]) (by rw [unhide hno])
    · have hno : Hid (othB (pre ++ [(y1, y2, y3)]) z f t = othB pre z f t) := hide (oth_no fun q => hA q.1)
      have hA' : ¬ ((y2 : Int) = (t : Int)) := by omega
      clear hCz
      gi_wp2
      refine region_in_round (S := W4 Bx w.heap.size y1 y2 f t Z1 Zf) (by kernel_rfl) (fun ⟨_, _, h⟩ => h) (by kernel_rfl) (unhide hS4) (fun hHeld => ?_)
      refine wpAnyH_take (i := 0) (v := .pointer (some ⟨Bx, 1, none⟩)) rfl (by kernel_rfl) (by kernel_rfl) (by kernel_rfl) (fun _ _ _ h => h) (Or.inl ⟨by rfl, fun w hw => (by obtain ⟨a0, a1, m0, m1, q1, q2⟩ := hw; go_simp)⟩) hHeld ?_
      simp only [Act.put, List.getElem_toArray, List.getElem_cons_zero, List.getElem_cons_succ, List.setIfInBounds_toArray, List.set_cons_zero, List.set_cons_succ]
      refine wpAnyH_take (i := 1) (v := .int .i64 (y2 : Int)) rfl (by kernel_rfl) (by kernel_rfl) (by kernel_rfl) (fun _ _ _ h => h) (Or.inl ⟨by rfl, fun w hw => (by obtain ⟨a0, a1, m0, m1, q1, q2⟩ := hw; go_simp)⟩) hHeld ?_
      simp only [Act.put, List.getElem_toArray, List.getElem_cons_zero, List.getElem_cons_succ, List.setIfInBounds_toArray, List.set_cons_zero, List.set_cons_succ]
      refine wpAnyH_take (i := 2) (v := .pointer (some ⟨w.heap.size + 1 + 1, 1, none⟩)) rfl (by kernel_rfl) (by kernel_rfl) (by kernel_rfl) (fun _ _ _ h => h) (Or.inl ⟨by rfl, fun w hw => (by obtain ⟨a0, a1, m0, m1, q1, q2⟩ := hw; go_simp)⟩) hHeld ?_
      simp only [Act.put, List.getElem_toArray, List.getElem_cons_zero, List.getElem_cons_succ, List.setIfInBounds_toArray, List.set_cons_zero, List.set_cons_succ]
      refine wpAnyH_take (i := 3) (v := .int .i64 (t : Int)) rfl (by kernel_rfl) (by kernel_rfl) (by kernel_rfl) (fun _ _ _ h => h) (Or.inl ⟨by rfl, fun w hw => (by obtain ⟨a0, a1, m0, m1, q1, q2⟩ := hw; go_simp)⟩) hHeld ?_
      simp only [Act.put, List.getElem_toArray, List.getElem_cons_zero, List.getElem_cons_succ, List.setIfInBounds_toArray, List.set_cons_zero, List.set_cons_succ]
      refine wpAnyH_take (i := 4) (v := .bool false) rfl (by kernel_rfl) (by kernel_rfl) (by kernel_rfl) (fun _ _ _ h => h) (Or.inl ⟨by rfl, fun w hw => (by obtain ⟨a0, a1, m0, m1, q1, q2⟩ := hw; go_simp)⟩) hHeld ?_
      simp only [Act.put, List.getElem_toArray, List.getElem_cons_zero, List.getElem_cons_succ, List.setIfInBounds_toArray, List.set_cons_zero, List.set_cons_succ]
      refine wpAnyH_take (i := 5) (v := .bool false) rfl (by kernel_rfl) (by kernel_rfl) (by kernel_rfl) (fun _ _ _ h => h) (Or.inl ⟨by rfl, fun w hw => (by obtain ⟨a0, a1, m0, m1, q1, q2⟩ := hw; go_simp)⟩) hHeld ?_
      simp only [Act.put, List.getElem_toArray, List.getElem_cons_zero, List.getElem_cons_succ, List.setIfInBounds_toArray, List.set_cons_zero, List.set_cons_succ]
      refine wpAnyH_take (i := 6) (v := undef) rfl (by kernel_rfl) (by kernel_rfl) (by kernel_rfl) (fun _ _ _ h => h) (Or.inr ⟨by rfl, rfl⟩) hHeld ?_
      simp only [Act.put, List.getElem_toArray, List.getElem_cons_zero, List.getElem_cons_succ, List.setIfInBounds_toArray, List.set_cons_zero, List.set_cons_succ]
      refine wpAnyH_take (i := 7) (v := undef) rfl (by kernel_rfl) (by kernel_rfl) (by kernel_rfl) (fun _ _ _ h => h) (Or.inr ⟨by rfl, rfl⟩) hHeld ?_
      simp only [Act.put, List.getElem_toArray, List.getElem_cons_zero, List.getElem_cons_succ, List.setIfInBounds_toArray, List.set_cons_zero, List.set_cons_succ]
      refine wpAnyH_take (i := 8) (v := undef) rfl (by kernel_rfl) (by kernel_rfl) (by kernel_rfl) (fun _ _ _ h => h) (Or.inr ⟨by rfl, rfl⟩) hHeld ?_
      simp only [Act.put, List.getElem_toArray, List.getElem_cons_zero, List.getElem_cons_succ, List.setIfInBounds_toArray, List.set_cons_zero, List.set_cons_succ]
      refine wpAnyH_take (i := 9) (v := undef) rfl (by kernel_rfl) (by kernel_rfl) (by kernel_rfl) (fun _ _ _ h => h) (Or.inr ⟨by rfl, rfl⟩) hHeld ?_
      simp only [Act.put, List.getElem_toArray, List.getElem_cons_zero, List.getElem_cons_succ, List.setIfInBounds_toArray, List.set_cons_zero, List.set_cons_succ]
      refine wpAnyH_take (i := 10) (v := undef) rfl (by kernel_rfl) (by kernel_rfl) (by kernel_rfl) (fun _ _ _ h => h) (Or.inr ⟨by rfl, rfl⟩) hHeld ?_
      simp only [Act.put, List.getElem_toArray, List.getElem_cons_zero, List.getElem_cons_succ, List.setIfInBounds_toArray, List.set_cons_zero, List.set_cons_succ]
      refine wpAnyH_take (i := 11) (v := .bool false) rfl (by kernel_rfl) (by kernel_rfl) (by kernel_rfl) (fun _ _ _ h => h) (Or.inl ⟨by rfl, fun w hw => (by obtain ⟨a0, a1, m0, m1, q1, q2⟩ := hw; go_simp)⟩) hHeld ?_
      simp only [Act.put, List.getElem_toArray, List.getElem_cons_zero, List.getElem_cons_succ, List.setIfInBounds_toArray, List.set_cons_zero, List.set_cons_succ]
      refine wpAnyH_take (i := 12) (v := .bool false) rfl (by kernel_rfl) (by kernel_rfl) (by kernel_rfl) (fun _ _ _ h => h) (Or.inl ⟨by rfl, fun w hw => (by obtain ⟨a0, a1, m0, m1, q1, q2⟩ := hw; go_simp)⟩) hHeld ?_
      simp only [Act.put, List.getElem_toArray, List.getElem_cons_zero, List.getElem_cons_succ, List.setIfInBounds_toArray, List.set_cons_zero, List.set_cons_succ]
      refine wpAnyH_take (i := 13) (v := undef) rfl (by kernel_rfl) (by kernel_rfl) (by kernel_rfl) (fun _ _ _ h => h) (Or.inr ⟨by rfl, rfl⟩) hHeld ?_
      simp only [Act.put, List.getElem_toArray, List.getElem_cons_zero, List.getElem_cons_succ, List.setIfInBounds_toArray, List.set_cons_zero, List.set_cons_succ]
      refine wpAnyH_take (i := 14) (v := undef) rfl (by kernel_rfl) (by kernel_rfl) (by kernel_rfl) (fun _ _ _ h => h) (Or.inr ⟨by rfl, rfl⟩) hHeld ?_
      simp only [Act.put, List.getElem_toArray, List.getElem_cons_zero, List.getElem_cons_succ, List.setIfInBounds_toArray, List.set_cons_zero, List.set_cons_succ]
      refine wpAnyH_take (i := 15) (v := undef) rfl (by kernel_rfl) (by kernel_rfl) (by kernel_rfl) (fun _ _ _ h => h) (Or.inr ⟨by rfl, rfl⟩) hHeld ?_
      simp only [Act.put, List.getElem_toArray, List.getElem_cons_zero, List.getElem_cons_succ, List.setIfInBounds_toArray, List.set_cons_zero, List.set_cons_succ]
      refine wpAnyH_take (i := 16) (v := undef) rfl (by kernel_rfl) (by kernel_rfl) (by kernel_rfl) (fun _ _ _ h => h) (Or.inr ⟨by rfl, rfl⟩) hHeld ?_
      simp only [Act.put, List.getElem_toArray, List.getElem_cons_zero, List.getElem_cons_succ, List.setIfInBounds_toArray, List.set_cons_zero, List.set_cons_succ]
      refine wpAnyH_take (i := 17) (v := undef) rfl (by kernel_rfl) (by kernel_rfl) (by kernel_rfl) (fun _ _ _ h => h) (Or.inr ⟨by rfl, rfl⟩) hHeld ?_
      simp only [Act.put, List.getElem_toArray, List.getElem_cons_zero, List.getElem_cons_succ, List.setIfInBounds_toArray, List.set_cons_zero, List.set_cons_succ]
      refine wpAnyH_take (i := 18) (v := undef) rfl (by kernel_rfl) (by kernel_rfl) (by kernel_rfl) (fun _ _ _ h => h) (Or.inr ⟨by rfl, rfl⟩) hHeld ?_
      simp only [Act.put, List.getElem_toArray, List.getElem_cons_zero, List.getElem_cons_succ, List.setIfInBounds_toArray, List.set_cons_zero, List.set_cons_succ]
      refine wpAnyH_take (i := 19) (v := undef) rfl (by kernel_rfl) (by kernel_rfl) (by kernel_rfl) (fun _ _ _ h => h) (Or.inr ⟨by rfl, rfl⟩) hHeld ?_
      simp only [Act.put, List.getElem_toArray, List.getElem_cons_zero, List.getElem_cons_succ, List.setIfInBounds_toArray, List.set_cons_zero, List.set_cons_succ]
      refine wpAnyH_take (i := 20) (v := undef) rfl (by kernel_rfl) (by kernel_rfl) (by kernel_rfl) (fun _ _ _ h => h) (Or.inr ⟨by rfl, rfl⟩) hHeld ?_
      simp only [Act.put, List.getElem_toArray, List.getElem_cons_zero, List.getElem_cons_succ, List.setIfInBounds_toArray, List.set_cons_zero, List.set_cons_succ]
      refine wpAnyH_take (i := 21) (v := undef) rfl (by kernel_rfl) (by kernel_rfl) (by kernel_rfl) (fun _ _ _ h => h) (Or.inr ⟨by rfl, rfl⟩) hHeld ?_
      simp only [Act.put, List.getElem_toArray, List.getElem_cons_zero, List.getElem_cons_succ, List.setIfInBounds_toArray, List.set_cons_zero, List.set_cons_succ]
      refine wpAnyH_take (i := 22) (v := undef) rfl (by kernel_rfl) (by kernel_rfl) (by kernel_rfl) (fun _ _ _ h => h) (Or.inr ⟨by rfl, rfl⟩) hHeld ?_
      simp only [Act.put, List.getElem_toArray, List.getElem_cons_zero, List.getElem_cons_succ, List.setIfInBounds_toArray, List.set_cons_zero, List.set_cons_succ]
      refine wpAnyH_take (i := 23) (v := undef) rfl (by kernel_rfl) (by kernel_rfl) (by kernel_rfl) (fun _ _ _ h => h) (Or.inr ⟨by rfl, rfl⟩) hHeld ?_
      simp only [Act.put, List.getElem_toArray, List.getElem_cons_zero, List.getElem_cons_succ, List.setIfInBounds_toArray, List.set_cons_zero, List.set_cons_succ]
      refine wpAnyH_take (i := 24) (v := .bool false) rfl (by kernel_rfl) (by kernel_rfl) (by kernel_rfl) (fun _ _ _ h => h) (Or.inl ⟨by rfl, fun w hw => (by obtain ⟨a0, a1, m0, m1, q1, q2⟩ := hw; go_simp)⟩) hHeld ?_
      simp only [Act.put, List.getElem_toArray, List.getElem_cons_zero, List.getElem_cons_succ, List.setIfInBounds_toArray, List.set_cons_zero, List.set_cons_succ]
      refine wpAnyH_done (by kernel_rfl) ?_ _
      gi_wp2
      exact unhide hfin _ _ _ _ (unhide hVh).drew (Fr.drew (Fr.refl _ _)) (by rw [unhide hno]) (by rw [unhide hno]) (by rw [unhide hno])

end Go.Proofs.YtnfakamfmkhlbabGreatDoor.C
