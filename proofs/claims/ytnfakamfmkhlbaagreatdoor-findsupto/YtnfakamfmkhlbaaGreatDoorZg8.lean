import Derived.Test.YtnfakamfmkhlbaaGreatDoorZg7
import Derived.Test.YtnfakamfmkhlbaaGreatDoorZg3
import Derived.Test.YtnfakamfmkhlbaaGreatDoorZg1
namespace Go.Proofs.YtnfakamfmkhlbaaGreatDoor.C
open Go.ChangeShapes Go.WideShapes Go.ChangeAt Go.RowKit
open Go.Proofs.YtnfakamfmkhlbaaGreatDoor.P
attribute [local go_sem] setCell_drewN alloc_drewN Oper.semAt_some
set_option maxRecDepth 100000 in
set_option maxHeartbeats 4000000 in
theorem sqF_in (n : Nat) (hn : 1 ≤ n) (l Bn n₀ : Nat) (_hB : Bn < n₀) (ht0 : 2 < n₀) (s : BitVec 64) (J Jx : List (Fin 64) → World → Prop)
  (hY : ∀ pre x W, J pre W → pre.length < (sqs s).length → YieldAt Fence.wide (n - 1) Tryz.prog l #[.int .i64 ((x.val : Nat) : Int)] W fun e W' =>
   (e = .returned (.bool true) ∧ J (pre ++ [x]) W' ∧ Below n₀ W W') ∨ (e = .returned (.bool false) ∧ Jx (pre ++ [x]) W'))
  (W : World) (hBn : W.cell? ⟨Bn, 0, none⟩ = some (.int .u64 (U s))) (hT : BTab W) (h0 : J [] W) :
  CallsIn Fence.wide n Tryz.prog 224 #[.func (.yield l) #[] #[], .pointer (some ⟨Bn, 0, none⟩)] W fun e W' => (∃ v, e = .returned v) ∧
   ((∃ ys : List (Fin 64), ys.map (·.val) = sqs s ∧ J ys W') ∨ (∃ pre : List (Fin 64), pre.map (·.val) <+: sqs s ∧ Jx pre W')) := by
 refine callsIn_of_wp Tryz.func224 rfl trivial ?_ rfl
 simp only [Tryz.ntmps224, List.size_toArray, List.length_cons, List.length_nil, Nat.reduceAdd, Nat.reduceSub, Array.replicate_succ, Array.replicate_zero, List.push_toArray, List.append_toArray, List.nil_append, List.cons_append]
 gi_wp2
 gi_loopw [3] (fun p wr => ∃ (pre : List (Fin 64)) (r : BitVec 64), p = .int .u64 (U r) ∧ sqs s = pre.map (·.val) ++ sqs r ∧ BTab wr ∧ J pre wr) (fun p _ => (sqs (BitVec.ofInt 64 (intOf p))).length)
 case atStart => exact ⟨[], s, rfl, rfl, hT, h0⟩
 case round =>
  obtain ⟨pre, r, rfl, hx, htb, hJs⟩ := hrel
  by_cases hr : r = 0#64
  ·subst hr
   have hz : (U 0#64 != 0) = false := by decide +kernel
   rw [sqs_zero, List.append_nil] at hx
   have hx' := hide hx
   clear hx
   gi_wp2
   go_end0
   exact ⟨⟨_, rfl⟩, .inl ⟨pre, (unhide hx').symm, hJs⟩⟩
  ·obtain ⟨t, t1, t2, t3⟩ := low_exists r hr
   have hst := sqs_step r t t1 t2 t3
   have hnz : (U r != 0) = true := by
    simp only [bne_iff_ne]
    intro e
    exact hr (U_inj (e.trans (by decide +kernel)))
   have htz := hide (tz_any r t t2 t3)
   obtain ⟨fn, tmps, assign, body, hy, hR⟩ := hY pre ⟨t, t1⟩ wr hJs (by rw [hx, hst]; simp)
   have hx' := hide hx
   have hst' := hide hst
   have htb' := hide htb
   clear hx hst htb hr t2 t3
   gi_wp2_with (refine ⟨trivial, ?_⟩; gi_at_call 225; refine (callsIn_wide.2 (unhide htz _ (unhide htb'))).mono ?_; rintro e w' ⟨rfl, rfl⟩)
   refine hR.mono ?_
   rintro e W3 (⟨rfl, hJ3, hk3⟩ | ⟨rfl, hJx3⟩)
   ·have e1 : IntKind.u64.wrap (U r - 1) = U (r - 1#64) := by
     rw [show (1 : Int) = U 1#64 from by decide +kernel]; exact sub_U r 1#64
    have e2 : bits .and .u64 (U r) (U (r - 1#64)) = U (r &&& (r - 1#64)) := and_U _ _
    gi_wp2
    go_roundw
    case rel => exact ⟨pre ++ [⟨t, t1⟩], r &&& (r - 1#64), rfl, by rw [unhide hx', unhide hst']; simp, (unhide htb').below hk3 ht0, hJ3⟩
    case measure => simp only [intOf]; rw [ofInt_U, ofInt_U, unhide hst']; simp
   ·gi_wp2
    refine bodyPost_ret (results_none rfl _ _ _) rfl ?_
    exact ⟨⟨_, rfl⟩, .inr ⟨pre ++ [⟨t, t1⟩], ⟨sqs (r &&& (r - 1#64)), by rw [unhide hx', unhide hst']; simp⟩, hJx3⟩⟩
theorem sqF_stops (n : Nat) (hn : 1 ≤ n) (Bn n₀ : Nat) (hB : Bn < n₀) (ht0 : 2 < n₀) (s : BitVec 64) (w : World) (hn₀ : n₀ ≤ w.heap.size) (hc : w.cell? ⟨Bn, 0, none⟩ = some (.int .u64 (U s))) (hT : BTab w) :
  SeqStopsK Fence.wide n Tryz.prog 224 #[.pointer (some ⟨Bn, 0, none⟩)] (fun x : Fin 64 => #[Value.int .i64 ((x.val : Nat) : Int)]) (Below n₀) (fun ys => ys.map (·.val) = sqs s) (fun pre => pre.map (·.val) <+: sqs s) (sqs s).length w := fun l J Jx W hW _ _ hY h0 =>
 sqF_in n hn l Bn n₀ hB ht0 s J Jx hY W ((hW.cell (p := ⟨Bn, 0, none⟩) (Nat.lt_of_lt_of_le hB hn₀)).trans hc) (hT.below hW (Nat.lt_of_lt_of_le ht0 hn₀)) h0
theorem Gr.others {W W' : World} (g : Gr W W') : KeepsOthers W W' := ⟨Below.size g, fun k _ hk _ => (Below.block g k (Array.getElem?_eq_some_iff.1 hk).1).trans hk⟩
theorem wpListIn_load_men {F : Fence} {n : Nat} {ops : Array Oper} {rest : List Oper} {o : Oper} {a : Act} {w : World} {M : Array Value} {Q : Exit → Act → World → Prop} (hg : o.guard = none) (x : Operand) (ho : o.op = .load 151 x) (b : Nat) (hx : a.eval x = .pointer (some ⟨b, 0, none⟩)) (hh : HeldAt b M w)
  (h : wpListIn F n Tryz.prog ops Q rest (a.put o.dst (.agg M)) w) : wpListIn F n Tryz.prog ops Q (o :: rest) a w :=
 wpListIn_plain hg fun K hK => by
  refine ⟨fun f hf => ?_, ?_⟩
  ·simp [Oper.about, ho] at hf
  ·rw [Oper.semAt_eq _ _ _ (by rw [ho]; intro c e; cases e)]
   have hr : (execOp a.eval o).run Tryz.prog w = .ok (.value (.agg M)) w := by
    have := run_loadVar_mid (P := Tryz.prog) w b 0 151 M.toList _ hh.2.1 Tryz.underlying151 rfl (by rw [info12]; simp [hh.2.2])
    rw [Array.toArray_toList] at this
    unfold execOp
    simp only [ho, hx, Instr.loadAt, Instr.sureAddr, Sem.run_bind, Sem.run_pure, Result.andThen_ok, this]
   rw [hr, Oper.uponIn_value]
   exact hK _ _ h
theorem held_of_block {W : World} {b : Nat} {M : Array Value} (h : W.heap[b]? = some (.cells M 151)) (hz : M.size = 12) : HeldAt b M W :=
 ⟨(Array.getElem?_eq_some_iff.1 h).1, fun j v hv => by rw [cell_of_row _ _ _ _ _ _ h, Nat.zero_add, ← Array.getElem?_toList]; exact hv, hz⟩
theorem set_box {W : World} {b : Nat} {u v : Value} {t : TypeId} (h : W.heap[b]? = some (.cells #[u] t)) : (W.setCell ⟨b, 0, none⟩ v).heap[b]? = some (.cells #[v] t) := by
 have hb := (Array.getElem?_eq_some_iff.1 h).1
 have h' : W.heap[b] = .cells #[u] t := (Array.getElem?_eq_some_iff.1 h).2
 simp [World.setCell, hb, Array.getElem_modify, h']
theorem put_far {W : World} {b D : Nat} {o o' : Obj} (h : W.heap[b]? = some o) (hne : b ≠ D) : (W.putObj D o').heap[b]? = some o := (World.putObj_heap_other hne).trans h
theorem res_box (tmps : Array Value) (w : World) (b : Nat) (v : Value) (hp : tmps.getD 4 undef = .pointer (some ⟨b, 0, none⟩)) (hc : w.cell? ⟨b, 0, none⟩ = some v) : (results Tryz.f78 tmps).run Tryz.prog w = .ok v w := by
 have hp' : tmps[4]?.getD undef = .pointer (some ⟨b, 0, none⟩) := by simpa using hp
 simp [results, Tryz.results78, hp', asAddr, go_sem, hc]
def otherS (m : Nat → BitVec 64) (wh : Bool) : Bool := (sqs (m (bg (!wh) + 5))).any fun y => attackedS m (y : Int) wh
set_option maxRecDepth 100000 in
set_option maxHeartbeats 4000000 in
theorem other_any (m : Nat → BitVec 64) (M : Array Value) (hM : IsMen m M) (wh : Bool) (w : World) (hT : TabIn w) : Calls Tryz.prog 78 #[.agg M, .bool wh] w fun e w' => e = .returned (.bool (otherS m wh)) ∧ Gr w w' := by
 have hM' := hide hM
 have hT' := hide hT
 clear hM hT
 have hh : Hid (∀ o1 o2 o3, _) := hide (heap3 w)
 have hheld3 := held_of_block (unhide hh (.cells M 151) (.cells #[.bool wh] 4) (.cells #[.bool false] 4)).1 (unhide hM').1
 refine (callsIn_wide (n := 3)).1 ?_
 refine callsIn_of_wp_marks Tryz.func78 rfl trivial ?_ rfl
 simp only [Tryz.ntmps78, List.size_toArray, List.length_cons, List.length_nil, Nat.reduceAdd, Nat.reduceSub, Array.replicate_succ, Array.replicate_zero, List.push_toArray, List.append_toArray, List.nil_append, List.cons_append]
 gi_wp2_with (first
  | (refine wpListIn_load_men rfl _ rfl w.heap.size rfl hheld3 ?_)
  | (refine ⟨trivial, ?_⟩; gi_at_call 141; refine (callsIn_wide.2 (kings_any m M (unhide hM') _ _)).mono ?_; rintro e w4 ⟨rfl, hg⟩)
  | (refine ⟨trivial, ?_⟩; gi_at_call 142; refine (callsIn_wide.2 (squares_any _ _)).mono ?_; rintro e w5 ⟨rfl, rfl⟩))
 clear hheld3
 obtain ⟨h1, h2, h3⟩ := unhide hh (.cells M 151) (.cells #[.bool wh] 4) (.cells #[.bool false] 4)
 obtain ⟨s, hs⟩ : ∃ s, Hid (m (bg (!wh) + 5) = s) := ⟨_, hide rfl⟩
 rw [unhide hs]
 obtain ⟨w5, hw5⟩ : ∃ w5, w5 = w4.alloc (.cells #[.int .u64 (U s)] 149) := ⟨_, rfl⟩
 rw [← hw5]
 have hg5 : Gr (((w.alloc (.cells M 151)).alloc (.cells #[.bool wh] 4)).alloc (.cells #[.bool false] 4)) w5 := by rw [hw5]; exact hg.alloc _ _
 have hz3 : (((w.alloc (.cells M 151)).alloc (.cells #[.bool wh] 4)).alloc (.cells #[.bool false] 4)).heap.size = w.heap.size + 3 := by simp
 have b0 := (Below.block hg5 w.heap.size (by rw [hz3]; omega)).trans h1
 have b1 := (Below.block hg5 (w.heap.size + 1) (by rw [hz3]; omega)).trans h2
 have b2 := (Below.block hg5 (w.heap.size + 2) (by rw [hz3]; omega)).trans h3
 have hs5 : w.heap.size + 3 ≤ w5.heap.size := by rw [← hz3]; exact Below.size hg5
 have hG5 : Gr w w5 := Gr.trans ((((Gr.refl w).alloc _ _).alloc _ _).alloc _ _) hg5
 have hT5 := (unhide hT').gr hG5
 have hBn : w4.heap.size < w5.heap.size := by rw [hw5, World.size_alloc]; omega
 have hcB : w5.cell? ⟨w4.heap.size, 0, none⟩ = some (.int .u64 (U s)) := by rw [hw5, World.cell?_alloc_at _ _ _ _ rfl]; rfl
 clear hg5 hw5 hg h1 h2 h3 hz3 hh
 generalize w4.heap.size = Bn at hBn hcB ⊢
 refine wpIn_rangeFunc_ownF rfl (by omega) (gf := 224) (lb := #[.pointer (some ⟨Bn, 0, none⟩)]) rfl trivial (enters_of Tryz.func224 (by kernel_rfl) rfl)
  (sqF_stops _ (by omega) Bn w5.heap.size hBn hT5.2 s _ (Nat.le_refl _) hcB hT5.1) belowK_t (belowK_b (Nat.le_refl _)) (Below.refl _ _) (fun _ => rfl)
  (fun pre W => (∀ y ∈ pre, attackedS m ((y : Fin 64).val : Int) wh = false) ∧ Below w5.heap.size w5 W)
  (fun c pre W => c = .ret ∧ (∃ y ∈ pre, attackedS m ((y : Fin 64).val : Int) wh = true) ∧ ∃ W0 : World, (W0.heap[w.heap.size + 2]? = some (.cells #[.bool true] 4) ∧ Gr w W0 ∧ w5.heap.size ≤ W0.heap.size) ∧ Below w5.heap.size W0 W)
  (OwnFrom.and (fun _ _ _ _ hs _ _ => hs) (ownFrom_below (Nat.le_refl _) (Nat.le_refl _)))
  (fun _ _ _ _ _ hs hg hr => ⟨hs.1, hs.2.1, hs.2.2.choose, hs.2.2.choose_spec.1, ownFrom_below (β := List (Fin 64)) hs.2.2.choose_spec.1.2.2 (Nat.le_refl _) [] _ _ _ hs.2.2.choose_spec.2 hg hr⟩)
  ⟨fun y hy => absurd hy (List.not_mem_nil), Below.refl _ _⟩
  (fun x => { tmps := #[.agg M, .bool wh, .pointer (some ⟨w.heap.size, 0, none⟩), .pointer (some ⟨w.heap.size + 1, 0, none⟩), .pointer (some ⟨w.heap.size + 1 + 1, 0, none⟩), .int .i64 ((x : Fin 64).val : Nat), .agg M, .bool wh, .bool !wh, .int .u64 (U s), .func (.func 224) #[] #[.pointer (some ⟨Bn, 0, none⟩)], .int .i64 ((x : Fin 64).val : Nat), undef, undef, undef, undef], defers := [] }) ?assign ?body ?done ?stop
 case assign =>
  intro l x W K hK
  gi_wp2
  simpa using hK
 case body =>
  rintro l pre x W ⟨hpre, hB⟩ hlt
  have hx0 : (0 : Int) ≤ (x.val : Int) := by omega
  have hx1 : (x.val : Int) ≤ 63 := by have := x.isLt; omega
  have d0 := (Below.block hB w.heap.size (by omega)).trans b0
  have d1 := cell_of_box_l ((Below.block hB (w.heap.size + 1) (by omega)).trans b1)
  have d2 := (Below.block hB (w.heap.size + 2) (by omega)).trans b2
  have hheld := held_of_block d0 (unhide hM').1
  obtain ⟨d1a, d1b⟩ := d1
  obtain ⟨v, hv⟩ : ∃ v, Hid (attackedS m (x.val : Int) wh = v) := ⟨_, hide rfl⟩
  have hat := hide (attacked_any m M (unhide hM') (x.val : Int) hx0 hx1 wh W)
  rw [unhide hv] at hat
  have hpre' := hide hpre
  have hB' := hide hB
  have d2' := hide d2
  have b' := hide (And.intro b0 (And.intro b1 b2))
  have hszW : w.heap.size + 1 + 1 < W.heap.size := by have := Below.size hB; omega
  clear hpre hB d0 d2 b0 b1 b2 hcB hlt
  cases v
  ·gi_wp2_with (first
    | (refine wpListIn_load_men rfl _ rfl w.heap.size rfl hheld ?_)
    | (refine ⟨trivial, ?_⟩; gi_at_call 145; refine (CallsIn.inRound l (callsIn_wide.2 (unhide hat))).mono ?_; rintro e w' ⟨rfl, hg⟩))
   refine ⟨hg.others, Below.mono hg (Below.size (unhide hB')), fun y hy => ?_, (unhide hB').trans (Below.mono hg (Below.size (unhide hB')))⟩
   rcases List.mem_append.1 hy with h | h
   ·exact unhide hpre' y h
   ·rw [List.mem_singleton] at h; subst h; exact unhide hv
  ·gi_wp2_with (first
    | (refine wpListIn_load_men rfl _ rfl w.heap.size rfl hheld ?_)
    | (refine ⟨trivial, ?_⟩; gi_at_call 145; refine (CallsIn.inRound l (callsIn_wide.2 (unhide hat))).mono ?_; rintro e w' ⟨rfl, hg⟩; have d3 := (Below.block hg (w.heap.size + 1 + 1) hszW).trans (unhide d2'); have d4 := cell_of_box_l d3; obtain ⟨d4a, d4b⟩ := d4))
   exact ⟨hg.others.trans (KeepsOthers.setCell _ _ _), rfl, ⟨x, List.mem_append.2 (.inr (List.mem_singleton.2 rfl)), unhide hv⟩, _, ⟨set_box d3, Below.setCell (Gr.trans (Gr.trans hG5 (unhide hB')) hg) (show w.heap.size ≤ w.heap.size + 1 + 1 by omega) _, by
    have e1 := Below.size (unhide hB')
    have e2 := Below.size hg
    simp [World.setCell]
    omega⟩, Below.refl _ _⟩
 case done =>
  rintro D ys W hD hys ⟨hpre, hB⟩ hK
  have d2 := (Below.block hB (w.heap.size + 1 + 1) (by omega)).trans b2
  obtain ⟨d2a, d2b⟩ := cell_of_box_l d2
  have hK' := hide ((KeepsOthers.setCell W ⟨w.heap.size + 1 + 1, 0, none⟩ (.bool false)).same D _ hK rfl)
  have hv : Hid (otherS m wh = false) := hide (by
   unfold otherS
   rw [unhide hs, ← hys, List.any_eq_false]
   intro y hy
   obtain ⟨x, hx, rfl⟩ := List.mem_map.1 hy
   rw [hpre x hx]; decide)
  have hres := hide (cell_of_box_l (put_far (D := D) (o' := .deferred none) (set_box (v := .bool false) d2) (by omega))).1
  have hgr : Hid (Gr w ((W.setCell ⟨w.heap.size + 1 + 1, 0, none⟩ (.bool false)).putObj D (.deferred none))) := hide ((Below.setCell (Gr.trans hG5 hB) (show w.heap.size ≤ w.heap.size + 1 + 1 by omega) _).trans (belowK_b (w := w5) (n₀ := w.heap.size) (by omega) _ D _ _ hD (unhide hK') rfl rfl))
  clear hpre hys hB b0 b1 b2 d2
  gi_wp2
  refine ⟨by simp, .inl ⟨_, _, rfl, run_takeDeferred (unhide hK'), ?_⟩⟩
  exact ⟨_, res_box _ _ _ _ rfl (unhide hres), by rw [unhide hv], unhide hgr⟩
 case stop =>
  rintro D c pre W hD hpre ⟨rfl, ⟨y, hy1, hy2⟩, W0, ⟨c1, c2, c3⟩, hB⟩ hK
  have d2 := (Below.block hB (w.heap.size + 2) (by omega)).trans c1
  have hv : Hid (otherS m wh = true) := hide (by
   unfold otherS
   rw [unhide hs, List.any_eq_true]
   exact ⟨y.val, hpre.subset (List.mem_map.2 ⟨y, hy1, rfl⟩), hy2⟩)
  have hres := hide (cell_of_box_l (put_far (D := D) (o' := .deferred none) d2 (by omega))).1
  have hgr : Hid (Gr w (W.putObj D (.deferred none))) := hide ((Below.trans c2 (Below.mono hB (by omega))).trans (belowK_b (w := w5) (n₀ := w.heap.size) (by omega) _ D _ _ hD hK rfl rfl))
  gi_wp2
  refine ⟨by simp, .inl ⟨_, _, rfl, run_takeDeferred hK, ?_⟩⟩
  exact ⟨_, res_box _ _ _ _ rfl (unhide hres), by rw [unhide hv], unhide hgr⟩
end Go.Proofs.YtnfakamfmkhlbaaGreatDoor.C
namespace Go.Proofs.YtnfakamfmkhlbaaGreatDoor.C
open Go.ChangeShapes Go.WideShapes Go.ChangeAt Go.RowKit
open Go.Proofs.YtnfakamfmkhlbaaGreatDoor.P
attribute [local go_sem] setCell_drewN alloc_drewN
def RowAt (b : Nat) (A : Array Value) (w : World) : Prop := b < w.heap.size ∧ w.rangeAt b 0 A.toList
theorem RowAt.gr {b : Nat} {A : Array Value} {w w' : World} (h : RowAt b A w) (g : Gr w w') : RowAt b A w' :=
 ⟨Nat.lt_of_lt_of_le h.1 (Below.size g), fun j v hv => (Below.cell g (p := ⟨b, 0 + j, none⟩) h.1).trans (h.2 j v hv)⟩
theorem infoP72 : (Tryz.prog.info? 25).map (·.size) = some 72 := by kernel_rfl
theorem wpList_load_pos {ops : Array Oper} {rest : List Oper} {o : Oper} {a : Act} {w : World} {A : Array Value} {Q : Exit → Act → World → Prop} (hw : Region.wanted o (yielded ops a.tmps) = true) (x : Operand) (ho : o.op = .load 25 x) (b : Nat) (hx : a.eval x = .pointer (some ⟨b, 0, none⟩)) (hz : A.size = 72) (hh : RowAt b A w)
  (h : wpList Tryz.prog ops Q rest (a.put o.dst (.agg A)) w) : wpList Tryz.prog ops Q (o :: rest) a w :=
 wpList_step fun K hK => by
  rw [if_pos hw]
  refine wp_load_mid (P := Tryz.prog) 25 x ho b 0 hx A.toList _ hh.2 Tryz.underlying25 rfl (by rw [infoP72]; simp [hz]) ?_
  rw [Array.toArray_toList]
  exact hK _ _ h
structure Sp (w : World) (PA : Array Value) (bM : Nat) (M : Array Value) (wh : Bool) (cur : World) : Prop where
 row : RowAt w.heap.size PA cur
 wh : cur.cell? ⟨w.heap.size, 64, none⟩ = some (.bool wh)
 men : HeldAt bM M cur
 tab : TabIn cur
 homes : Homes cur
 gr : Gr w cur
theorem Sp.next {w cur cur' : World} {PA M : Array Value} {bM : Nat} {wh : Bool} (h : Sp w PA bM M wh cur) (g : Gr cur cur') : Sp w PA bM M wh cur' :=
 ⟨h.row.gr g, (Below.cell g (p := ⟨w.heap.size, 64, none⟩) h.row.1).trans h.wh, h.men.gr g, h.tab.gr g, h.homes.gr g, Gr.trans h.gr g⟩
def canM (z : Nat → UInt8) (wh : Bool) (f : Nat → Bool) (b h g : Int) (m : Nat → BitVec 64) : Bool := sideOk m true && sideOk m false && castOk z f && behOk z wh b && clkOk h g && !(otherS m wh)
def canS (z : Nat → UInt8) (wh : Bool) (f : Nat → Bool) (b h g : Int) : Bool := layOk z && canM z wh f b h g (layS z 64)
theorem lay_yes {z : Nat → UInt8} {B : Array Value} (hok : layOk z = true) (hs : B.size = 64) (hB : ∀ i, i < 64 → B[i]? = some (.int .u8 ((z i).toNat : Int))) (w : World) : Calls Tryz.prog 73 #[.agg B] w fun e w' => ∃ M, e = .returned (.tuple #[.agg M, .bool true]) ∧ IsMen (layS z 64) M ∧ Gr w w' :=
 (lay_any z B hs hB w).mono fun e w' h => by
  obtain ⟨⟨M, h1, _, h3⟩, hg⟩ := h
  rw [hok] at h1
  exact ⟨M, h1, h3 hok, hg⟩
theorem lay_no {z : Nat → UInt8} {B : Array Value} (hok : layOk z = false) (hs : B.size = 64) (hB : ∀ i, i < 64 → B[i]? = some (.int .u8 ((z i).toNat : Int))) (w : World) : Calls Tryz.prog 73 #[.agg B] w fun e w' => ∃ M m, e = .returned (.tuple #[.agg M, .bool false]) ∧ IsMen m M ∧ Gr w w' :=
 (lay_any z B hs hB w).mono fun e w' h => by
  obtain ⟨⟨M, h1, ⟨m, hm⟩, _⟩, hg⟩ := h
  rw [hok] at h1
  exact ⟨M, m, h1, hm, hg⟩
set_option maxRecDepth 100000 in
set_option maxHeartbeats 8000000 in
theorem can_walk {z : Nat → UInt8} {wh : Bool} {f : Nat → Bool} {b h g : Int} {PA : Array Value} (r : Row z wh f b h g PA) (w : World) (hT : TabIn w) (hH : Homes w) (hok : layOk z = true) : Calls Tryz.prog 37 #[.agg PA] w fun e w' => e = .returned (.bool (canM z wh f b h g (layS z 64))) ∧ Gr w w' := by
 have hg1 : Gr w (w.alloc (.cells PA 25)) := (Gr.refl w).alloc _ _
 have hc : ∀ o, (w.alloc (.cells PA 25)).cell? ⟨w.heap.size, o, none⟩ = PA[o]? := fun o => World.cell?_alloc_at _ _ _ _ rfl
 have hrow : RowAt w.heap.size PA (w.alloc (.cells PA 25)) := ⟨by rw [World.size_alloc]; omega, fun j v hv => by rw [hc, Nat.zero_add, ← Array.getElem?_toList]; exact hv⟩
 have h64 : (w.alloc (.cells PA 25)).rangeAt w.heap.size 0 (PA.toList.take 64) := fun j v hv => by
  rw [hc, Nat.zero_add, ← Array.getElem?_toList]
  rw [List.getElem?_take] at hv
  split at hv
  ·exact hv
  ·cases hv
 have hz64 : (PA.toList.take 64).length = 64 := by simp [r.size]
 have hB : ∀ i, i < 64 → (PA.toList.take 64).toArray[i]? = some (.int .u8 ((z i).toNat : Int)) := fun i hi => by
  rw [List.getElem?_toArray, List.getElem?_take, if_pos hi, Array.getElem?_toList]; exact r.sq i hi
 have hlay := hide (lay_yes hok (by simpa using hz64) hB)
 have hwh0 : (w.alloc (.cells PA 25)).cell? ⟨w.heap.size, 64, none⟩ = some (.bool wh) := by rw [hc]; exact r.wh
 have hz := r.size
 have r' := hide r
 have hT' := hide (hT.gr hg1)
 have hH' := hide (hH.gr hg1)
 have hg1' := hide hg1
 have h64' := hide h64
 have hi64 : Hid ((Tryz.prog.info? 22).map (·.size) = some (PA.toList.take 64).length) := hide (by rw [hz64]; exact info64)
 have hrow' := hide hrow
 have hwh' := hide hwh0
 clear r hT hH hg1 h64 hrow hB hc hwh0 hz64 hok
 generalize PA.toList.take 64 = L at hlay h64' hi64
 generalize layS z 64 = m at hlay ⊢
 have k0 : Hid (∀ (bb : Bool) (M : Array Value) (W : World), IsMen m M → TabIn W → Calls Tryz.prog 74 #[.agg M, .bool bb] W fun e w' => e = .returned (.bool (sideOk m bb)) ∧ Gr W w') := hide fun bb M W h t => sidecan_any m M h bb W t
 have k2 : Hid (∀ W : World, Homes W → Calls Tryz.prog 75 #[.agg PA] W fun e w' => e = .returned (.bool (castOk z f)) ∧ Gr W w') := hide fun W t => cast_any (unhide r') W t
 have k3 : Hid (∀ W : World, Calls Tryz.prog 76 #[.agg PA] W fun e w' => e = .returned (.bool (behOk z wh b)) ∧ Gr W w') := hide fun W => behok_any (unhide r') W
 have k4 : Hid (∀ W : World, Calls Tryz.prog 77 #[.agg PA] W fun e w' => e = .returned (.bool (clkOk h g)) ∧ Gr W w') := hide fun W => clocks_any (unhide r') W
 have k5 : Hid (∀ (M : Array Value) (W : World), IsMen m M → TabIn W → Calls Tryz.prog 78 #[.agg M, .bool wh] W fun e w' => e = .returned (.bool (otherS m wh)) ∧ Gr W w') := hide fun M W h t => other_any m M h wh W t
 have hcan : Hid (canM z wh f b h g m = (sideOk m true && sideOk m false && castOk z f && behOk z wh b && clkOk h g && !(otherS m wh))) := hide rfl
 generalize sideOk m = qs at k0 hcan
 generalize castOk z f = q2 at k2 hcan
 generalize behOk z wh b = q3 at k3 hcan
 generalize clkOk h g = q4 at k4 hcan
 generalize otherS m wh = q5 at k5 hcan
 obtain ⟨q0, hq0⟩ : ∃ q, Hid (qs true = q) := ⟨_, hide rfl⟩
 obtain ⟨q1, hq1⟩ : ∃ q, Hid (qs false = q) := ⟨_, hide rfl⟩
 have hcan2 : Hid (canM z wh f b h g m = (q0 && q1 && q2 && q3 && q4 && !q5)) := hide (by rw [unhide hcan, unhide hq0, unhide hq1])
 clear hcan
 go_enter Tryz.func37, Tryz.ntmps37
 go_upto_region 2 with (first
  | (refine wpList_load_mid rfl 22 _ rfl w.heap.size 0 rfl L _ (unhide h64') Tryz.underlying22 rfl (unhide hi64) ?_)
  | (go_at_call 73; refine (unhide hlay _).mono ?_; rintro e w2 ⟨M, rfl, hM, hg2⟩)
  | (refine wpList_store_row rfl 151 _ _ rfl w2.heap.size M rfl rfl 151 _ (heap_alloc_new _ _) hM.info hM.1.symm hM.ones ?_))
 generalize hw3 : (w2.alloc (.cells #[.int .u64 0, .int .u64 0, .int .u64 0, .int .u64 0, .int .u64 0, .int .u64 0, .int .u64 0, .int .u64 0, .int .u64 0, .int .u64 0, .int .u64 0, .int .u64 0] 151)).setRow w2.heap.size M = w3
 have hb3 : w3.heap[w2.heap.size]? = some (.cells M 151) := by rw [← hw3]; exact setRow_heap _ _ _ _ _ _ (heap_alloc_new w2 _)
 have hg3 : Gr w2 w3 := by rw [← hw3]; exact ((Gr.refl w2).alloc _ _).setRow _ (Nat.le_refl _) _
 have hg13 : Gr (w.alloc (.cells PA 25)) w3 := Gr.trans hg2 hg3
 have hsp : Sp w PA w2.heap.size M wh w3 := ⟨(unhide hrow').gr hg13, (Below.cell hg13 (p := ⟨w.heap.size, 64, none⟩) (unhide hrow').1).trans (unhide hwh'), held_of_block hb3 hM.1, (unhide hT').gr hg13, (unhide hH').gr hg13, Gr.trans (unhide hg1') hg13⟩
 have hwc := hsp.wh
 clear hw3 hb3 hg3 hg13 hg2 hlay h64' hi64 hrow' hwh' hT' hH' hg1' r'
 cases q0
 ·go_wp2_with (first
   | (refine wpList_load_men (by rfl) _ rfl w2.heap.size rfl (Sp.men (w := w) (PA := PA) (wh := wh) (by assumption)) ?_)
   | (refine wpList_load_pos (by rfl) _ rfl w.heap.size rfl hz (Sp.row (bM := w2.heap.size) (M := M) (wh := wh) (by assumption)) ?_)
   | (go_at_call 74; refine (unhide k0 _ M _ hM (Sp.tab (w := w) (PA := PA) (bM := w2.heap.size) (M := M) (wh := wh) (by assumption))).mono ?_; rintro e w' ⟨rfl, hg⟩; (first | rw [unhide hq0] | rw [unhide hq1]); have hsp := Sp.next (by assumption) hg; have hwc := hsp.wh)
   | (go_at_call 75; refine (unhide k2 _ (Sp.homes (w := w) (PA := PA) (bM := w2.heap.size) (M := M) (wh := wh) (by assumption))).mono ?_; rintro e w' ⟨rfl, hg⟩; have hsp := Sp.next (by assumption) hg; have hwc := hsp.wh)
   | (go_at_call 76; refine (unhide k3 _).mono ?_; rintro e w' ⟨rfl, hg⟩; have hsp := Sp.next (by assumption) hg; have hwc := hsp.wh)
   | (go_at_call 77; refine (unhide k4 _).mono ?_; rintro e w' ⟨rfl, hg⟩; have hsp := Sp.next (by assumption) hg; have hwc := hsp.wh)
   | (go_at_call 78; refine (unhide k5 M _ hM (Sp.tab (w := w) (PA := PA) (bM := w2.heap.size) (M := M) (wh := wh) (by assumption))).mono ?_; rintro e w' ⟨rfl, hg⟩; have hsp := Sp.next (by assumption) hg; have hwc := hsp.wh))
  go_ret
  exact ⟨by rw [unhide hcan2]; rfl, hsp.gr⟩
 ·cases q1
  ·go_wp2_with (first
    | (refine wpList_load_men (by rfl) _ rfl w2.heap.size rfl (Sp.men (w := w) (PA := PA) (wh := wh) (by assumption)) ?_)
    | (refine wpList_load_pos (by rfl) _ rfl w.heap.size rfl hz (Sp.row (bM := w2.heap.size) (M := M) (wh := wh) (by assumption)) ?_)
    | (go_at_call 74; refine (unhide k0 _ M _ hM (Sp.tab (w := w) (PA := PA) (bM := w2.heap.size) (M := M) (wh := wh) (by assumption))).mono ?_; rintro e w' ⟨rfl, hg⟩; (first | rw [unhide hq0] | rw [unhide hq1]); have hsp := Sp.next (by assumption) hg; have hwc := hsp.wh)
    | (go_at_call 75; refine (unhide k2 _ (Sp.homes (w := w) (PA := PA) (bM := w2.heap.size) (M := M) (wh := wh) (by assumption))).mono ?_; rintro e w' ⟨rfl, hg⟩; have hsp := Sp.next (by assumption) hg; have hwc := hsp.wh)
    | (go_at_call 76; refine (unhide k3 _).mono ?_; rintro e w' ⟨rfl, hg⟩; have hsp := Sp.next (by assumption) hg; have hwc := hsp.wh)
    | (go_at_call 77; refine (unhide k4 _).mono ?_; rintro e w' ⟨rfl, hg⟩; have hsp := Sp.next (by assumption) hg; have hwc := hsp.wh)
    | (go_at_call 78; refine (unhide k5 M _ hM (Sp.tab (w := w) (PA := PA) (bM := w2.heap.size) (M := M) (wh := wh) (by assumption))).mono ?_; rintro e w' ⟨rfl, hg⟩; have hsp := Sp.next (by assumption) hg; have hwc := hsp.wh))
   go_ret
   exact ⟨by rw [unhide hcan2]; rfl, hsp.gr⟩
  ·cases q2
   ·go_wp2_with (first
     | (refine wpList_load_men (by rfl) _ rfl w2.heap.size rfl (Sp.men (w := w) (PA := PA) (wh := wh) (by assumption)) ?_)
     | (refine wpList_load_pos (by rfl) _ rfl w.heap.size rfl hz (Sp.row (bM := w2.heap.size) (M := M) (wh := wh) (by assumption)) ?_)
     | (go_at_call 74; refine (unhide k0 _ M _ hM (Sp.tab (w := w) (PA := PA) (bM := w2.heap.size) (M := M) (wh := wh) (by assumption))).mono ?_; rintro e w' ⟨rfl, hg⟩; (first | rw [unhide hq0] | rw [unhide hq1]); have hsp := Sp.next (by assumption) hg; have hwc := hsp.wh)
     | (go_at_call 75; refine (unhide k2 _ (Sp.homes (w := w) (PA := PA) (bM := w2.heap.size) (M := M) (wh := wh) (by assumption))).mono ?_; rintro e w' ⟨rfl, hg⟩; have hsp := Sp.next (by assumption) hg; have hwc := hsp.wh)
     | (go_at_call 76; refine (unhide k3 _).mono ?_; rintro e w' ⟨rfl, hg⟩; have hsp := Sp.next (by assumption) hg; have hwc := hsp.wh)
     | (go_at_call 77; refine (unhide k4 _).mono ?_; rintro e w' ⟨rfl, hg⟩; have hsp := Sp.next (by assumption) hg; have hwc := hsp.wh)
     | (go_at_call 78; refine (unhide k5 M _ hM (Sp.tab (w := w) (PA := PA) (bM := w2.heap.size) (M := M) (wh := wh) (by assumption))).mono ?_; rintro e w' ⟨rfl, hg⟩; have hsp := Sp.next (by assumption) hg; have hwc := hsp.wh))
    go_ret
    exact ⟨by rw [unhide hcan2]; rfl, hsp.gr⟩
   ·cases q3
    ·go_wp2_with (first
      | (refine wpList_load_men (by rfl) _ rfl w2.heap.size rfl (Sp.men (w := w) (PA := PA) (wh := wh) (by assumption)) ?_)
      | (refine wpList_load_pos (by rfl) _ rfl w.heap.size rfl hz (Sp.row (bM := w2.heap.size) (M := M) (wh := wh) (by assumption)) ?_)
      | (go_at_call 74; refine (unhide k0 _ M _ hM (Sp.tab (w := w) (PA := PA) (bM := w2.heap.size) (M := M) (wh := wh) (by assumption))).mono ?_; rintro e w' ⟨rfl, hg⟩; (first | rw [unhide hq0] | rw [unhide hq1]); have hsp := Sp.next (by assumption) hg; have hwc := hsp.wh)
      | (go_at_call 75; refine (unhide k2 _ (Sp.homes (w := w) (PA := PA) (bM := w2.heap.size) (M := M) (wh := wh) (by assumption))).mono ?_; rintro e w' ⟨rfl, hg⟩; have hsp := Sp.next (by assumption) hg; have hwc := hsp.wh)
      | (go_at_call 76; refine (unhide k3 _).mono ?_; rintro e w' ⟨rfl, hg⟩; have hsp := Sp.next (by assumption) hg; have hwc := hsp.wh)
      | (go_at_call 77; refine (unhide k4 _).mono ?_; rintro e w' ⟨rfl, hg⟩; have hsp := Sp.next (by assumption) hg; have hwc := hsp.wh)
      | (go_at_call 78; refine (unhide k5 M _ hM (Sp.tab (w := w) (PA := PA) (bM := w2.heap.size) (M := M) (wh := wh) (by assumption))).mono ?_; rintro e w' ⟨rfl, hg⟩; have hsp := Sp.next (by assumption) hg; have hwc := hsp.wh))
     go_ret
     exact ⟨by rw [unhide hcan2]; rfl, hsp.gr⟩
    ·cases q4
     ·go_wp2_with (first
       | (refine wpList_load_men (by rfl) _ rfl w2.heap.size rfl (Sp.men (w := w) (PA := PA) (wh := wh) (by assumption)) ?_)
       | (refine wpList_load_pos (by rfl) _ rfl w.heap.size rfl hz (Sp.row (bM := w2.heap.size) (M := M) (wh := wh) (by assumption)) ?_)
       | (go_at_call 74; refine (unhide k0 _ M _ hM (Sp.tab (w := w) (PA := PA) (bM := w2.heap.size) (M := M) (wh := wh) (by assumption))).mono ?_; rintro e w' ⟨rfl, hg⟩; (first | rw [unhide hq0] | rw [unhide hq1]); have hsp := Sp.next (by assumption) hg; have hwc := hsp.wh)
       | (go_at_call 75; refine (unhide k2 _ (Sp.homes (w := w) (PA := PA) (bM := w2.heap.size) (M := M) (wh := wh) (by assumption))).mono ?_; rintro e w' ⟨rfl, hg⟩; have hsp := Sp.next (by assumption) hg; have hwc := hsp.wh)
       | (go_at_call 76; refine (unhide k3 _).mono ?_; rintro e w' ⟨rfl, hg⟩; have hsp := Sp.next (by assumption) hg; have hwc := hsp.wh)
       | (go_at_call 77; refine (unhide k4 _).mono ?_; rintro e w' ⟨rfl, hg⟩; have hsp := Sp.next (by assumption) hg; have hwc := hsp.wh)
       | (go_at_call 78; refine (unhide k5 M _ hM (Sp.tab (w := w) (PA := PA) (bM := w2.heap.size) (M := M) (wh := wh) (by assumption))).mono ?_; rintro e w' ⟨rfl, hg⟩; have hsp := Sp.next (by assumption) hg; have hwc := hsp.wh))
      go_ret
      exact ⟨by rw [unhide hcan2]; rfl, hsp.gr⟩
     ·cases q5
      ·go_wp2_with (first
        | (refine wpList_load_men (by rfl) _ rfl w2.heap.size rfl (Sp.men (w := w) (PA := PA) (wh := wh) (by assumption)) ?_)
        | (refine wpList_load_pos (by rfl) _ rfl w.heap.size rfl hz (Sp.row (bM := w2.heap.size) (M := M) (wh := wh) (by assumption)) ?_)
        | (go_at_call 74; refine (unhide k0 _ M _ hM (Sp.tab (w := w) (PA := PA) (bM := w2.heap.size) (M := M) (wh := wh) (by assumption))).mono ?_; rintro e w' ⟨rfl, hg⟩; (first | rw [unhide hq0] | rw [unhide hq1]); have hsp := Sp.next (by assumption) hg; have hwc := hsp.wh)
        | (go_at_call 75; refine (unhide k2 _ (Sp.homes (w := w) (PA := PA) (bM := w2.heap.size) (M := M) (wh := wh) (by assumption))).mono ?_; rintro e w' ⟨rfl, hg⟩; have hsp := Sp.next (by assumption) hg; have hwc := hsp.wh)
        | (go_at_call 76; refine (unhide k3 _).mono ?_; rintro e w' ⟨rfl, hg⟩; have hsp := Sp.next (by assumption) hg; have hwc := hsp.wh)
        | (go_at_call 77; refine (unhide k4 _).mono ?_; rintro e w' ⟨rfl, hg⟩; have hsp := Sp.next (by assumption) hg; have hwc := hsp.wh)
        | (go_at_call 78; refine (unhide k5 M _ hM (Sp.tab (w := w) (PA := PA) (bM := w2.heap.size) (M := M) (wh := wh) (by assumption))).mono ?_; rintro e w' ⟨rfl, hg⟩; have hsp := Sp.next (by assumption) hg; have hwc := hsp.wh))
       go_ret
       exact ⟨by rw [unhide hcan2]; rfl, hsp.gr⟩
      ·go_wp2_with (first
        | (refine wpList_load_men (by rfl) _ rfl w2.heap.size rfl (Sp.men (w := w) (PA := PA) (wh := wh) (by assumption)) ?_)
        | (refine wpList_load_pos (by rfl) _ rfl w.heap.size rfl hz (Sp.row (bM := w2.heap.size) (M := M) (wh := wh) (by assumption)) ?_)
        | (go_at_call 74; refine (unhide k0 _ M _ hM (Sp.tab (w := w) (PA := PA) (bM := w2.heap.size) (M := M) (wh := wh) (by assumption))).mono ?_; rintro e w' ⟨rfl, hg⟩; (first | rw [unhide hq0] | rw [unhide hq1]); have hsp := Sp.next (by assumption) hg; have hwc := hsp.wh)
        | (go_at_call 75; refine (unhide k2 _ (Sp.homes (w := w) (PA := PA) (bM := w2.heap.size) (M := M) (wh := wh) (by assumption))).mono ?_; rintro e w' ⟨rfl, hg⟩; have hsp := Sp.next (by assumption) hg; have hwc := hsp.wh)
        | (go_at_call 76; refine (unhide k3 _).mono ?_; rintro e w' ⟨rfl, hg⟩; have hsp := Sp.next (by assumption) hg; have hwc := hsp.wh)
        | (go_at_call 77; refine (unhide k4 _).mono ?_; rintro e w' ⟨rfl, hg⟩; have hsp := Sp.next (by assumption) hg; have hwc := hsp.wh)
        | (go_at_call 78; refine (unhide k5 M _ hM (Sp.tab (w := w) (PA := PA) (bM := w2.heap.size) (M := M) (wh := wh) (by assumption))).mono ?_; rintro e w' ⟨rfl, hg⟩; have hsp := Sp.next (by assumption) hg; have hwc := hsp.wh))
       go_ret
       exact ⟨by rw [unhide hcan2]; rfl, hsp.gr⟩
set_option maxRecDepth 100000 in
set_option maxHeartbeats 8000000 in
theorem can_no {z : Nat → UInt8} {wh : Bool} {f : Nat → Bool} {b h g : Int} {PA : Array Value} (r : Row z wh f b h g PA) (w : World) (hok : layOk z = false) : Calls Tryz.prog 37 #[.agg PA] w fun e w' => e = .returned (.bool false) ∧ Gr w w' := by
 have hg1 : Gr w (w.alloc (.cells PA 25)) := (Gr.refl w).alloc _ _
 have hc : ∀ o, (w.alloc (.cells PA 25)).cell? ⟨w.heap.size, o, none⟩ = PA[o]? := fun o => World.cell?_alloc_at _ _ _ _ rfl
 have h64 : (w.alloc (.cells PA 25)).rangeAt w.heap.size 0 (PA.toList.take 64) := fun j v hv => by
  rw [hc, Nat.zero_add, ← Array.getElem?_toList]
  rw [List.getElem?_take] at hv
  split at hv
  ·exact hv
  ·cases hv
 have hz64 : (PA.toList.take 64).length = 64 := by simp [r.size]
 have hB : ∀ i, i < 64 → (PA.toList.take 64).toArray[i]? = some (.int .u8 ((z i).toNat : Int)) := fun i hi => by
  rw [List.getElem?_toArray, List.getElem?_take, if_pos hi, Array.getElem?_toList]; exact r.sq i hi
 have hlay := hide (lay_no hok (by simpa using hz64) hB)
 have hg1' := hide hg1
 have h64' := hide h64
 have hi64 : Hid ((Tryz.prog.info? 22).map (·.size) = some (PA.toList.take 64).length) := hide (by rw [hz64]; exact info64)
 have hz := r.size
 clear r hg1 h64 hB hc hz64 hok
 generalize PA.toList.take 64 = L at hlay h64' hi64
 go_enter Tryz.func37, Tryz.ntmps37
 go_upto_region 2 with (first
  | (refine wpList_load_mid rfl 22 _ rfl w.heap.size 0 rfl L _ (unhide h64') Tryz.underlying22 rfl (unhide hi64) ?_)
  | (go_at_call 73; refine (unhide hlay _).mono ?_; rintro e w2 ⟨M, m, rfl, hM, hg2⟩)
  | (refine wpList_store_row rfl 151 _ _ rfl w2.heap.size M rfl rfl 151 _ (heap_alloc_new _ _) hM.info hM.1.symm hM.ones ?_))
 generalize hw3 : (w2.alloc (.cells #[.int .u64 0, .int .u64 0, .int .u64 0, .int .u64 0, .int .u64 0, .int .u64 0, .int .u64 0, .int .u64 0, .int .u64 0, .int .u64 0, .int .u64 0, .int .u64 0] 151)).setRow w2.heap.size M = w3
 have hg3 : Gr w2 w3 := by rw [← hw3]; exact ((Gr.refl w2).alloc _ _).setRow _ (Nat.le_refl _) _
 have hg13 : Gr w w3 := Gr.trans (unhide hg1') (Gr.trans hg2 hg3)
 clear hw3 hg3 hg2 hlay h64' hi64 hg1'
 go_wp2_with (fail)
 go_ret
 exact ⟨rfl, hg13⟩
theorem can_any {z : Nat → UInt8} {wh : Bool} {f : Nat → Bool} {b h g : Int} {PA : Array Value} (r : Row z wh f b h g PA) (w : World) (hT : TabIn w) (hH : Homes w) : Calls Tryz.prog 37 #[.agg PA] w fun e w' => e = .returned (.bool (canS z wh f b h g)) ∧ Gr w w' := by
 cases hok : layOk z
 ·refine (can_no r w hok).mono fun e w' k => ⟨k.1.trans ?_, k.2⟩
  rw [canS, hok]; rfl
 ·refine (can_walk r w hT hH hok).mono fun e w' k => ⟨k.1.trans ?_, k.2⟩
  rw [canS, hok]; rfl
end Go.Proofs.YtnfakamfmkhlbaaGreatDoor.C
namespace Go.Proofs.YtnfakamfmkhlbaaGreatDoor.C
open Go.RowKit
open Go.Proofs.YtnfakamfmkhlbaaGreatDoor.P
def ixc (c : UInt8) : Int := Lib.indexByte lettersL c
def kdc (c : UInt8) : Int := if 6 ≤ ixc c then ixc c - 6 else ixc c
def coc (c : UInt8) : Int := if ixc c < 0 then 0 else if ixc c < 6 then 1 else -1
def sdb (b : Bool) : Int := if b then 1 else -1
def zI (z : Nat → UInt8) (i : Nat) : Int := ((z i).toNat : Int)
def attR (z : Nat → UInt8) (y : Int) (b : Bool) : Bool := (List.range 64).any fun n => decide (coc (z n) = sdb b) && attI (zI z) (kdc (z n)).toNat (sdb b) (n : Int) y
def kingL (b : Bool) : UInt8 := if b then 75 else 107
def kingR (z : Nat → UInt8) (b : Bool) : Int := match (List.range 64).find? (fun n => z n == kingL b) with | some n => (n : Int) | none => -1
theorem ix_bd (c : UInt8) : -1 ≤ ixc c ∧ ixc c < 12 := by
 have : ∀ n : Fin 256, -1 ≤ ixc (UInt8.ofNat n.val) ∧ ixc (UInt8.ofNat n.val) < 12 := by decide +kernel
 have := this ⟨c.toNat, c.toNat_lt⟩
 simpa using this
end Go.Proofs.YtnfakamfmkhlbaaGreatDoor.C
