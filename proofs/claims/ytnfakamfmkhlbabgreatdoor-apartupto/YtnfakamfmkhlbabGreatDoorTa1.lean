import Derived.Test.YtnfakamfmkhlbabGreatDoorKb14
import Derived.WalkKit
import Derived.RangeFuncNested
import Derived.RangeFuncBound
import Derived.RangeFuncCalls
import Derived.RangeFuncLeaves
import Derived.RangeFuncIn
import Derived.OwnWalkIn
import Derived.TacticsInMore
import Derived.ChangeKeysEq
import Derived.Lib.IndexLaws
import Derived.LoopTactic
import Derived.Deep.LoopGhost
import Derived.Below
import Derived.Laws.Rows
import Derived.Deep.RegionHeld3
import Derived.Deep.QuietTactic
import Derived.BigQuiet
import Derived.Stop.RegionWithIn
import Derived.Maps.AppendAt
import Derived.RangeFuncBox
import Derived.Shelf.SlSortCmp.NoneTotal
import Derived.Shelf.Lay
import Derived.Sort.Walk0
import Derived.Shelf.RegionOpen
import Derived.LoopNIn
import Derived.LoopIn
import Derived.Test.YtnfakamfmkhlbabGreatDoorKb21
namespace Go.Proofs.YtnfakamfmkhlbabGreatDoor.C

open Go.ChangeShapes Go.WideShapes Go.ChangeAt Go.RowKit Go.Shelf

open Go.Proofs.YtnfakamfmkhlbabGreatDoor.P

attribute [local go_sem] setCell_drewN alloc_drewN Oper.semAt_some

theorem It.later {α : Type} {P : Program} {g : Nat} {lb : Array Value} {encs : α → Array Value} {T : Obj → Prop} {C : Nat → Prop} {xs : List α} {w w' : World} (h : It P g lb encs T C xs w) (f : Fr (fun k _ => C k) w w') : It P g lb encs T C xs w' :=
  fun l B J Jx W f0 hB hJ hJx hY h0 => h l B J Jx W (f.trans f0) hB hJ hJx hY h0

end Go.Proofs.YtnfakamfmkhlbabGreatDoor.C

namespace Go.Proofs.YtnfakamfmkhlbabGreatDoor.C

open Go.ChangeShapes Go.WideShapes Go.ChangeAt Go.RowKit Go.Shelf

open Go.Proofs.YtnfakamfmkhlbabGreatDoor.P

attribute [local go_sem] setCell_drewN alloc_drewN Oper.semAt_some

theorem res_first (tmps : Array Value) (w : World) (b : Nat) (x y z v : Value) (hp : tmps.getD 2 undef = .pointer (some ⟨b, 0, none⟩)) (hq : tmps.getD 3 undef = .pointer (some ⟨b + 1, 0, none⟩)) (hc : w.heap[b]? = some (.cells #[x, y, z] 87)) (hd : w.heap[b + 1]? = some (.cells #[v] 4)) : (results Tryz.f66 tmps).run Tryz.prog w = .ok (.tuple #[.agg #[x, y, z], v]) w := by
  have hp' : tmps[2]?.getD undef = .pointer (some ⟨b, 0, none⟩) := by simpa using hp
  have hq' : tmps[3]?.getD undef = .pointer (some ⟨b + 1, 0, none⟩) := by simpa using hq
  obtain ⟨c0, c1, c2⟩ := mv_cells hc
  have c3 := (cell_of_box_l hd).1
  simp [results, Tryz.results66, hp', hq', asAddr, go_sem, c0, c1, c2, c3]

theorem info3 : (Tryz.prog.info? 87).map (·.size) = some 3 := by kernel_rfl

theorem wpListIn_store_mv {F : Fence} {n : Nat} {ops : Array Oper} {rest : List Oper} {o : Oper} {a : Act} {w : World} {Q : Exit → Act → World → Prop} (hg : o.guard = none) (x y : Operand) (ho : o.op = .store 87 x y) (b : Nat) (cells : Array Value) (hx : a.eval x = .pointer (some ⟨b, 0, none⟩)) (hy : a.eval y = .agg cells) (old : Array Value) (hh : w.heap[b]? = some (.cells old 87)) (hz : old.size = 3) (hc : cells.size = 3) (h1 : cells.all (·.oneCell') = true)
    (h : wpListIn F n Tryz.prog ops Q rest (a.put o.dst undef) (w.setRow b cells)) : wpListIn F n Tryz.prog ops Q (o :: rest) a w :=
  wpListIn_plain hg fun K hK => by
    refine ⟨fun f hf => ?_, ?_⟩
    · simp [Oper.about, ho] at hf
    · rw [Oper.semAt_eq _ _ _ (by rw [ho]; intro c e; cases e)]
      have hr : (execOp a.eval o).run Tryz.prog w = .ok .skip (w.setRow b cells) := by
        have := run_storeVar_row (P := Tryz.prog) w b 87 87 old cells hh (by rw [info3, hc]) (by omega) h1
        unfold execOp
        simp only [ho, hx, hy, Instr.storeAt, Instr.sureAddr, Sem.run_bind, Sem.run_pure, Result.andThen_ok, this]
      rw [hr]
      exact hK _ _ h

set_option maxRecDepth 100000 in
set_option maxHeartbeats 2000000 in
theorem first_any {g : Nat} {lb : Array Value} {C : Nat → Prop} {xs : List Mv} {w : World} (hit : It Tryz.prog g lb encM (fun _ => False) C xs w) (heg : ∀ args w, (callFunc g args).run Tryz.prog w = .ok (.enter g args) w) (hCb : ∀ k, C k → k < w.heap.size) :
    Calls Tryz.prog 66 #[.func (.func g) #[] lb] w fun e w' => e = .returned (.tuple #[mvV (xs.headD (0, 0, 0)), .bool (!xs.isEmpty)]) ∧ Gr w w' := by
  refine (callsIn_wide (n := 9)).1 ?_
  refine callsIn_of_wp_marks Tryz.func66 rfl trivial ?_ rfl
  simp only [Tryz.ntmps66, List.size_toArray, List.length_cons, List.length_nil, Nat.reduceAdd, Nat.reduceSub, Array.replicate_succ, Array.replicate_zero, List.push_toArray, List.append_toArray, List.nil_append, List.cons_append]
  refine wpIn_wide.2 ?_
  go_wp2_with fail
  obtain ⟨h1, h2⟩ := heapTwo w (.cells #[.int .i64 0, .int .i64 0, .int .u8 0] 87) (.cells #[.bool false] 4)
  have hg2 : Gr w ((w.alloc (.cells #[.int .i64 0, .int .i64 0, .int .u8 0] 87)).alloc (.cells #[.bool false] 4)) := ((Gr.refl w).alloc _ _).alloc _ _
  have hs2 : ((w.alloc (.cells #[.int .i64 0, .int .i64 0, .int .u8 0] 87)).alloc (.cells #[.bool false] 4)).heap.size = w.heap.size + 2 := by simp
  generalize ((w.alloc (.cells #[.int .i64 0, .int .i64 0, .int .u8 0] 87)).alloc (.cells #[.bool false] 4)) = w2 at h1 h2 hg2 hs2 ⊢
  refine wpIn_wide.1 (range_out (n := 9) (gf := g) (lb := lb) rfl heg hit (fun _ h => h.elim) (fun k hk => by have := hCb k hk; omega) (Fr.of_gr hg2) (fun _ => rfl)
    (fun pre V => pre = [] ∧ V.heap[w.heap.size]? = some (.cells #[.int .i64 0, .int .i64 0, .int .u8 0] 87) ∧ V.heap[w.heap.size + 1]? = some (.cells #[.bool false] 4) ∧ Gr w V ∧ w2.heap.size ≤ V.heap.size)
    (fun c pre V => c = .ret ∧ ∃ x, pre = [x] ∧ V.heap[w.heap.size]? = some (.cells (mvC x) 87) ∧ V.heap[w.heap.size + 1]? = some (.cells #[.bool true] 4) ∧ Gr w V ∧ w2.heap.size ≤ V.heap.size)
    ?sI ?sX ⟨rfl, h1, h2, hg2, Nat.le_refl _⟩ ?rnd ?done ?stop)
  case sI => exact fun s A A' h f => ⟨h.1, f.same _ _ h.2.1 (.inl (by omega)), f.same _ _ h.2.2.1 (.inl (by omega)), Below.trans h.2.2.2.1 (f.below (n := w.heap.size) (Below.size h.2.2.2.1) (fun k o hk => .inl (by omega))), Nat.le_trans h.2.2.2.2 f.size⟩
  case sX => exact fun c s A A' h f => ⟨h.1, h.2.elim fun x hx => ⟨x, hx.1, f.same _ _ hx.2.1 (.inl (by omega)), f.same _ _ hx.2.2.1 (.inl (by omega)), Below.trans hx.2.2.2.1 (f.below (n := w.heap.size) (Below.size hx.2.2.2.1) (fun k o hk => .inl (by omega))), Nat.le_trans hx.2.2.2.2 f.size⟩⟩
  case done =>
    rintro D V hD ⟨hnil, k1, k2, hg, hsz⟩ hK
    subst hnil
    have ha : ∀ j o, V.heap[j]? = some o → (V.alloc (.cells #[.int .i64 0, .int .i64 0, .int .u8 0] 87)).heap[j]? = some o := fun j o h => (Below.heap_alloc V _ _ (Array.getElem?_eq_some_iff.1 h).1).trans h
    have k1' := ha _ _ k1
    have k2' := ha _ _ k2
    have hK' := ha _ _ hK
    have hgV : Gr w (V.alloc (.cells #[.int .i64 0, .int .i64 0, .int .u8 0] 87)) := hg.alloc _ _
    have k1r : ((V.alloc (.cells #[.int .i64 0, .int .i64 0, .int .u8 0] 87)).setRow w.heap.size #[.int .i64 0, .int .i64 0, .int .u8 0]).heap[w.heap.size]? = some (.cells #[.int .i64 0, .int .i64 0, .int .u8 0] 87) := setRow_heap _ _ _ _ _ _ k1'
    have k2r : ((V.alloc (.cells #[.int .i64 0, .int .i64 0, .int .u8 0] 87)).setRow w.heap.size #[.int .i64 0, .int .i64 0, .int .u8 0]).heap[w.heap.size + 1]? = some (.cells #[.bool false] 4) := by rw [setRow_other _ _ _ _ (by omega)]; exact k2'
    have kDr : ((V.alloc (.cells #[.int .i64 0, .int .i64 0, .int .u8 0] 87)).setRow w.heap.size #[.int .i64 0, .int .i64 0, .int .u8 0]).heap[D]? = some (.deferred (some [])) := by rw [setRow_other _ _ _ _ (by omega)]; exact hK'
    have hgr : Gr w ((V.alloc (.cells #[.int .i64 0, .int .i64 0, .int .u8 0] 87)).setRow w.heap.size #[.int .i64 0, .int .i64 0, .int .u8 0]) := hgV.setRow _ (Nat.le_refl _) _
    obtain ⟨c3, c4⟩ := cell_of_box_l k2r
    go_wp2_with (refine wpList_store_row rfl 87 _ _ rfl w.heap.size #[.int .i64 0, .int .i64 0, .int .u8 0] rfl rfl 87 _ k1' info3 rfl (by simp [Value.oneCell']) ?_)
    generalize ((V.alloc (.cells #[.int .i64 0, .int .i64 0, .int .u8 0] 87)).setRow w.heap.size #[.int .i64 0, .int .i64 0, .int .u8 0]) = X at k1r k2r kDr hgr ⊢
    have kD2 : (X.setCell ⟨w.heap.size + 1, 0, none⟩ (.bool false)).heap[D]? = some (.deferred (some [])) := (KeepsOthers.setCell X ⟨w.heap.size + 1, 0, none⟩ (.bool false)).same D _ kDr rfl
    refine ⟨by simp, .inl ⟨_, _, rfl, run_takeDeferred kD2, ?_⟩⟩
    exact ⟨_, res_first _ _ w.heap.size _ _ _ _ rfl rfl (put_far (by rw [Below.heap_setCell _ _ _ _ (by simp)]; exact k1r) (by omega)) (put_far (set_box k2r) (by omega)), rfl, Below.trans (Below.setCell hgr (show w.heap.size ≤ w.heap.size + 1 by omega) _) (belowK_b (w := w2) (n₀ := w.heap.size) (by omega) _ D _ _ hD kD2 rfl rfl)⟩
  case stop =>
    rintro D c pre V hD hpre ⟨rfl, x, rfl, k1, k2, hg, hsz⟩ hK
    refine wpIn_wide.2 ?_
    go_wp2_with fail
    have e1 : xs.headD (0, 0, 0) = x ∧ xs.isEmpty = false := by
      obtain ⟨r, rfl⟩ := hpre
      exact ⟨rfl, rfl⟩
    refine ⟨by simp, .inl ⟨_, _, rfl, run_takeDeferred hK, ?_⟩⟩
    exact ⟨_, res_first _ _ w.heap.size _ _ _ _ rfl rfl (put_far k1 (by omega)) (put_far k2 (by omega)), by rw [e1.1, e1.2]; rfl, Below.trans hg (belowK_b (w := w2) (n₀ := w.heap.size) (by omega) _ D _ _ hD hK rfl rfl)⟩
  case rnd =>
    rintro l1 pre ⟨fr, tt, u⟩ V hbl hx ⟨hnil, k1, k2, hg, hsz⟩ hl
    subst hnil
    have hl' : l1 < V.heap.size := hl.elim fun r hr => (Array.getElem?_eq_some_iff.1 hr).1
    simp only [encM, mvV]
    gi_wp2
    refine ⟨(Fr.refl _ _).alloc _, ?_⟩
    intro V2 f2 hI2 hl2
    obtain ⟨_, k1, k2, hg, hsz⟩ := hI2
    have kx : V2.heap[V.heap.size]? = some (.cells #[.int .i64 (fr : Int), .int .i64 (tt : Int), .int .u8 (u.toNat : Int)] 87) := f2.same _ _ (World.alloc_heap_new V _) (by omega)
    have hVs : w2.heap.size ≤ V.heap.size := by omega
    generalize V.heap.size = Bx at kx hVs ⊢
    obtain ⟨x0, x1, x2⟩ := mv_cells kx
    have k2r : (V2.setRow w.heap.size #[.int .i64 (fr : Int), .int .i64 (tt : Int), .int .u8 (u.toNat : Int)]).heap[w.heap.size + 1]? = some (.cells #[.bool false] 4) := by rw [setRow_other _ _ _ _ (by omega)]; exact k2
    have k1r : (V2.setRow w.heap.size #[.int .i64 (fr : Int), .int .i64 (tt : Int), .int .u8 (u.toNat : Int)]).heap[w.heap.size]? = some (.cells #[.int .i64 (fr : Int), .int .i64 (tt : Int), .int .u8 (u.toNat : Int)] 87) := setRow_heap _ _ _ _ _ _ k1
    obtain ⟨c3, c4⟩ := cell_of_box_l k2r
    have hgr : Gr w (V2.setRow w.heap.size #[.int .i64 (fr : Int), .int .i64 (tt : Int), .int .u8 (u.toNat : Int)]) := hg.setRow _ (Nat.le_refl _) _
    have frr : Fr (Rnd1 w2.heap.size (fun _ => False) C) V2 (V2.setRow w.heap.size #[.int .i64 (fr : Int), .int .i64 (tt : Int), .int .u8 (u.toNat : Int)]) := ⟨rfl, rfl, rfl, by rw [size_setRow]; exact Nat.le_refl _, fun k o e q => by
      rw [setRow_other _ _ _ _ (by
        rintro rfl
        rcases q with q | q
        · have := hCb _ q; omega
        · omega)]; exact e⟩
    gi_wp2_with (refine wpListIn_store_mv rfl _ _ rfl w.heap.size #[.int .i64 (fr : Int), .int .i64 (tt : Int), .int .u8 (u.toNat : Int)] rfl rfl _ k1 rfl rfl (by simp [Value.oneCell']) ?_)
    generalize (V2.setRow w.heap.size #[.int .i64 (fr : Int), .int .i64 (tt : Int), .int .u8 (u.toNat : Int)]) = X at k1r k2r hgr frr ⊢
    refine ⟨frr.setCell _ ?_, rfl, (fr, tt, u), rfl, ?_, set_box k2r, Below.setCell hgr (show w.heap.size ≤ w.heap.size + 1 by omega) _, ?_⟩
    · rintro o - (q | q)
      · have := hCb _ q; simp at this; omega
      · have := q.1; simp at this; omega
    · rw [Below.heap_setCell _ _ _ _ (by simp)]; exact k1r
    · have := frr.size; simp [World.setCell]; omega

end Go.Proofs.YtnfakamfmkhlbabGreatDoor.C

namespace Go.Proofs.YtnfakamfmkhlbabGreatDoor.C

open Go.ChangeShapes Go.WideShapes Go.ChangeAt Go.RowKit Go.Shelf

open Go.Proofs.YtnfakamfmkhlbabGreatDoor.P

attribute [local go_sem] setCell_drewN alloc_drewN

set_option maxRecDepth 100000 in
theorem hasF_any (x y : Mv) (Bw : Nat) (w : World) (h : w.heap[Bw]? = some (.cells (mvC y) 87)) : Calls Tryz.prog 201 #[mvV x, .pointer (some ⟨Bw, 0, none⟩)] w fun e w' => e = .returned (.bool (x == y)) ∧ Gr w w' := by
  obtain ⟨f, t, u⟩ := x
  obtain ⟨f', t', u'⟩ := y
  have h' : (w.alloc (.cells #[.int .i64 (f : Int), .int .i64 (t : Int), .int .u8 (u.toNat : Int)] 87)).heap[Bw]? = some (.cells #[.int .i64 (f' : Int), .int .i64 (t' : Int), .int .u8 (u'.toNat : Int)] 87) := (Below.heap_alloc w _ _ (Array.getElem?_eq_some_iff.1 h).1).trans h
  obtain ⟨c0, c1, c2⟩ := mv_cells h'
  simp only [mvV]
  by_cases hf : f = f'
  · subst hf
    by_cases ht : t = t'
    · subst ht
      by_cases hu : u = u'
      · subst hu
        have hb : (((f, t, u) : Mv) == (f, t, u)) = true := by simp
        rw [hb]
        go_enter Tryz.func201, Tryz.ntmps201
        go_wp2_with fail
        go_ret
        exact ⟨rfl, (Gr.refl w).alloc _ _⟩
      · have hb : (((f, t, u) : Mv) == (f, t, u')) = false := by simp [hu]
        have hne : (u.toNat : Int) ≠ (u'.toNat : Int) := fun e => hu (UInt8.toNat_inj.1 (by omega))
        rw [hb]
        clear hb hu
        go_enter Tryz.func201, Tryz.ntmps201
        go_wp2_with fail
        go_ret
        exact ⟨rfl, (Gr.refl w).alloc _ _⟩
    · have hb : (((f, t, u) : Mv) == (f, t', u')) = false := by simp [ht]
      have hne : (t : Int) ≠ (t' : Int) := by omega
      rw [hb]
      clear hb ht
      go_enter Tryz.func201, Tryz.ntmps201
      go_wp2_with fail
      go_ret
      exact ⟨rfl, (Gr.refl w).alloc _ _⟩
  · have hb : (((f, t, u) : Mv) == (f', t', u')) = false := by simp [hf]
    have hne : (f : Int) ≠ (f' : Int) := by omega
    rw [hb]
    clear hb hf
    go_enter Tryz.func201, Tryz.ntmps201
    go_wp2_with fail
    go_ret
    exact ⟨rfl, (Gr.refl w).alloc _ _⟩

structure OnlyAt (g : Nat) (lb : Array Value) (Bw Bt : Nat) (W : World) : Prop where
  th : W.heap[Bt]? = some (.cells #[.func (.func g) #[] lb] 141)
  fi : W.heap[Bt + 1]? = some (.cells #[.func (.func 201) #[] #[.pointer (some ⟨Bw, 0, none⟩)]] 143)
  le : Bw < W.heap.size

theorem OnlyAt.gr {g : Nat} {lb : Array Value} {Bw Bt : Nat} {W W' : World} (h : OnlyAt g lb Bw Bt W) (hg : Gr W W') : OnlyAt g lb Bw Bt W' :=
  ⟨(Below.block hg _ (Array.getElem?_eq_some_iff.1 h.th).1).trans h.th, (Below.block hg _ (Array.getElem?_eq_some_iff.1 h.fi).1).trans h.fi, Nat.lt_of_lt_of_le h.le (Below.size hg)⟩

set_option linter.unusedSimpArgs false in
set_option maxRecDepth 100000 in
set_option maxHeartbeats 2000000 in
/-- whether a move is among those that an iterator yields. -/
theorem has_any {g : Nat} {lb : Array Value} {C : Nat → Prop} {xs : List Mv} {w : World} (hit : It Tryz.prog g lb encM (fun _ => False) C xs w) (heg : ∀ args w, (callFunc g args).run Tryz.prog w = .ok (.enter g args) w) (hCb : ∀ k, C k → k < w.heap.size) (y : Mv) :
    Calls Tryz.prog 119 #[.func (.func g) #[] lb, mvV y] w fun e w' => e = .returned (.bool (xs.any fun x => x == y)) ∧ Gr w w' := by
  have hmf : ∀ (fn : Fn) (first cap : Array Value) (w : World), (Instr.makeFunc fn first cap).run Tryz.prog w = .ok (.func fn first cap) w := fun _ _ _ _ => rfl
  obtain ⟨f, t, u⟩ := y
  generalize hy : ((f, t, u) : Mv) = y
  have hv : mvV y = .agg #[.int .i64 (f : Int), .int .i64 (t : Int), .int .u8 (u.toNat : Int)] := by rw [← hy]; rfl
  rw [hv]
  go_enter Tryz.func119, Tryz.ntmps119
  go_upto_region 1 with fail
  obtain ⟨w1, hw1⟩ : ∃ w1, w1 = w.alloc (.cells #[.int .i64 (f : Int), .int .i64 (t : Int), .int .u8 (u.toNat : Int)] 87) := ⟨_, rfl⟩
  rw [← hw1]
  have hg1 : Hid (Gr w w1) := hide (by rw [hw1]; exact (Gr.refl w).alloc _ _)
  have hbw : w1.heap[w.heap.size]? = some (.cells (mvC y) 87) := by rw [hw1, ← hy]; exact World.alloc_heap_new _ _
  clear hw1 hv hy
  have hfirst : Hid (∀ Bt W, Gr w1 W → OnlyAt g lb w.heap.size Bt W → Calls Tryz.prog 66 #[.func (.func 155) #[] #[.pointer (some ⟨Bt, 0, none⟩), .pointer (some ⟨Bt + 1, 0, none⟩)]] W fun e w' => e = .returned (.tuple #[mvV ((xs.filter (· == y)).headD (0, 0, 0)), .bool (!(xs.filter (· == y)).isEmpty)]) ∧ Gr W w') := hide (fun Bt W hg ho => by
    have hbW := (Below.block hg _ (Array.getElem?_eq_some_iff.1 hbw).1).trans hbw
    have hgw : Gr w W := Gr.trans (unhide hg1) hg
    have hC' : ∀ k, (C k ∨ k = w.heap.size) → k < W.heap.size := fun k hk => hk.elim (fun h => Nat.lt_of_lt_of_le (hCb k h) (Below.size hgw)) (fun h => h ▸ (Array.getElem?_eq_some_iff.1 hbW).1)
    refine first_any (C := fun k => (C k ∨ k = w.heap.size) ∨ k = Bt ∨ k = Bt + 1) (onlyM_it (C := fun k => C k ∨ k = w.heap.size) ((hit.later (Fr.of_gr hgw)).mono fun k h => .inl h) heg (enters_of Tryz.func201 (by kernel_rfl) rfl) (fun _ h => h.elim) (fun _ _ h => h) hC' Bt (Bt + 1) (· == y) ho.th ho.fi (fun x _ V fV => hasF_any x y w.heap.size V (fV.same _ _ hbW (.inr rfl)))) (enters_of Tryz.func155 (by kernel_rfl) rfl) ?_
    rintro k (hk | rfl | rfl)
    · exact hC' k hk
    · exact (Array.getElem?_eq_some_iff.1 ho.th).1
    · exact (Array.getElem?_eq_some_iff.1 ho.fi).1)
  have hEB : Hid ((xs.any fun x => x == y) = !(xs.filter (· == y)).isEmpty) := hide (by
    cases he : (xs.filter (· == y)).isEmpty
    · rw [List.isEmpty_eq_false_iff_exists_mem] at he
      obtain ⟨x, hx⟩ := he
      rw [List.mem_filter] at hx
      exact List.any_eq_true.2 ⟨x, hx.1, hx.2⟩
    · rw [List.isEmpty_iff, List.filter_eq_nil_iff] at he
      exact List.any_eq_false.2 he)
  generalize (!(xs.filter (· == y)).isEmpty) = EB at hfirst hEB
  generalize (xs.filter (· == y)).headD (0, 0, 0) = HD at hfirst
  have hlt : w.heap.size < w1.heap.size := (Array.getElem?_eq_some_iff.1 hbw).1
  go_wp2_with (first
    | (go_at_call 67; refine (only_mk _ _ _ _ _).mono ?_; rintro e wa ⟨rfl, ht2, hf2, hga⟩)
    | (go_at_call 66; refine (unhide hfirst _ _ hga ⟨ht2, hf2, Nat.lt_of_lt_of_le hlt (Below.size hga)⟩).mono ?_; rintro e wb ⟨rfl, hgb⟩)
    | (refine wpList_store_row rfl 87 _ _ rfl _ (mvC HD) rfl rfl 87 #[.int .i64 0, .int .i64 0, .int .u8 0] (World.alloc_heap_new _ _) info3 rfl (by simp [mvC, Value.oneCell']) ?_))
  go_ret
  exact ⟨by rw [unhide hEB]; rfl, Gr.trans (unhide hg1) (Gr.trans hga (Gr.trans hgb (((Gr.refl wb).alloc _ _).setRow _ (Nat.le_refl _) _)))⟩

end Go.Proofs.YtnfakamfmkhlbabGreatDoor.C

namespace Go.Proofs.YtnfakamfmkhlbabGreatDoor.C

open Go.ChangeShapes Go.WideShapes Go.ChangeAt Go.RowKit Go.Shelf

open Go.Proofs.YtnfakamfmkhlbabGreatDoor.P

attribute [local go_sem] setCell_drewN alloc_drewN

def quickA : Array Value := #[.func (.func 60) #[] #[], .func (.func 61) #[] #[]]

structure Il (w : World) (PA : Array Value) (y : Mv) (W : World) : Prop where
  q : W.cell? ⟨w.heap.size, 1, none⟩ = some (.func (.func 61) #[] #[])
  pa : W.heap[w.heap.size + 1]? = some (.cells PA 70)
  mv : W.heap[w.heap.size + 2]? = some (.cells (mvC y) 87)
  gr : Gr w W

theorem Il.next {w W W' : World} {PA : Array Value} {y : Mv} (h : Il w PA y W) (g : Gr W W') : Il w PA y W' :=
  ⟨(Below.cell g (World.block_lt_of_cell? W _ h.q)).trans h.q, (Below.block g _ (Array.getElem?_eq_some_iff.1 h.pa).1).trans h.pa, (Below.block g _ (Array.getElem?_eq_some_iff.1 h.mv).1).trans h.mv, Gr.trans h.gr g⟩

theorem y_pos3 {ops : Array Oper} {op : Oper} {a : Act} {PA : Array Value} {S : World → Prop} (hi : (Tryz.prog.info? 70).map (·.size) = some PA.toList.length) (hw : Region.wanted op (yielded ops a.tmps) = true) (x : Operand) (ho : op.op = .load 70 x) (b : Nat) (hx : a.eval x = .pointer (some ⟨b, 0, none⟩)) (hS : ∀ w, S w → w.heap[b]? = some (.cells PA 70)) : YieldsIf Tryz.prog ops S op (.agg PA) a := by
  have := yieldsIf_load_mid (P := Tryz.prog) hw 70 x ho b 0 hx PA.toList _ (fun w h j v hv => by rw [cell_of_row _ _ _ _ _ _ (hS w h), Nat.zero_add, ← Array.getElem?_toList]; exact hv) Tryz.underlying70 rfl hi
  rwa [Array.toArray_toList] at this

set_option linter.unusedSimpArgs false in
set_option maxRecDepth 100000 in
set_option maxHeartbeats 2000000 in
theorem isLegalQ_any {z : Nat → UInt8} {wh : Bool} {fc : Nat → Bool} {b h g : Int} {PA : Array Value} (r : Row z wh fc b h g PA) (hok : layOk z = true) (hb0 : -1 ≤ b) (hb1 : b ≤ 63) (y : Mv) (w : World) (hT : TabIn w) (hC : CasTab w) :
    Calls Tryz.prog 57 #[.agg quickA, .agg PA, mvV y] w fun e w' => e = .returned (.bool ((movS z wh fc b).any fun x => x == y)) ∧ Gr w w' := by
  have hr := hide r
  clear r
  obtain ⟨f, t, u⟩ := y
  have hhas : Hid (∀ Bp W, Gr w W → W.heap[Bp]? = some (.cells PA 70) → Calls Tryz.prog 119 #[.func (.func 128) #[] #[.pointer (some ⟨Bp, 0, none⟩)], mvV (f, t, u)] W fun e w' => e = .returned (.bool ((movS z wh fc b).any fun x => x == (f, t, u))) ∧ Gr W w') := hide (fun Bp W hg hp =>
    has_any (movesS_it (unhide hr) hok hb0 hb1 Bp (fun _ => False) (fun _ h => h.elim) W hp (hT.gr hg) (hC.gr hg)) (enters_of Tryz.func128 (by kernel_rfl) rfl) (by
      rintro k (rfl | rfl | rfl)
      · exact (Array.getElem?_eq_some_iff.1 hp).1
      · exact (hT.gr hg).2
      · exact (hC.gr hg).2) (f, t, u))
  generalize hR : (movS z wh fc b).any (fun x => x == (f, t, u)) = R at hhas ⊢
  clear hR
  have hi72 : (Tryz.prog.info? 70).map (·.size) = some PA.toList.length := by rw [Array.length_toList, (unhide hr).size]; exact infoP72
  simp only [mvV, quickA] at hhas ⊢
  have hA0 : Il w PA (f, t, u) (((w.alloc (.cells quickA 74)).alloc (.cells PA 70)).alloc (.cells (mvC (f, t, u)) 87)) := by
    have g1 : Gr (w.alloc (.cells quickA 74)) (((w.alloc (.cells quickA 74)).alloc (.cells PA 70)).alloc (.cells (mvC (f, t, u)) 87)) := ((Gr.refl _).alloc _ _).alloc _ _
    have e1 := (Below.block g1 w.heap.size (by rw [World.size_alloc]; omega)).trans (World.alloc_heap_new w _)
    obtain ⟨e2, e3⟩ := heapTwo (w.alloc (.cells quickA 74)) (.cells PA 70) (.cells (mvC (f, t, u)) 87)
    rw [World.size_alloc] at e2 e3
    exact ⟨by rw [cell_of_row _ _ _ _ _ _ e1]; rfl, e2, e3, Gr.trans ((Gr.refl w).alloc _ _) g1⟩
  go_enter Tryz.func57, Tryz.ntmps57
  go_upto_region 1 with fail
  show Code.wp _ _ _ _ (((w.alloc (.cells quickA 74)).alloc (.cells PA 70)).alloc (.cells (mvC (f, t, u)) 87))
  generalize (((w.alloc (.cells quickA 74)).alloc (.cells PA 70)).alloc (.cells (mvC (f, t, u)) 87)) = wA at hA0 ⊢
  refine wp_region_held_drew (S := Il w PA (f, t, u)) (by kernel_rfl) (hA0.next (Gr.refl _).drew) (fun hHeld => ?_)
  refine wpAnyH_take (i := 0) (v := .pointer (some ⟨w.heap.size, 1, none⟩)) rfl (by kernel_rfl) (by kernel_rfl) (by kernel_rfl) (fun _ _ _ h => h) (Or.inl ⟨by rfl, fun w hw => (by have c1 := hw.q; obtain ⟨x0, x1, x2⟩ := mv_cells hw.mv; go_simp)⟩) hHeld ?_
  simp only [Act.put, List.setIfInBounds_toArray, List.set_cons_zero, List.set_cons_succ]
  refine wpAnyH_take (i := 1) (v := .func (.func 61) #[] #[]) rfl (by kernel_rfl) (by kernel_rfl) (by kernel_rfl) (fun _ _ _ h => h) (Or.inl ⟨by rfl, fun w hw => (by have c1 := hw.q; obtain ⟨x0, x1, x2⟩ := mv_cells hw.mv; go_simp)⟩) hHeld ?_
  simp only [Act.put, List.setIfInBounds_toArray, List.set_cons_zero, List.set_cons_succ]
  refine wpAnyH_take (i := 2) (v := .agg PA) rfl (by kernel_rfl) (by kernel_rfl) (by kernel_rfl) (fun _ _ _ h => h) (y_pos3 hi72 (by rfl) _ rfl (w.heap.size + 1) rfl (fun _ h => h.pa)) hHeld ?_
  simp only [Act.put, List.setIfInBounds_toArray, List.set_cons_zero, List.set_cons_succ]
  refine wpAnyH_take (i := 4) (v := .agg #[.int .i64 (f : Int), .int .i64 (t : Int), .int .u8 (u.toNat : Int)]) rfl (by kernel_rfl) (by kernel_rfl) (by kernel_rfl) (fun _ _ _ h => h) (Or.inl ⟨by rfl, fun w hw => (by have c1 := hw.q; obtain ⟨x0, x1, x2⟩ := mv_cells hw.mv; go_simp)⟩) hHeld ?_
  simp only [Act.put, List.setIfInBounds_toArray, List.set_cons_zero, List.set_cons_succ]
  refine wpAnyH_ready (rs := [3]) (by kernel_rfl) (by simp) ?_
  refine AllReadyH.cons rfl (fun K hK => ?_) AllReadyH.nil
  go_simp
  refine (setsMoves_mk PA _).mono ?_
  rintro e wa ⟨rfl, hpa, hga⟩
  refine hK.out _ _ (hHeld.next hga) (fun hHeld => ?_)
  clear hK K hga
  refine wpAnyH_ready (rs := [5]) (by kernel_rfl) (by simp) ?_
  refine AllReadyH.cons rfl (fun K hK => ?_) AllReadyH.nil
  go_simp
  refine (unhide hhas _ _ hHeld.gr hpa).mono ?_
  rintro e wb ⟨rfl, hgb⟩
  refine hK.out _ _ (hHeld.next hgb) (fun hHeld => ?_)
  clear hK K hgb
  refine wpAnyH_ready (rs := [6]) (by kernel_rfl) (by simp) ?_
  refine AllReadyH.cons rfl (fun K hK => ?_) AllReadyH.nil
  go_simp
  refine hK.out _ _ hHeld (fun hHeld => ?_)
  clear hK K
  refine wpAnyH_done (by kernel_rfl) ?_ _
  go_wp2_with fail
  go_ret
  exact ⟨rfl, hHeld.gr⟩

end Go.Proofs.YtnfakamfmkhlbabGreatDoor.C

namespace Go.Proofs.YtnfakamfmkhlbabGreatDoor.C

open Go.ChangeShapes Go.WideShapes Go.ChangeAt Go.RowKit

open Go.Proofs.YtnfakamfmkhlbabGreatDoor.P

attribute [local go_sem] setCell_drewN alloc_drewN

attribute [local go_sem] manI_t5 manI_t3 manI_f5 manI_f3

theorem board_of {z : Nat → UInt8} {wh : Bool} {f : Nat → Bool} {b h g : Int} {PA : Array Value} (r : Row z wh f b h g PA) : (PA.toList.take 64).toArray.size = 64 ∧ ∀ i, i < 64 → (PA.toList.take 64).toArray[i]? = some (.int .u8 ((z i).toNat : Int)) := by
  refine ⟨by simp [r.size], fun i hi => ?_⟩
  rw [List.getElem?_toArray, List.getElem?_take, if_pos hi, Array.getElem?_toList]; exact r.sq i hi

theorem y_board {ops : Array Oper} {op : Oper} {a : Act} {PA : Array Value} (hz : PA.size = 72) {S : World → Prop} (hw : Region.wanted op (yielded ops a.tmps) = true) (x : Operand) (ho : op.op = .load 67 x) (b : Nat) (hx : a.eval x = .pointer (some ⟨b, 0, none⟩)) (hS : ∀ w, S w → RowAt b PA w) : YieldsIf Tryz.prog ops S op (.agg (PA.toList.take 64).toArray) a :=
  yieldsIf_load_mid (P := Tryz.prog) hw 67 x ho b 0 hx (PA.toList.take 64) _ (fun w h => fun j v hv => (hS w h).2 j v (by
    rw [List.getElem?_take] at hv
    split at hv
    · exact hv
    · cases hv)) Tryz.underlying67 rfl (by rw [info64]; simp [hz])

end Go.Proofs.YtnfakamfmkhlbabGreatDoor.C

namespace Go.Proofs.YtnfakamfmkhlbabGreatDoor.C

open Go.ChangeShapes Go.WideShapes Go.ChangeAt Go.RowKit

attribute [local go_sem] setCell_drewN alloc_drewN

end Go.Proofs.YtnfakamfmkhlbabGreatDoor.C

namespace Go.Proofs.YtnfakamfmkhlbabGreatDoor.C

open Go.ChangeShapes Go.WideShapes Go.ChangeAt Go.RowKit

attribute [local go_sem] setCell_drewN alloc_drewN

theorem infoS : (Tryz.prog.info? 9).map (fun i => (i.zero, i.size, i.bytes)) = some (some (.string ⟨#[]⟩), 1, 16) := by kernel_rfl

/-- a slice of texts of one's own. -/
def Strs (base : Nat) (v : Value) (xs : List ByteArray) (w : World) : Prop := w.ownsRow base 9 1 v xs.length (xs.map Value.string)

theorem strs_block {base : Nat} {v : Value} {l : List ByteArray} {w : World} (h : Strs base v l w) : ∀ k, v.ownBlock = some k → base ≤ k := by
  intro k hk
  rcases h.2 with ⟨rfl, _⟩ | ⟨g, cap, cur, rfl, hg, _⟩
  · simp [Value.ownBlock] at hk
  · simp [Value.ownBlock] at hk; omega

end Go.Proofs.YtnfakamfmkhlbabGreatDoor.C

namespace Go.Proofs.YtnfakamfmkhlbabGreatDoor.C

end Go.Proofs.YtnfakamfmkhlbabGreatDoor.C

namespace Go.Proofs.YtnfakamfmkhlbabGreatDoor.C

end Go.Proofs.YtnfakamfmkhlbabGreatDoor.C

namespace Go.Proofs.YtnfakamfmkhlbabGreatDoor.C

open Go.ChangeShapes Go.WideShapes Go.ChangeAt Go.RowKit

open Go.Proofs.YtnfakamfmkhlbabGreatDoor.P

section

variable {z : Nat → UInt8} {wh : Bool} {f : Nat → Bool} {b h g : Int} {PA : Array Value}

end

end Go.Proofs.YtnfakamfmkhlbabGreatDoor.C

namespace Go.Proofs.YtnfakamfmkhlbabGreatDoor.C

open Go.ChangeShapes Go.WideShapes Go.ChangeAt Go.RowKit

open Go.Proofs.YtnfakamfmkhlbabGreatDoor.P

attribute [local go_sem] setCell_drewN alloc_drewN

end Go.Proofs.YtnfakamfmkhlbabGreatDoor.C

namespace Go.Proofs.YtnfakamfmkhlbabGreatDoor.C

open Go.ChangeShapes Go.WideShapes Go.ChangeAt Go.RowKit

open Go.Proofs.YtnfakamfmkhlbabGreatDoor.P

attribute [local go_sem] setCell_drewN alloc_drewN

end Go.Proofs.YtnfakamfmkhlbabGreatDoor.C

namespace Go.Proofs.YtnfakamfmkhlbabGreatDoor.C

open Go.ChangeShapes Go.WideShapes Go.ChangeAt Go.RowKit

open Go.Proofs.YtnfakamfmkhlbabGreatDoor.P

/-! what is left of Form behind the ranks: the castlings, the clocks, the square behind -/

end Go.Proofs.YtnfakamfmkhlbabGreatDoor.C

namespace Go.Proofs.YtnfakamfmkhlbabGreatDoor.C

open Go.ChangeShapes Go.WideShapes Go.ChangeAt Go.RowKit Go.Shelf

open Go.Proofs.YtnfakamfmkhlbabGreatDoor.P

attribute [local go_sem] setCell_drewN alloc_drewN Oper.semAt_some

theorem owns_gr {w w' : World} {base n s : Nat} {e : TypeId} {v : Value} {xs : List Value} (h : w.ownsRow base e s v n xs) (g : Gr w w') : w'.ownsRow base e s v n xs := by
  refine ⟨h.1, ?_⟩
  rcases h.2 with h2 | ⟨k, cap, cur, hv, h3, hk, rest⟩
  · exact .inl h2
  · exact .inr ⟨k, cap, cur, hv, h3, (Below.block g _ (Array.getElem?_eq_some_iff.1 hk).1).trans hk, rest⟩

end Go.Proofs.YtnfakamfmkhlbabGreatDoor.C

namespace Go.Proofs.YtnfakamfmkhlbabGreatDoor.C

open Go.ChangeShapes Go.WideShapes Go.ChangeAt Go.RowKit Go.Shelf

open Go.Proofs.YtnfakamfmkhlbabGreatDoor.P

attribute [local go_sem] setCell_drewN alloc_drewN Oper.semAt_some

def txts (xs : List Mv) : List ByteArray := xs.map fun x => str (txt x)

set_option linter.unusedSimpArgs false in
set_option maxRecDepth 100000 in
set_option maxHeartbeats 2000000 in
theorem gameTexts_any {ga gm gi : Nat} {PA : Array Value} {xs : List Mv} {w : World} (hsz : PA.size = 72) (m : MkIt gm gi PA xs w) :
    Calls Tryz.prog 36 #[.agg (wayA ga gm), .agg PA] w fun e w' => ∃ v, e = .returned v ∧ Strs w.heap.size v (txts (sortM xs)) w' ∧ Gr w w' := by
  obtain ⟨i0, hi, hz0, hz1, hz2⟩ := info_parts infoS
  have hi' := hide hi
  clear hi
  have hm := hide m
  clear m
  have hA0 : Ig w gm PA ((w.alloc (.cells (wayA ga gm) 74)).alloc (.cells PA 70)) := by
    obtain ⟨e1, e2⟩ := heapTwo w (.cells (wayA ga gm) 74) (.cells PA 70)
    exact ⟨by rw [cell_of_row _ _ _ _ _ _ e1]; rfl, e2, ((Gr.refl w).alloc _ _).alloc _ _⟩
  have hc0 : ((w.alloc (.cells (wayA ga gm) 74)).alloc (.cells PA 70)).cell? ⟨w.heap.size, 0, none⟩ = some (.func (.func ga) #[] #[]) := by
    obtain ⟨e1, e2⟩ := heapTwo w (.cells (wayA ga gm) 74) (.cells PA 70)
    rw [cell_of_row _ _ _ _ _ _ e1]; rfl
  simp only [wayA] at ⊢
  go_enter Tryz.func36, Tryz.ntmps36
  go_upto_region 1 with fail
  show Code.wp _ _ _ _ ((w.alloc (.cells (wayA ga gm) 74)).alloc (.cells PA 70))
  generalize ((w.alloc (.cells (wayA ga gm) 74)).alloc (.cells PA 70)) = wA at hA0 hc0 ⊢
  have c1 := hA0.q
  have kpa := hA0.pa
  have hgA := hide hA0.gr
  have hgm : Hid (Calls Tryz.prog 49 #[.agg #[.func (.func ga) #[] #[], .func (.func gm) #[] #[]], .agg PA] wA fun e w' => ∃ v, e = .returned v ∧ w'.ownsRow wA.heap.size 87 3 v xs.length (rowM (sortM xs)) ∧ Gr wA w') := hide (gameMoves_any hsz ((unhide hm).gr hA0.gr))
  have hok : ∀ x ∈ sortM xs, okM x := fun x hx => (unhide hm).ok x ((sortM_perm xs).mem_iff.1 hx)
  have hys : (sortM xs).length = xs.length := sortM_len xs
  have hlen := (unhide hm).len
  obtain ⟨ys, hYS⟩ : ∃ ys, Hid (ys = sortM xs) := ⟨_, hide rfl⟩
  rw [← unhide hYS] at hgm hok hys
  clear hA0 hm
  go_wp2_with (first
    | (refine wpList_load_row rfl 70 _ rfl (w.heap.size + 1) rfl 70 PA (0, 0) _ kpa Tryz.underlying70 rfl (by rw [hsz]; exact infoP) ?_)
    | (go_at_call 49; refine (unhide hgm).mono ?_; rintro e w1 ⟨v, rfl, hv, hg1⟩; obtain ⟨p, cap, rfl, hcap, hel⟩ := row_form hv))
  have hgw := hide (Gr.trans (unhide hgA) hg1)
  have hel' := hide hel
  clear hgm hv hg1 hgA kpa c1 hc0 hel
  go_loopg [5, 7, 12] xs.length (fun g v _ i wr => ∃ k : Nat, k + g = xs.length ∧ i = .int .i64 (k : Int) ∧ Strs w1.heap.size v (txts (ys.take k)) wr ∧ Gr w1 wr)
  case atStart => exact ⟨0, by omega, rfl, ⟨rfl, .inl ⟨rfl, rfl⟩⟩, Gr.refl _⟩
  case round =>
    obtain ⟨k, k1, rfl, hst, hgr⟩ := hrel
    by_cases hlt : k < xs.length
    · obtain ⟨g, rfl, x0, x1, x2⟩ := unhide hel' k hlt (by omega)
      have hblt : g < w1.heap.size := World.block_lt_of_cell? _ _ x0
      have x0 := (Below.cell hgr hblt).trans x0
      have x1 := (Below.cell hgr hblt).trans x1
      have x2 := (Below.cell hgr hblt).trans x2
      have hyk : okM ys[k] := hok _ (List.getElem_mem _)
      have htk : Hid (ys.take (k + 1) = ys.take k ++ [ys[k]]) := hide (List.take_succ_eq_append_getElem (by omega))
      generalize ys[k] = y at x0 x1 x2 hyk htk
      obtain ⟨f, t, u⟩ := y
      have hst' := hide hst
      have hgr' := hide hgr
      have hwz := Below.size hgr
      obtain ⟨S, hS⟩ : ∃ S, Hid (S = str (txt (f, t, u))) := ⟨_, hide rfl⟩
      have hN : Hid (∀ W, Calls Tryz.prog 38 #[.agg #[.int .i64 (f : Int), .int .i64 (t : Int), .int .u8 (u.toNat : Int)]] W fun e w' => e = .returned (.string S) ∧ Gr W w') := hide (fun W => by rw [unhide hS]; exact moveP_any f t hyk.1 hyk.2 u W)
      have hga : Hid (Gr wr (wr.alloc (.cells #[.int .i64 (f : Int), .int .i64 (t : Int), .int .u8 (u.toNat : Int)] 87))) := hide ((Gr.refl _).alloc _ _)
      clear hst hgr hok hyk
      go_upto_region 5 with fail
      have hx := World.alloc_heap_new wr (.cells #[.int .i64 (f : Int), .int .i64 (t : Int), .int .u8 (u.toNat : Int)] 87)
      generalize (wr.alloc (.cells #[.int .i64 (f : Int), .int .i64 (t : Int), .int .u8 (u.toNat : Int)] 87)) = wb at hga hx ⊢
      obtain ⟨y0, y1, y2⟩ := mv_cells hx
      clear hx x0 x1 x2
      go_upto_region 6 with (first
        | (go_at_call 38; refine (unhide hN _).mono ?_; rintro e w2 ⟨rfl, hg2⟩; have hg3 := Gr.trans (unhide hgr') (Gr.trans (unhide hga) hg2); have hs3 := Below.size hg3; have hst2 := hide (owns_gr (unhide hst') (Gr.trans (unhide hga) hg2)))
        | (at_builtin; refine wpList_append_own _ rfl (.tmp 16) (.tmp 19) 43 rfl w1.heap.size 9 i0 (.string ⟨#[]⟩) 1 16 Tryz.underlying43 (unhide hi') hz0 hz1 hz2 rfl (by decide) u5 (txts (ys.take k)).length ((txts (ys.take k)).map Value.string) rfl ((unhide hst2).alloc _) ⟨w2.heap.size, 0, none⟩ 1 1 [.string S] rfl rfl (cell_one_new _ _ _) (by simp [Value.oneCell']) (by unfold maxLen; rw [txts, List.length_map, List.length_take]; omega) (by rw [txts, List.length_map, List.length_take]; omega) (by simp; omega) ?_; intro v' w3 hown' hgrow hnil))
      go_wp2_with fail
      go_roundg (gk - 1)
      case measure => omega
      case rel =>
        refine ⟨k + 1, by omega, by go_num, ?_, ?_⟩
        · unfold Strs
          rw [unhide htk, txts, List.map_append, List.map_append, List.length_append]
          rw [unhide hS] at hown'
          exact hown'
        · exact (hg3.alloc _ _).grown hgrow (by simp; omega) (strs_block (unhide hst2))
    · have ek : k = xs.length := by omega
      rw [ek, ← hys, List.take_length, unhide hYS] at hst
      have hst' := hide hst
      have hgr' := hide hgr
      clear hst hgr hok hel'
      subst ek
      go_wp2_with fail
      go_ret
      exact ⟨_, rfl, owns_mono (unhide hst') (Below.size (unhide hgw)), Gr.trans (unhide hgw) (unhide hgr')⟩

end Go.Proofs.YtnfakamfmkhlbabGreatDoor.C

namespace Go.Proofs.YtnfakamfmkhlbabGreatDoor.C

open Go.ChangeShapes Go.WideShapes Go.ChangeAt Go.RowKit Go.Shelf

open Go.Proofs.YtnfakamfmkhlbabGreatDoor.P

attribute [local go_sem] setCell_drewN alloc_drewN Oper.semAt_some

end Go.Proofs.YtnfakamfmkhlbabGreatDoor.C

namespace Go.Proofs.YtnfakamfmkhlbabGreatDoor.C

open Go.ChangeShapes Go.WideShapes Go.ChangeAt Go.RowKit

attribute [local go_sem] setCell_drewN alloc_drewN

end Go.Proofs.YtnfakamfmkhlbabGreatDoor.C

namespace Go.Proofs.YtnfakamfmkhlbabGreatDoor.C

open Go.ChangeShapes Go.WideShapes Go.ChangeAt Go.RowKit

attribute [local go_sem] setCell_drewN alloc_drewN

end Go.Proofs.YtnfakamfmkhlbabGreatDoor.C

namespace Go.Proofs.YtnfakamfmkhlbabGreatDoor.C

open Go.ChangeShapes Go.WideShapes Go.ChangeAt Go.RowKit

open Go.Proofs.YtnfakamfmkhlbabGreatDoor.P

end Go.Proofs.YtnfakamfmkhlbabGreatDoor.C

namespace Go.Proofs.YtnfakamfmkhlbabGreatDoor.C

open Go.ChangeShapes Go.WideShapes Go.ChangeAt Go.RowKit

open Go.Proofs.YtnfakamfmkhlbabGreatDoor.P

attribute [local go_sem] setCell_drewN alloc_drewN

structure Tb (w : World) (b : Nat) (A : Array Value) (cur : World) : Prop where
  gr : Gr w cur
  p : cur.heap[b]? = some (.cells A 70)
  lt : b < cur.heap.size

theorem Tb.next {w cur cur' : World} {b : Nat} {A : Array Value} (h : Tb w b A cur) (g : Gr cur cur') : Tb w b A cur' :=
  ⟨Gr.trans h.gr g, by rw [Below.block g _ h.lt]; exact h.p, Nat.lt_of_lt_of_le h.lt (Below.size g)⟩

end Go.Proofs.YtnfakamfmkhlbabGreatDoor.C

namespace Go.Proofs.YtnfakamfmkhlbabGreatDoor.C

open Go.ChangeShapes Go.WideShapes Go.ChangeAt Go.RowKit Go.Shelf

open Go.Proofs.YtnfakamfmkhlbabGreatDoor.P

attribute [local go_sem] setCell_drewN alloc_drewN

end Go.Proofs.YtnfakamfmkhlbabGreatDoor.C

namespace Go.Proofs.YtnfakamfmkhlbabGreatDoor.C

open Go.ChangeShapes Go.WideShapes Go.ChangeAt Go.RowKit Go.Shelf

open Go.Proofs.YtnfakamfmkhlbabGreatDoor.P

attribute [local go_sem] setCell_drewN alloc_drewN Oper.semAt_some

/-! squares one after the other, by steps -/

end Go.Proofs.YtnfakamfmkhlbabGreatDoor.C

namespace Go.Proofs.YtnfakamfmkhlbabGreatDoor.C

open Go.ChangeShapes Go.WideShapes Go.ChangeAt Go.RowKit Go.Shelf

open Go.Proofs.YtnfakamfmkhlbabGreatDoor.P

end Go.Proofs.YtnfakamfmkhlbabGreatDoor.C

namespace Go.Proofs.YtnfakamfmkhlbabGreatDoor.C

open Go.ChangeShapes Go.WideShapes Go.ChangeAt Go.RowKit Go.Shelf

open Go.Proofs.YtnfakamfmkhlbabGreatDoor.P

attribute [local go_sem] setCell_drewN alloc_drewN Oper.semAt_some

/-! the table of steps -/

end Go.Proofs.YtnfakamfmkhlbabGreatDoor.C

namespace Go.Proofs.YtnfakamfmkhlbabGreatDoor.C

open Go.ChangeShapes Go.WideShapes Go.ChangeAt Go.RowKit Go.Shelf

open Go.Proofs.YtnfakamfmkhlbabGreatDoor.P

attribute [local go_sem] setCell_drewN alloc_drewN Oper.semAt_some

end Go.Proofs.YtnfakamfmkhlbabGreatDoor.C

namespace Go.Proofs.YtnfakamfmkhlbabGreatDoor.C

open Go.ChangeShapes Go.WideShapes Go.ChangeAt Go.RowKit Go.Shelf

open Go.Proofs.YtnfakamfmkhlbabGreatDoor.P

attribute [local go_sem] setCell_drewN alloc_drewN Oper.semAt_some

/-! the way of letters as a way -/

end Go.Proofs.YtnfakamfmkhlbabGreatDoor.C

namespace Go.Proofs.YtnfakamfmkhlbabGreatDoor.C

open Go.ChangeShapes Go.WideShapes Go.ChangeAt Go.RowKit Go.Shelf

open Go.Proofs.YtnfakamfmkhlbabGreatDoor.P

attribute [local go_sem] setCell_drewN alloc_drewN Oper.semAt_some

/-! the two ways by their numbers -/

end Go.Proofs.YtnfakamfmkhlbabGreatDoor.C

namespace Go.Proofs.YtnfakamfmkhlbabGreatDoor.C

open Go.ChangeShapes Go.WideShapes Go.ChangeAt Go.RowKit Go.Shelf

open Go.Proofs.YtnfakamfmkhlbabGreatDoor.P

attribute [local go_sem] setCell_drewN alloc_drewN Oper.semAt_some

/-- what a way finds in a position. -/
def waL (p : Pos) (n : Int) : List Mv := if n = 1 then letL (posZ p) p.white p.castle p.behind else movS (posZ p) p.white p.castle p.behind

def MovesEnd (s : ByteArray) (n : Int) (base : Nat) (e : Ending) (w' : World) : Prop :=
  (readS s = none ∧ e = .returned (.tuple #[nilS, .int .i64 1])) ∨
  (∃ p, readS s = some p ∧ posCan p = false ∧ e = .returned (.tuple #[nilS, .int .i64 2])) ∨
  (∃ p, readS s = some p ∧ posCan p = true ∧ ¬ (n = 1 ∨ n = 2) ∧ e = .returned (.tuple #[nilS, .int .i64 3])) ∨
  (∃ p v, readS s = some p ∧ posCan p = true ∧ (n = 1 ∨ n = 2) ∧ e = .returned (.tuple #[v, .int .i64 0]) ∧ Strs base v (txts (sortM (waL p n))) w')

theorem strs_le {base base' : Nat} {v : Value} {xs : List ByteArray} {w : World} (h : Strs base v xs w) (hb : base' ≤ base) : Strs base' v xs w := by
  refine ⟨h.1, ?_⟩
  rcases h.2 with ⟨a, b⟩ | ⟨g, cap, cur, e, hg, r⟩
  · exact .inl ⟨a, b⟩
  · exact .inr ⟨g, cap, cur, e, Nat.le_trans hb hg, r⟩

theorem can_lay {p : Pos} (h : posCan p = true) : layOk (posZ p) = true := by
  unfold posCan canS at h
  simp only [Bool.and_eq_true] at h
  exact h.1

theorem bad_moves {s : ByteArray} {n k : Int} {base : Nat} {w' : World} (h : BadK s k) : MovesEnd s n base (.returned (.tuple #[nilS, .int .i64 k])) w' := by
  rcases h with ⟨rfl, h⟩ | ⟨rfl, p, h1, h2⟩
  · exact .inl ⟨h, rfl⟩
  · exact .inr (.inl ⟨p, h1, h2, rfl⟩)

set_option maxRecDepth 100000 in
set_option maxHeartbeats 8000000 in
theorem rookMoves_any (s : ByteArray) (hs : s.size < 4294967281) (n : Int) (hL : ∀ p, readS s = some p → posCan p = true → LetOk (posZ p) p.white p.castle p.behind) (m : Int) (w : World) (hc : Ct m w) (ht : Tabs w) :
    Calls Tryz.prog 15 #[.string s, .int .i64 n] w fun e w' => MovesEnd s n w.heap.size e w' ∧ Gr w w' := by
  have h1 : Hid (Calls Tryz.prog 34 #[.string s] w fun e w' => ParseEnd s e ∧ Gr w w') := hide (parse_any s hs m w hc.mx hc.ml hc.tab hc.homes)
  rcases parse_split s with ⟨p, hr, hcan, hone⟩ | ⟨k, hk, hbad, hone⟩
  · have h2 : Hid (Calls Tryz.prog 34 #[.string s] w fun e w' => e = .returned (.tuple #[.agg (posV p), .int .i64 0]) ∧ Gr w w') := hide ((unhide h1).mono fun e w' h => ⟨hone e h.1, h.2⟩)
    have hrow := row_read hr
    have hz := hrow.size
    have ho := hide (row_ones hrow)
    have hb := read_beh hr
    have htx : Hid (∀ W : World, Gr w W → ∀ q, (n = 1 ∧ q = letA ∨ n = 2 ∧ q = setA) → Calls Tryz.prog 36 #[.agg q, .agg (posV p)] W fun e w' => ∃ v, e = .returned v ∧ Strs W.heap.size v (txts (sortM (waL p n))) w' ∧ Gr W w') := hide (by
      rintro W hg q (⟨rfl, rfl⟩ | ⟨rfl, rfl⟩)
      · exact gameTexts_any hz ((mkL hrow (hL p hr hcan) W (ht.gr hg).st))
      · exact gameTexts_any hz ((mkS hrow (can_lay hcan) hb.1 hb.2 W (hc.gr hg).tab (ht.gr hg).cas)))
    have hend : Hid (∀ base v w', (n = 1 ∨ n = 2) → Strs base v (txts (sortM (waL p n))) w' → MovesEnd s n base (.returned (.tuple #[v, .int .i64 0])) w') := hide fun base v w' hn hv => .inr (.inr (.inr ⟨p, v, hr, hcan, hn, rfl, hv⟩))
    have hend3 : Hid (∀ base w', ¬ (n = 1 ∨ n = 2) → MovesEnd s n base (.returned (.tuple #[nilS, .int .i64 3])) w') := hide fun base w' hn => .inr (.inr (.inl ⟨p, hr, hcan, hn, rfl⟩))
    generalize posV p = A at h2 hz ho htx
    clear h1 hone hrow hr hcan hb hL hc ht hs
    go_enter Tryz.func15, Tryz.ntmps15
    go_upto_region 2 with (first
      | (go_at_call 34; refine (unhide h2).mono ?_; rintro e w3 ⟨rfl, hg3⟩)
      | (refine wpList_store_row rfl 70 _ _ rfl w3.heap.size A rfl rfl 70 _ (heap_alloc_new _ _) (by rw [hz]; exact infoP) (by rw [hz]; exact zeroP.symm) (unhide ho) ?_))
    generalize hw4 : (w3.alloc (.cells Tryz.zeroCells70 70)).setRow w3.heap.size A = w4
    have hk4 : Tb w w3.heap.size A w4 := ⟨Gr.trans hg3 (by rw [← hw4]; exact ((Gr.refl w3).alloc _ _).setRow _ (Nat.le_refl _) _), by rw [← hw4]; exact setRow_heap _ _ _ _ _ _ (heap_alloc_new w3 _), by rw [← hw4, size_setRow, World.size_alloc]; omega⟩
    generalize w3.heap.size = b1 at hk4 ⊢
    clear hw4 hg3 h2
    go_upto_region 4 with fail
    by_cases hn : n = 1 ∨ n = 2
    · obtain ⟨q, hq, hof, ha2⟩ : ∃ q, (n = 1 ∧ q = letA ∨ n = 2 ∧ q = setA) ∧ ofV n = .tuple #[.agg q, .bool true] ∧ (∃ ga gm, q = wayA ga gm) := by
        rcases hn with rfl | rfl
        · exact ⟨letA, .inl ⟨rfl, rfl⟩, rfl, _, _, rfl⟩
        · exact ⟨setA, .inr ⟨rfl, rfl⟩, rfl, _, _, rfl⟩
      obtain ⟨ga, gm, rfl⟩ := ha2
      have hofc : Hid (∀ W, Calls Tryz.prog 35 #[.int .i64 n] W fun e w' => e = .returned (.tuple #[.agg (wayA ga gm), .bool true]) ∧ Gr W w') := hide fun W => by rw [← hof]; exact of_any n W
      have hn' := hide hn
      have hq' := hide hq
      clear hof hn hq
      go_upto_region 5 with (first
        | (go_at_call 35; refine (unhide hofc _).mono ?_; rintro e w5 ⟨rfl, hg5⟩)
        | (refine wpList_store_row rfl 74 _ _ rfl w5.heap.size (wayA ga gm) rfl rfl 74 nilW (heap_alloc_new _ _) infoW rfl (wayA_ones _ _) ?_))
      have hg6 : Gr w5 ((w5.alloc (.cells #[.nilFunc, .nilFunc] 74)).setRow w5.heap.size (wayA ga gm)) := ((Gr.refl w5).alloc _ _).setRow _ (Nat.le_refl _) _
      have hw6 : ((w5.alloc (.cells #[.nilFunc, .nilFunc] 74)).setRow w5.heap.size (wayA ga gm)).heap[w5.heap.size]? = some (.cells (wayA ga gm) 74) := setRow_heap _ _ _ _ _ _ (heap_alloc_new w5 _)
      have hk6 := hk4.next (Gr.trans hg5 hg6)
      generalize ((w5.alloc (.cells #[.nilFunc, .nilFunc] 74)).setRow w5.heap.size (wayA ga gm)) = w6 at hw6 hk6 ⊢
      generalize w5.heap.size = b2 at hw6 ⊢
      clear hk4 hg5 hg6 hofc
      go_wp2_with (first
        | (refine wpList_load_row rfl 70 _ rfl b1 rfl 70 A (0, 0) _ (Tb.p (w := w) hk6) Tryz.underlying70 rfl (by rw [hz]; exact infoP) ?_)
        | (refine wpList_load_row rfl 74 _ rfl b2 rfl 74 (wayA ga gm) (0, 0) _ hw6 Tryz.underlying74 rfl infoW ?_)
        | (go_at_call 36; refine (unhide htx _ hk6.gr _ (unhide hq')).mono ?_; rintro e w7 ⟨v, rfl, hv, hg7⟩))
      go_ret2
      exact ⟨unhide hend _ _ _ (unhide hn') (strs_le hv (Below.size hk6.gr)), Gr.trans hk6.gr hg7⟩
    · have hof : ofV n = .tuple #[.agg nilW, .bool false] := by unfold ofV; rw [if_neg (fun h => hn (.inl h)), if_neg (fun h => hn (.inr h))]
      have hofc : Hid (∀ W, Calls Tryz.prog 35 #[.int .i64 n] W fun e w' => e = .returned (.tuple #[.agg nilW, .bool false]) ∧ Gr W w') := hide fun W => by rw [← hof]; exact of_any n W
      have hn' := hide hn
      clear hof hn
      go_wp2_with (first
        | (go_at_call 35; refine (unhide hofc _).mono ?_; rintro e w5 ⟨rfl, hg5⟩)
        | (refine wpList_store_row rfl 74 _ _ rfl w5.heap.size nilW rfl rfl 74 nilW (heap_alloc_new _ _) infoW rfl nilW_ones ?_))
      go_ret2
      exact ⟨unhide hend3 _ _ (unhide hn'), Gr.trans (Gr.trans hk4.gr hg5) (((Gr.refl w5).alloc _ _).setRow _ (Nat.le_refl _) _)⟩
  · have h2 : Hid (Calls Tryz.prog 34 #[.string s] w fun e w' => e = .returned (.tuple #[.agg Tryz.zeroCells70, .int .i64 k]) ∧ Gr w w') := hide ((unhide h1).mono fun e w' h => ⟨hone e h.1, h.2⟩)
    have hend : Hid (∀ base w', MovesEnd s n base (.returned (.tuple #[nilS, .int .i64 k])) w') := hide fun base w' => bad_moves hbad
    clear h1 hone hbad hL hc ht hs
    go_enter Tryz.func15, Tryz.ntmps15
    go_upto_region 2 with (first
      | (go_at_call 34; refine (unhide h2).mono ?_; rintro e w3 ⟨rfl, hg3⟩)
      | (refine wpList_store_row rfl 70 _ _ rfl w3.heap.size Tryz.zeroCells70 rfl rfl 70 _ (heap_alloc_new _ _) (by rw [zeroP]; exact infoP) rfl zeroP_ones ?_))
    have hg4 : Gr w ((w3.alloc (.cells Tryz.zeroCells70 70)).setRow w3.heap.size Tryz.zeroCells70) := Gr.trans hg3 (((Gr.refl w3).alloc _ _).setRow _ (Nat.le_refl _) _)
    generalize (w3.alloc (.cells Tryz.zeroCells70 70)).setRow w3.heap.size Tryz.zeroCells70 = w4 at hg4 ⊢
    go_wp2
    go_ret2
    exact ⟨unhide hend _ _, hg4⟩

end Go.Proofs.YtnfakamfmkhlbabGreatDoor.C

namespace Go.Proofs.YtnfakamfmkhlbabGreatDoor.C

open Go.ChangeShapes Go.WideShapes Go.ChangeAt Go.RowKit Go.Shelf

open Go.Proofs.YtnfakamfmkhlbabGreatDoor.P

attribute [local go_sem] setCell_drewN alloc_drewN Oper.semAt_some

set_option maxRecDepth 100000 in
set_option maxHeartbeats 4000000 in
theorem setsAttacked_any {z : Nat → UInt8} {B : Array Value} (hok : layOk z = true) (hs : B.size = 64) (hB : ∀ i, i < 64 → B[i]? = some (.int .u8 ((z i).toNat : Int))) (sq : Int) (h0 : 0 ≤ sq) (h1 : sq ≤ 63) (bw : Bool) (w : World) :
    Calls Tryz.prog 60 #[.agg B, .int .i64 sq, .bool bw] w fun e w' => e = .returned (.bool (attackedS (layS z 64) sq bw)) ∧ Gr w w' := by
  have hlay := hide (lay_yes hok hs hB)
  have hbox : Hid ((w.alloc (.cells B 67)).heap[w.heap.size]? = some (.cells B 67)) := hide (heap_alloc_new w _)
  have hg1 : Hid (Gr w (w.alloc (.cells B 67))) := hide ((Gr.refl w).alloc _ _)
  have hat : Hid (∀ M W, IsMen (layS z 64) M → Calls Tryz.prog 127 #[.agg M, .int .i64 sq, .bool bw] W fun e w' => e = .returned (.bool (attackedS (layS z 64) sq bw)) ∧ Gr W w') := hide fun M W h => attacked_any _ M h sq h0 h1 bw W
  generalize attackedS (layS z 64) sq bw = R at hat ⊢
  generalize layS z 64 = m at hlay hat
  clear hB hok h0 h1
  go_enter Tryz.func60, Tryz.ntmps60
  go_upto_region 2 with (first
    | (refine wpList_load_row rfl 67 _ rfl w.heap.size rfl 67 B (0, 0) _ (unhide hbox) Tryz.underlying67 rfl (by rw [hs]; exact info64) ?_)
    | (go_at_call 126; refine (unhide hlay _).mono ?_; rintro e w2 ⟨M, rfl, hM, hg2⟩)
    | (refine wpList_store_row rfl 197 _ _ rfl w2.heap.size M rfl rfl 197 _ (heap_alloc_new _ _) hM.info hM.1.symm hM.ones ?_))
  generalize hw3 : (w2.alloc (.cells #[.int .u64 0, .int .u64 0, .int .u64 0, .int .u64 0, .int .u64 0, .int .u64 0, .int .u64 0, .int .u64 0, .int .u64 0, .int .u64 0, .int .u64 0, .int .u64 0] 197)).setRow w2.heap.size M = w3
  have hb3 : w3.heap[w2.heap.size]? = some (.cells M 197) := by rw [← hw3]; exact setRow_heap _ _ _ _ _ _ (heap_alloc_new w2 _)
  have hg3 : Gr w w3 := Gr.trans (Gr.trans (unhide hg1) hg2) (by rw [← hw3]; exact ((Gr.refl w2).alloc _ _).setRow _ (Nat.le_refl _) _)
  generalize w2.heap.size = b2 at hb3 ⊢
  clear hw3 hg2 hbox hlay hg1
  go_wp2_with (first
    | (refine wpList_load_row rfl 197 _ rfl b2 rfl 197 M (0, 0) _ hb3 Tryz.underlying197 rfl hM.info ?_)
    | (go_at_call 127; refine (unhide hat M _ hM).mono ?_; rintro e w4 ⟨rfl, hg4⟩))
  go_ret
  exact ⟨rfl, Gr.trans hg3 hg4⟩

end Go.Proofs.YtnfakamfmkhlbabGreatDoor.C

namespace Go.Proofs.YtnfakamfmkhlbabGreatDoor.C

open Go.ChangeShapes Go.WideShapes Go.ChangeAt Go.RowKit Go.Shelf

open Go.Proofs.YtnfakamfmkhlbabGreatDoor.P

attribute [local go_sem] setCell_drewN alloc_drewN Oper.semAt_some

/-! too few men for a mate -/

def restC (c : UInt8) : Bool := c == 46 || c == 75 || c == 107

def lightC (c : UInt8) : Bool := c == 78 || c == 110 || c == 66 || c == 98

def Split (c : UInt8) : Prop := (restC c = true ∧ lightC c = false ∧ (((c.toNat : Int) = 46 ∨ (c.toNat : Int) = 75 ∨ (c.toNat : Int) = 107))) ∨ (restC c = false ∧ lightC c = true ∧ ((c.toNat : Int) = 78 ∨ (c.toNat : Int) = 110 ∨ (c.toNat : Int) = 66 ∨ (c.toNat : Int) = 98)) ∨ ((restC c || lightC c) = false ∧ ∀ n ∈ [(46 : Int), 75, 107, 78, 110, 66, 98], ((c.toNat : Int) == n) = false)

instance (c : UInt8) : Decidable (Split c) := by unfold Split; infer_instance

end Go.Proofs.YtnfakamfmkhlbabGreatDoor.C

namespace Go.Proofs.YtnfakamfmkhlbabGreatDoor.C

open Go.ChangeShapes Go.WideShapes Go.ChangeAt Go.RowKit Go.Shelf

open Go.Proofs.YtnfakamfmkhlbabGreatDoor.P

attribute [local go_sem] setCell_drewN alloc_drewN Oper.semAt_some

/-- what lies still while the king is asked for. -/
structure Ck (w : World) (ga gm : Nat) (PA : Array Value) (W : World) : Prop where
  q : W.heap[w.heap.size]? = some (.cells (wayA ga gm) 74)
  pa : W.heap[w.heap.size + 1]? = some (.cells PA 70)
  gr : Gr w W

theorem Ck.next {w W W' : World} {ga gm : Nat} {PA : Array Value} (h : Ck w ga gm PA W) (g : Gr W W') : Ck w ga gm PA W' :=
  ⟨(Below.block g _ (Array.getElem?_eq_some_iff.1 h.q).1).trans h.q, (Below.block g _ (Array.getElem?_eq_some_iff.1 h.pa).1).trans h.pa, Gr.trans h.gr g⟩

theorem ck_start (w : World) (ga gm : Nat) (PA : Array Value) : Ck w ga gm PA ((w.alloc (.cells (wayA ga gm) 74)).alloc (.cells PA 70)) := by
  obtain ⟨e1, e2⟩ := heapTwo w (.cells (wayA ga gm) 74) (.cells PA 70)
  exact ⟨e1, e2, ((Gr.refl w).alloc _ _).alloc _ _⟩

/-- what the way of sets says of check. -/
def chkS (z : Nat → UInt8) (wh : Bool) : Bool := attackedS (layS z 64) (kingR z wh) (!wh)

set_option linter.unusedSimpArgs false in
set_option maxRecDepth 100000 in
set_option maxHeartbeats 2000000 in
theorem checkQ_any {z : Nat → UInt8} {wh : Bool} {fc : Nat → Bool} {b h g : Int} {PA : Array Value} (r : Row z wh fc b h g PA) (hok : layOk z = true) (h0 : 0 ≤ kingR z wh) (h1 : kingR z wh ≤ 63) (w : World) :
    Calls Tryz.prog 124 #[.agg setA, .agg PA] w fun e w' => e = .returned (.bool (chkS z wh)) ∧ Gr w w' := by
  obtain ⟨b1, b2⟩ := board_of r
  have hz := r.size
  have hwh := r.wh
  have hking := hide (fun W => kingP_any z _ b2 wh W)
  have hatt := hide (fun W => setsAttacked_any hok b1 b2 (kingR z wh) h0 h1 (!wh) W)
  unfold chkS
  generalize attackedS (layS z 64) (kingR z wh) (!wh) = R at hatt ⊢
  generalize kingR z wh = kk at hking hatt
  have hA0 := ck_start w 60 61 PA
  clear r hok b1 b2 h0 h1
  simp only [setA, wayA]
  go_enter Tryz.func124, Tryz.ntmps124
  go_upto_region 1 with fail
  show Code.wp _ _ _ _ ((w.alloc (.cells (wayA 60 61) 74)).alloc (.cells PA 70))
  generalize ((w.alloc (.cells (wayA 60 61) 74)).alloc (.cells PA 70)) = wA at hA0 ⊢
  refine wp_region_held_drew (S := Ck w 60 61 PA) (by kernel_rfl) (hA0.next (Gr.refl _).drew) (fun hHeld => ?_)
  refine wpAnyH_take (i := 0) (v := .pointer (some ⟨w.heap.size, 0, none⟩)) rfl (by kernel_rfl) (by kernel_rfl) (by kernel_rfl) (fun _ _ _ h => h) (Or.inl ⟨by rfl, fun w hw => (by go_simp)⟩) hHeld ?_
  simp only [Act.put, List.getElem_toArray, List.getElem_cons_zero, List.getElem_cons_succ, List.setIfInBounds_toArray, List.set_cons_zero, List.set_cons_succ]
  refine wpAnyH_take (i := 1) (v := .func (.func 60) #[] #[]) rfl (by kernel_rfl) (by kernel_rfl) (by kernel_rfl) (fun _ _ _ h => h) (Or.inl ⟨by rfl, fun w' hw => (by have cq : w'.cell? ⟨w.heap.size, 0, none⟩ = some (.func (.func 60) #[] #[]) := (by rw [cell_of_row _ _ _ _ _ _ hw.q]; rfl); go_simp)⟩) hHeld ?_
  simp only [Act.put, List.getElem_toArray, List.getElem_cons_zero, List.getElem_cons_succ, List.setIfInBounds_toArray, List.set_cons_zero, List.set_cons_succ]
  refine wpAnyH_take (i := 2) (v := .pointer (some ⟨w.heap.size + 1, 0, none⟩)) rfl (by kernel_rfl) (by kernel_rfl) (by kernel_rfl) (fun _ _ _ h => h) (Or.inl ⟨by rfl, fun w hw => (by go_simp)⟩) hHeld ?_
  simp only [Act.put, List.getElem_toArray, List.getElem_cons_zero, List.getElem_cons_succ, List.setIfInBounds_toArray, List.set_cons_zero, List.set_cons_succ]
  refine wpAnyH_take (i := 3) (v := .agg (PA.toList.take 64).toArray) rfl (by kernel_rfl) (by kernel_rfl) (by kernel_rfl) (fun _ _ _ h => h) (y_board hz (by rfl) _ rfl (w.heap.size + 1) rfl (fun _ h => rowAt_of h.pa)) hHeld ?_
  simp only [Act.put, List.getElem_toArray, List.getElem_cons_zero, List.getElem_cons_succ, List.setIfInBounds_toArray, List.set_cons_zero, List.set_cons_succ]
  refine wpAnyH_take (i := 4) (v := .pointer (some ⟨w.heap.size + 1, 0, none⟩)) rfl (by kernel_rfl) (by kernel_rfl) (by kernel_rfl) (fun _ _ _ h => h) (Or.inl ⟨by rfl, fun w hw => (by go_simp)⟩) hHeld ?_
  simp only [Act.put, List.getElem_toArray, List.getElem_cons_zero, List.getElem_cons_succ, List.setIfInBounds_toArray, List.set_cons_zero, List.set_cons_succ]
  refine wpAnyH_take (i := 5) (v := .agg (PA.toList.take 64).toArray) rfl (by kernel_rfl) (by kernel_rfl) (by kernel_rfl) (fun _ _ _ h => h) (y_board hz (by rfl) _ rfl (w.heap.size + 1) rfl (fun _ h => rowAt_of h.pa)) hHeld ?_
  simp only [Act.put, List.getElem_toArray, List.getElem_cons_zero, List.getElem_cons_succ, List.setIfInBounds_toArray, List.set_cons_zero, List.set_cons_succ]
  refine wpAnyH_take (i := 6) (v := .pointer (some ⟨w.heap.size + 1, 64, none⟩)) rfl (by kernel_rfl) (by kernel_rfl) (by kernel_rfl) (fun _ _ _ h => h) (Or.inl ⟨by rfl, fun w hw => (by go_simp)⟩) hHeld ?_
  simp only [Act.put, List.getElem_toArray, List.getElem_cons_zero, List.getElem_cons_succ, List.setIfInBounds_toArray, List.set_cons_zero, List.set_cons_succ]
  refine wpAnyH_take (i := 7) (v := .bool wh) rfl (by kernel_rfl) (by kernel_rfl) (by kernel_rfl) (fun _ _ _ h => h) (Or.inl ⟨by rfl, fun w' hw => (by have cw : w'.cell? ⟨w.heap.size + 1, 64, none⟩ = some (.bool wh) := (by rw [cell_of_row _ _ _ _ _ _ hw.pa]; exact hwh); go_simp)⟩) hHeld ?_
  simp only [Act.put, List.getElem_toArray, List.getElem_cons_zero, List.getElem_cons_succ, List.setIfInBounds_toArray, List.set_cons_zero, List.set_cons_succ]
  refine wpAnyH_take (i := 9) (v := .pointer (some ⟨w.heap.size + 1, 64, none⟩)) rfl (by kernel_rfl) (by kernel_rfl) (by kernel_rfl) (fun _ _ _ h => h) (Or.inl ⟨by rfl, fun w hw => (by go_simp)⟩) hHeld ?_
  simp only [Act.put, List.getElem_toArray, List.getElem_cons_zero, List.getElem_cons_succ, List.setIfInBounds_toArray, List.set_cons_zero, List.set_cons_succ]
  refine wpAnyH_take (i := 10) (v := .bool wh) rfl (by kernel_rfl) (by kernel_rfl) (by kernel_rfl) (fun _ _ _ h => h) (Or.inl ⟨by rfl, fun w' hw => (by have cw : w'.cell? ⟨w.heap.size + 1, 64, none⟩ = some (.bool wh) := (by rw [cell_of_row _ _ _ _ _ _ hw.pa]; exact hwh); go_simp)⟩) hHeld ?_
  simp only [Act.put, List.getElem_toArray, List.getElem_cons_zero, List.getElem_cons_succ, List.setIfInBounds_toArray, List.set_cons_zero, List.set_cons_succ]
  refine wpAnyH_take (i := 11) (v := .bool (!wh)) rfl (by kernel_rfl) (by kernel_rfl) (by kernel_rfl) (fun _ _ _ h => h) (Or.inl ⟨by rfl, fun w hw => (by go_simp)⟩) hHeld ?_
  simp only [Act.put, List.getElem_toArray, List.getElem_cons_zero, List.getElem_cons_succ, List.setIfInBounds_toArray, List.set_cons_zero, List.set_cons_succ]
  refine wpAnyH_ready (rs := [8]) (by kernel_rfl) (by simp) ?_
  refine AllReadyH.cons rfl (fun K hK => ?_) AllReadyH.nil
  go_simp
  refine (unhide hking _).mono ?_
  rintro e wa ⟨rfl, hga⟩
  refine hK.out _ _ (hHeld.next hga) (fun hHeld => ?_)
  clear hK K
  refine wpAnyH_ready (rs := [12]) (by kernel_rfl) (by simp) ?_
  refine AllReadyH.cons rfl (fun K hK => ?_) AllReadyH.nil
  go_simp
  refine (unhide hatt _).mono ?_
  rintro e wb ⟨rfl, hgb⟩
  refine hK.out _ _ (hHeld.next hgb) (fun hHeld => ?_)
  clear hK K
  refine wpAnyH_ready (rs := [13]) (by kernel_rfl) (by simp) ?_
  refine AllReadyH.cons rfl (fun K hK => ?_) AllReadyH.nil
  go_simp
  refine hK.out _ _ hHeld (fun hHeld => ?_)
  clear hK K
  refine wpAnyH_done (by kernel_rfl) ?_ _
  go_wp2_with fail
  go_ret
  exact ⟨rfl, hHeld.gr⟩

/-! how it stands -/

end Go.Proofs.YtnfakamfmkhlbabGreatDoor.C

namespace Go.Proofs.YtnfakamfmkhlbabGreatDoor.C

open Go.ChangeShapes Go.WideShapes Go.ChangeAt Go.RowKit Go.Shelf

open Go.Proofs.YtnfakamfmkhlbabGreatDoor.P

attribute [local go_sem] setCell_drewN alloc_drewN Oper.semAt_some

end Go.Proofs.YtnfakamfmkhlbabGreatDoor.C

namespace Go.Proofs.YtnfakamfmkhlbabGreatDoor.C

open Go.RowKit

open Go.Proofs.YtnfakamfmkhlbabGreatDoor.P

/-! the walks of the way of letters, as lines -/

/-! closed facts of the lines -/

end Go.Proofs.YtnfakamfmkhlbabGreatDoor.C

namespace Go.Proofs.YtnfakamfmkhlbabGreatDoor.C

open Go.RowKit

open Go.Proofs.YtnfakamfmkhlbabGreatDoor.P

/-! letters by their places -/

end Go.Proofs.YtnfakamfmkhlbabGreatDoor.C

namespace Go.Proofs.YtnfakamfmkhlbabGreatDoor.C

open Go.RowKit

open Go.Proofs.YtnfakamfmkhlbabGreatDoor.P

end Go.Proofs.YtnfakamfmkhlbabGreatDoor.C

namespace Go.Proofs.YtnfakamfmkhlbabGreatDoor.C

open Go.RowKit

open Go.Proofs.YtnfakamfmkhlbabGreatDoor.P

/-! men that are neither pawns nor kings -/

end Go.Proofs.YtnfakamfmkhlbabGreatDoor.C
