import Derived.Test.YtnfakamfmkhlbaaGreatDoorSets
import Derived.Test.YtnfakamfmkhlbaaGreatDoorLow
import Derived.Test.YtnfakamfmkhlbaaGreatDoorTz
import Derived.Test.YtnfakamfmkhlbaaGreatDoorWr4
import Derived.RangeFuncNested
import Derived.RangeFuncBound
import Derived.RangeFuncCalls
import Derived.RangeFuncLeaves
import Derived.Shelf.Abstract
import Derived.Shelf.RegionOpen
import Derived.OwnWalkIn
import Derived.TacticsInMore
import Derived.LoopNIn
import Derived.LoopIn
import Derived.Stop.RegionWithIn
namespace Go.Proofs.YtnfakamfmkhlbaaGreatDoor.C
open Go.ChangeShapes Go.WideShapes Go.ChangeAt Go.RowKit Go.Shelf
open Go.Proofs.YtnfakamfmkhlbaaGreatDoor.P

/-- the table by which the lowest bit is found. -/
def BTab (w : World) : Prop := TabAt 2 Lib.deBruijn64tab w
theorem BTab.gr {w w' : World} (h : BTab w) (g : Gr w w') : BTab w' := fun j hj => by
  have hc := h j hj
  exact (Below.cell g (World.block_lt_of_cell? w _ hc)).trans hc

theorem BTab.below {n₀ : Nat} {w w' : World} (h : BTab w) (g : Below n₀ w w') (hn : 2 < n₀) : BTab w' := fun j hj => (g.cell (p := ⟨_, j, none⟩) hn).trans (h j hj)

theorem tz_any (s : BitVec 64) (t : Nat) (h1 : s.getLsbD t = true) (h2 : ∀ j, j < t → s.getLsbD j = false) (w : World) (hb : BTab w) : Calls Tryz.prog 225 #[.int .u64 (U s)] w fun e w' => e = .returned (.int .i64 t) ∧ w' = w := by
  have := Any7.bits_TrailingZeros64 Tryz.lays7x29 s.toNat s.isLt w (fun _ => hb)
  rw [ctz_is s t h1 h2] at this
  exact this

attribute [local go_sem] Oper.semAt_some

set_option maxRecDepth 100000 in
set_option maxHeartbeats 4000000 in
theorem sq1_in (n : Nat) (hn : 1 ≤ n) (l Bn n₀ : Nat) (_hB : Bn < n₀) (ht0 : 2 < n₀) (s : BitVec 64) (J Jx : List Nat → World → Prop)
    (hY : ∀ pre x W, J pre W → pre.length < (sqs s).length → YieldAt Fence.wide (n - 1) Tryz.prog l #[.int .i64 ((x : Nat) : Int)] W fun e W' =>
      (e = .returned (.bool true) ∧ J (pre ++ [x]) W' ∧ Below n₀ W W') ∨ (e = .returned (.bool false) ∧ Jx (pre ++ [x]) W'))
    (W : World) (hBn : W.cell? ⟨Bn, 0, none⟩ = some (.int .u64 (U s))) (hT : BTab W) (h0 : J [] W) :
    CallsIn Fence.wide n Tryz.prog 224 #[.func (.yield l) #[] #[], .pointer (some ⟨Bn, 0, none⟩)] W fun e W' => (∃ v, e = .returned v) ∧
      ((∃ ys, ys = sqs s ∧ J ys W') ∨ (∃ pre, pre <+: sqs s ∧ Jx pre W')) := by
  refine callsIn_of_wp Tryz.func224 rfl trivial ?_ rfl
  simp only [Tryz.ntmps224, List.size_toArray, List.length_cons, List.length_nil, Nat.reduceAdd, Nat.reduceSub, Array.replicate_succ, Array.replicate_zero, List.push_toArray, List.append_toArray, List.nil_append, List.cons_append]
  gi_wp2
  gi_loopw [3] (fun p wr => ∃ (pre : List Nat) (r : BitVec 64), p = .int .u64 (U r) ∧ sqs s = pre ++ sqs r ∧ BTab wr ∧ J pre wr) (fun p _ => (sqs (BitVec.ofInt 64 (intOf p))).length)
  case atStart => exact ⟨[], s, rfl, rfl, hT, h0⟩
  case round =>
    obtain ⟨pre, r, rfl, hx, htb, hJs⟩ := hrel
    by_cases hr : r = 0#64
    · subst hr
      have hz : (U 0#64 != 0) = false := by decide +kernel
      rw [sqs_zero, List.append_nil] at hx
      have hx' := hide hx
      clear hx
      gi_wp2
      go_end0
      exact ⟨⟨_, rfl⟩, .inl ⟨pre, (unhide hx').symm, hJs⟩⟩
    · obtain ⟨t, t1, t2, t3⟩ := low_exists r hr
      have hst := sqs_step r t t1 t2 t3
      have hnz : (U r != 0) = true := by
        simp only [bne_iff_ne]
        intro e
        exact hr (U_inj (e.trans (by decide +kernel)))
      have htz := hide (tz_any r t t2 t3)
      obtain ⟨fn, tmps, assign, body, hy, hR⟩ := hY pre t wr hJs (by rw [hx, hst]; simp)
      have hx' := hide hx
      have hst' := hide hst
      have htb' := hide htb
      clear hx hst htb hr t2 t3
      gi_wp2_with (refine ⟨trivial, ?_⟩; gi_at_call 225; refine (callsIn_wide.2 (unhide htz _ (unhide htb'))).mono ?_; rintro e w' ⟨rfl, rfl⟩)
      refine hR.mono ?_
      rintro e W3 (⟨rfl, hJ3, hk3⟩ | ⟨rfl, hJx3⟩)
      · have e1 : IntKind.u64.wrap (U r - 1) = U (r - 1#64) := by
          rw [show (1 : Int) = U 1#64 from by decide +kernel]; exact sub_U r 1#64
        have e2 : bits .and .u64 (U r) (U (r - 1#64)) = U (r &&& (r - 1#64)) := and_U _ _
        gi_wp2
        go_roundw
        case rel => exact ⟨pre ++ [t], r &&& (r - 1#64), rfl, by rw [unhide hx', unhide hst']; simp, (unhide htb').below hk3 ht0, hJ3⟩
        case measure => simp only [intOf]; rw [ofInt_U, ofInt_U, unhide hst']; simp
      · gi_wp2
        refine bodyPost_ret (results_none rfl _ _ _) rfl ?_
        exact ⟨⟨_, rfl⟩, .inr ⟨pre ++ [t], ⟨sqs (r &&& (r - 1#64)), by rw [unhide hx', unhide hst']; simp⟩, hJx3⟩⟩

theorem sq_stops (n : Nat) (hn : 1 ≤ n) (Bn n₀ : Nat) (hB : Bn < n₀) (ht0 : 2 < n₀) (s : BitVec 64) (w : World) (hn₀ : n₀ ≤ w.heap.size) (hc : w.cell? ⟨Bn, 0, none⟩ = some (.int .u64 (U s))) (hT : BTab w) :
    SeqStopsK Fence.wide n Tryz.prog 224 #[.pointer (some ⟨Bn, 0, none⟩)] (fun x : Nat => #[Value.int .i64 (x : Int)]) (Below n₀) (fun ys => ys = sqs s) (fun pre => pre <+: sqs s) (sqs s).length w := fun l J Jx W hW _ _ hY h0 =>
  sq1_in n hn l Bn n₀ hB ht0 s J Jx hY W ((hW.cell (p := ⟨Bn, 0, none⟩) (Nat.lt_of_lt_of_le hB hn₀)).trans hc) (hT.below hW (Nat.lt_of_lt_of_le ht0 hn₀)) h0

theorem cell_of_box_l {W : World} {B : Nat} {v : Value} {t : TypeId} (h : W.heap[B]? = some (.cells #[v] t (0, 0))) : W.cell? ⟨B, 0, none⟩ = some v ∧ W.frozen? ⟨B, 0, none⟩ = false := by
  constructor <;> simp [World.cell?, World.frozen?, h]
theorem cell_new_l (W : World) (v : Value) (t : TypeId) : (W.alloc (.cells #[v] t)).cell? ⟨W.heap.size, 0, none⟩ = some v ∧ (W.alloc (.cells #[v] t)).frozen? ⟨W.heap.size, 0, none⟩ = false :=
  cell_of_box_l (World.alloc_heap_new W _)

theorem sqs_len (s : BitVec 64) : (sqs s).length ≤ 64 := by
  have := List.length_filter_le (fun i => s.getLsbD i) (List.range 64)
  unfold sqs
  simpa using this

theorem squares_any (s : BitVec 64) (w : World) : Calls Tryz.prog 142 #[.int .u64 (U s)] w fun e w' => e = .returned (.func (.func 224) #[] #[.pointer (some ⟨w.heap.size, 0, none⟩)]) ∧ w' = w.alloc (.cells #[.int .u64 (U s)] 149) := by
  have hmf : ∀ (fn : Fn) (first cap : Array Value) (w : World), (Instr.makeFunc fn first cap).run Tryz.prog w = .ok (.func fn first cap) w := fun _ _ _ _ => rfl
  go_enter Tryz.func142, Tryz.ntmps142
  go_wp2
  go_ret
  exact ⟨rfl, rfl⟩

theorem one_worth (x : Int) (w : World) : Calls Tryz.prog 223 #[.int .i64 x] w fun e w' => e = .returned (.int .i64 1) ∧ w' = w := by
  go_enter Tryz.func223, Tryz.ntmps223
  go_wp2
  go_ret
  exact ⟨rfl, rfl⟩

theorem sum_round {w W : World} {pre : List Nat} {x : Nat} {v : Value} (hc : W.cell? ⟨w.heap.size + 1, 0, none⟩ = some (.int .i64 (pre.length : Nat))) (hf : W.frozen? ⟨w.heap.size + 1, 0, none⟩ = false) (hwo : W.cell? ⟨w.heap.size, 0, none⟩ = some v) (hB : Below w.heap.size w W) :
    let W' := (W.setCell ⟨w.heap.size + 1, 0, none⟩ (.int .i64 ((pre.length : Int) + 1))).drew
    KeepsOthers W W' ∧ Below w.heap.size W W' ∧ (W'.cell? ⟨w.heap.size + 1, 0, none⟩ = some (.int .i64 ((pre ++ [x]).length : Nat)) ∧ W'.frozen? ⟨w.heap.size + 1, 0, none⟩ = false ∧ W'.cell? ⟨w.heap.size, 0, none⟩ = some v) ∧ Below w.heap.size w W' := by
  intro W'
  have h1 : W'.cell? ⟨w.heap.size + 1, 0, none⟩ = some (.int .i64 ((pre.length : Int) + 1)) := World.cell?_setCell_same' W _ _ (by rw [hc]; rfl)
  have h2 : W'.frozen? ⟨w.heap.size + 1, 0, none⟩ = false := by
    show (W.setCell ⟨w.heap.size + 1, 0, none⟩ (.int .i64 ((pre.length : Int) + 1))).frozen? ⟨w.heap.size + 1, 0, none⟩ = false
    rw [World.frozen?_setCell]; exact hf
  have h3 : W'.cell? ⟨w.heap.size, 0, none⟩ = some v := by
    show (W.setCell ⟨w.heap.size + 1, 0, none⟩ (.int .i64 ((pre.length : Int) + 1))).cell? ⟨w.heap.size, 0, none⟩ = some v
    rw [World.cell?_of_block (w := W) (Below.heap_setCell W ⟨w.heap.size + 1, 0, none⟩ _ w.heap.size (by simp))]; exact hwo
  refine ⟨(KeepsOthers.setCell W _ _).trans (KeepsOthers.drew _), ((Below.refl w.heap.size W).setCell (p := ⟨w.heap.size + 1, 0, none⟩) (by simp) _).drew, ⟨?_, h2, h3⟩, (hB.setCell (p := ⟨w.heap.size + 1, 0, none⟩) (by simp) _).drew⟩
  rw [h1]; simp

set_option maxRecDepth 100000 in
set_option maxHeartbeats 4000000 in
theorem sum_any (s : BitVec 64) (Bn : Nat) (w : World) (hB : Bn < w.heap.size) (ht0 : 2 < w.heap.size) (hc : w.cell? ⟨Bn, 0, none⟩ = some (.int .u64 (U s))) (hT : BTab w) :
    Calls Tryz.prog 222 #[.func (.func 224) #[] #[.pointer (some ⟨Bn, 0, none⟩)], .func (.func 223) #[] #[]] w fun e w' => e = .returned (.int .i64 (sqs s).length) ∧ Gr w w' := by
  refine (callsIn_wide (n := 3)).1 ?_
  refine callsIn_of_wp_marks Tryz.func222 rfl trivial ?_ rfl
  simp only [Tryz.ntmps222, List.size_toArray, List.length_cons, List.length_nil, Nat.reduceAdd, Nat.reduceSub, Array.replicate_succ, Array.replicate_zero, List.push_toArray, List.append_toArray, List.nil_append, List.cons_append]
  gi_wp2
  have hs := cell_new_l (w.alloc (.cells #[.func (.func 223) #[] #[]] 278)) (.int .i64 0) 3
  have hwo := (cell_new_l w (.func (.func 223) #[] #[]) 278).1
  have hB0 : Below w.heap.size w ((w.alloc (.cells #[.func (.func 223) #[] #[]] 278)).alloc (.cells #[.int .i64 0] 3)) := ((Below.refl _ w).alloc (Nat.le_refl _) _).alloc (by simp) _
  have hwo2 : ((w.alloc (.cells #[.func (.func 223) #[] #[]] 278)).alloc (.cells #[.int .i64 0] 3)).cell? ⟨w.heap.size, 0, none⟩ = some (.func (.func 223) #[] #[]) :=
    (Below.cell (p := ⟨w.heap.size, 0, none⟩) ((Below.refl (w.heap.size + 1) _).alloc (by simp) _) (Nat.lt_succ_self _)).trans hwo
  rw [World.size_alloc] at hs
  refine wpIn_rangeFunc_ownF rfl (by omega) (gf := 224) (lb := #[.pointer (some ⟨Bn, 0, none⟩)]) rfl trivial (enters_of Tryz.func224 (by kernel_rfl) rfl)
    (sq_stops _ (by omega) Bn w.heap.size hB ht0 s _ (by simp; omega) ((hB0.cell (p := ⟨Bn, 0, none⟩) hB).trans hc) (hT.below hB0 ht0)) belowK_t (belowK_b (by simp; omega)) (Below.refl _ _) (fun _ => rfl)
    (fun pre W => (W.cell? ⟨w.heap.size + 1, 0, none⟩ = some (.int .i64 (pre.length : Nat)) ∧ W.frozen? ⟨w.heap.size + 1, 0, none⟩ = false ∧ W.cell? ⟨w.heap.size, 0, none⟩ = some (.func (.func 223) #[] #[])) ∧ Below w.heap.size w W)
    (fun _ _ _ => False)
    (OwnFrom.and (Own.from (fun s A B row hs hg hr => ⟨cell_kept hs.1 hg hr, (frozen_kept hs.1 hg hr).trans hs.2.1, cell_kept hs.2.2 hg hr⟩) _) (ownFrom_below (Nat.le_refl _) (by simp; omega)))
    (fun _ _ _ _ _ hs _ _ => hs)
    ⟨⟨hs.1, hs.2, hwo2⟩, hB0⟩
    (fun x => { tmps := #[.func (.func 224) #[] #[.pointer (some ⟨Bn, 0, none⟩)], .func (.func 223) #[] #[], undef, .pointer (some ⟨w.heap.size, 0, none⟩), .int .i64 0, .pointer (some ⟨w.heap.size + 1, 0, none⟩), .int .i64 (x : Nat), .func (.func 224) #[] #[.pointer (some ⟨Bn, 0, none⟩)], .int .i64 (x : Nat), undef, undef, undef, undef, undef, undef], defers := [] }) ?assign ?body ?done ?stop
  case assign =>
    intro l x W K hK
    gi_wp2
    simpa using hK
  case body =>
    rintro l pre x W ⟨⟨hc, hf, hwo⟩, hB⟩ hlt
    have hp64 : pre.length < 64 := Nat.lt_of_lt_of_le hlt (sqs_len s)
    gi_wp2
    have hcd : W.drew.cell? ⟨w.heap.size + 1, 0, none⟩ = some (.int .i64 (pre.length : Nat)) := hc
    have hfd : W.drew.frozen? ⟨w.heap.size + 1, 0, none⟩ = false := hf
    have hwd : W.drew.cell? ⟨w.heap.size, 0, none⟩ = some (.func (.func 223) #[] #[]) := hwo
    gi_region_with (refine ⟨trivial, ?_⟩; gi_at_call 223; refine ((callsIn_wide.2 (one_worth _ _)).inRound l).mono ?_; rintro e w' ⟨rfl, rfl⟩)
    all_goals
      gi_wp2
      rw [show IntKind.i64.wrap ((pre.length : Int) + 1) = (pre.length : Int) + 1 from by rw [IntKind.wrap_i64]; omega]
      exact sum_round hc hf hwo hB
  case done =>
    rintro D ys W hD rfl ⟨⟨hc, _, _⟩, hB⟩ hK
    gi_wp2
    refine ⟨by simp, .inl ⟨_, _, rfl, run_takeDeferred hK, ?_⟩⟩
    exact ⟨_, results_tmp rfl _ _ _, rfl, hB.trans (belowK_b (w := w) (Nat.le_refl _) W D _ _ (by simp at hD; omega) hK rfl rfl)⟩
  case stop =>
    rintro D c pre W _ _ h _
    exact h.elim

theorem count_any (s : BitVec 64) (Bn : Nat) (w : World) (hB : Bn < w.heap.size) (ht0 : 2 < w.heap.size) (hc : w.cell? ⟨Bn, 0, none⟩ = some (.int .u64 (U s))) (hT : BTab w) :
    Calls Tryz.prog 140 #[.func (.func 224) #[] #[.pointer (some ⟨Bn, 0, none⟩)]] w fun e w' => e = .returned (.int .i64 (sqs s).length) ∧ Gr w w' := by
  go_enter Tryz.func140, Tryz.ntmps140
  go_wp2_with (go_at_call 222; refine (sum_any s Bn w hB ht0 hc hT).mono ?_; rintro e w' ⟨rfl, hg⟩)
  go_ret
  exact ⟨rfl, hg⟩

end Go.Proofs.YtnfakamfmkhlbaaGreatDoor.C
