import Derived.Test.YtnfakamfmkhlbaaGreatDoorZg1
import Derived.Test.YtnfakamfmkhlbaaGreatDoorTz
import Derived.Test.YtnfakamfmkhlbaaGreatDoorZg5
import Derived.RangeFuncNested
import Derived.RangeFuncBound
import Derived.RangeFuncCalls
import Derived.RangeFuncLeaves
import Derived.Shelf.Abstract
import Derived.Shelf.RegionOpen
import Derived.OwnWalkIn
import Derived.TacticsInMore
import Derived.LoopNIn
import Derived.LoopIn
import Derived.Stop.RegionWithIn
import Derived.Deep.RegionHeld3
import Derived.Deep.MidRow
import Derived.Test.YtnfakamfmkhlbaaGreatDoorZg4
import Derived.Test.YtnfakamfmkhlbaaGreatDoorKz
namespace Go.Proofs.YtnfakamfmkhlbaaGreatDoor.C
open Go.ChangeShapes Go.WideShapes Go.ChangeAt Go.RowKit Go.Shelf
open Go.Proofs.YtnfakamfmkhlbaaGreatDoor.P
def BTab (w : World) : Prop := TabAt 2 Lib.deBruijn64tab w
theorem BTab.gr {w w' : World} (h : BTab w) (g : Gr w w') : BTab w' := fun j hj => by
 have hc := h j hj
 exact (Below.cell g (World.block_lt_of_cell? w _ hc)).trans hc
theorem BTab.below {n₀ : Nat} {w w' : World} (h : BTab w) (g : Below n₀ w w') (hn : 2 < n₀) : BTab w' := fun j hj => (g.cell (p := ⟨_, j, none⟩) hn).trans (h j hj)
theorem tz_any (s : BitVec 64) (t : Nat) (h1 : s.getLsbD t = true) (h2 : ∀ j, j < t → s.getLsbD j = false) (w : World) (hb : BTab w) : Calls Tryz.prog 225 #[.int .u64 (U s)] w fun e w' => e = .returned (.int .i64 t) ∧ w' = w := by
 have := Any7.bits_TrailingZeros64 Tryz.lays7x29 s.toNat s.isLt w (fun _ => hb)
 rw [ctz_is s t h1 h2] at this
 exact this
attribute [local go_sem] Oper.semAt_some
set_option maxRecDepth 100000 in
set_option maxHeartbeats 4000000 in
theorem sq1_in (n : Nat) (hn : 1 ≤ n) (l Bn n₀ : Nat) (_hB : Bn < n₀) (ht0 : 2 < n₀) (s : BitVec 64) (J Jx : List Nat → World → Prop)
  (hY : ∀ pre x W, J pre W → pre.length < (sqs s).length → YieldAt Fence.wide (n - 1) Tryz.prog l #[.int .i64 ((x : Nat) : Int)] W fun e W' =>
   (e = .returned (.bool true) ∧ J (pre ++ [x]) W' ∧ Below n₀ W W') ∨ (e = .returned (.bool false) ∧ Jx (pre ++ [x]) W'))
  (W : World) (hBn : W.cell? ⟨Bn, 0, none⟩ = some (.int .u64 (U s))) (hT : BTab W) (h0 : J [] W) :
  CallsIn Fence.wide n Tryz.prog 224 #[.func (.yield l) #[] #[], .pointer (some ⟨Bn, 0, none⟩)] W fun e W' => (∃ v, e = .returned v) ∧
   ((∃ ys, ys = sqs s ∧ J ys W') ∨ (∃ pre, pre <+: sqs s ∧ Jx pre W')) := by
 refine callsIn_of_wp Tryz.func224 rfl trivial ?_ rfl
 simp only [Tryz.ntmps224, List.size_toArray, List.length_cons, List.length_nil, Nat.reduceAdd, Nat.reduceSub, Array.replicate_succ, Array.replicate_zero, List.push_toArray, List.append_toArray, List.nil_append, List.cons_append]
 gi_wp2
 gi_loopw [3] (fun p wr => ∃ (pre : List Nat) (r : BitVec 64), p = .int .u64 (U r) ∧ sqs s = pre ++ sqs r ∧ BTab wr ∧ J pre wr) (fun p _ => (sqs (BitVec.ofInt 64 (intOf p))).length)
 case atStart => exact ⟨[], s, rfl, rfl, hT, h0⟩
 case round =>
  obtain ⟨pre, r, rfl, hx, htb, hJs⟩ := hrel
  by_cases hr : r = 0#64
  ·subst hr
   have hz : (U 0#64 != 0) = false := by decide +kernel
   rw [sqs_zero, List.append_nil] at hx
   have hx' := hide hx
   clear hx
   gi_wp2
   go_end0
   exact ⟨⟨_, rfl⟩, .inl ⟨pre, (unhide hx').symm, hJs⟩⟩
  ·obtain ⟨t, t1, t2, t3⟩ := low_exists r hr
   have hst := sqs_step r t t1 t2 t3
   have hnz : (U r != 0) = true := by
    simp only [bne_iff_ne]
    intro e
    exact hr (U_inj (e.trans (by decide +kernel)))
   have htz := hide (tz_any r t t2 t3)
   obtain ⟨fn, tmps, assign, body, hy, hR⟩ := hY pre t wr hJs (by rw [hx, hst]; simp)
   have hx' := hide hx
   have hst' := hide hst
   have htb' := hide htb
   clear hx hst htb hr t2 t3
   gi_wp2_with (refine ⟨trivial, ?_⟩; gi_at_call 225; refine (callsIn_wide.2 (unhide htz _ (unhide htb'))).mono ?_; rintro e w' ⟨rfl, rfl⟩)
   refine hR.mono ?_
   rintro e W3 (⟨rfl, hJ3, hk3⟩ | ⟨rfl, hJx3⟩)
   ·have e1 : IntKind.u64.wrap (U r - 1) = U (r - 1#64) := by
     rw [show (1 : Int) = U 1#64 from by decide +kernel]; exact sub_U r 1#64
    have e2 : bits .and .u64 (U r) (U (r - 1#64)) = U (r &&& (r - 1#64)) := and_U _ _
    gi_wp2
    go_roundw
    case rel => exact ⟨pre ++ [t], r &&& (r - 1#64), rfl, by rw [unhide hx', unhide hst']; simp, (unhide htb').below hk3 ht0, hJ3⟩
    case measure => simp only [intOf]; rw [ofInt_U, ofInt_U, unhide hst']; simp
   ·gi_wp2
    refine bodyPost_ret (results_none rfl _ _ _) rfl ?_
    exact ⟨⟨_, rfl⟩, .inr ⟨pre ++ [t], ⟨sqs (r &&& (r - 1#64)), by rw [unhide hx', unhide hst']; simp⟩, hJx3⟩⟩
theorem sq_stops (n : Nat) (hn : 1 ≤ n) (Bn n₀ : Nat) (hB : Bn < n₀) (ht0 : 2 < n₀) (s : BitVec 64) (w : World) (hn₀ : n₀ ≤ w.heap.size) (hc : w.cell? ⟨Bn, 0, none⟩ = some (.int .u64 (U s))) (hT : BTab w) :
  SeqStopsK Fence.wide n Tryz.prog 224 #[.pointer (some ⟨Bn, 0, none⟩)] (fun x : Nat => #[Value.int .i64 (x : Int)]) (Below n₀) (fun ys => ys = sqs s) (fun pre => pre <+: sqs s) (sqs s).length w := fun l J Jx W hW _ _ hY h0 =>
 sq1_in n hn l Bn n₀ hB ht0 s J Jx hY W ((hW.cell (p := ⟨Bn, 0, none⟩) (Nat.lt_of_lt_of_le hB hn₀)).trans hc) (hT.below hW (Nat.lt_of_lt_of_le ht0 hn₀)) h0
theorem cell_of_box_l {W : World} {B : Nat} {v : Value} {t : TypeId} (h : W.heap[B]? = some (.cells #[v] t (0, 0))) : W.cell? ⟨B, 0, none⟩ = some v ∧ W.frozen? ⟨B, 0, none⟩ = false := by
 constructor <;> simp [World.cell?, World.frozen?, h]
theorem cell_new_l (W : World) (v : Value) (t : TypeId) : (W.alloc (.cells #[v] t)).cell? ⟨W.heap.size, 0, none⟩ = some v ∧ (W.alloc (.cells #[v] t)).frozen? ⟨W.heap.size, 0, none⟩ = false :=
 cell_of_box_l (World.alloc_heap_new W _)
theorem sqs_len (s : BitVec 64) : (sqs s).length ≤ 64 := by
 have := List.length_filter_le (fun i => s.getLsbD i) (List.range 64)
 unfold sqs
 simpa using this
theorem squares_any (s : BitVec 64) (w : World) : Calls Tryz.prog 142 #[.int .u64 (U s)] w fun e w' => e = .returned (.func (.func 224) #[] #[.pointer (some ⟨w.heap.size, 0, none⟩)]) ∧ w' = w.alloc (.cells #[.int .u64 (U s)] 149) := by
 have hmf : ∀ (fn : Fn) (first cap : Array Value) (w : World), (Instr.makeFunc fn first cap).run Tryz.prog w = .ok (.func fn first cap) w := fun _ _ _ _ => rfl
 go_enter Tryz.func142, Tryz.ntmps142
 go_wp2
 go_ret
 exact ⟨rfl, rfl⟩
theorem one_worth (x : Int) (w : World) : Calls Tryz.prog 223 #[.int .i64 x] w fun e w' => e = .returned (.int .i64 1) ∧ w' = w := by
 go_enter Tryz.func223, Tryz.ntmps223
 go_wp2
 go_ret
 exact ⟨rfl, rfl⟩
theorem sum_round {w W : World} {pre : List Nat} {x : Nat} {v : Value} (hc : W.cell? ⟨w.heap.size + 1, 0, none⟩ = some (.int .i64 (pre.length : Nat))) (hf : W.frozen? ⟨w.heap.size + 1, 0, none⟩ = false) (hwo : W.cell? ⟨w.heap.size, 0, none⟩ = some v) (hB : Below w.heap.size w W) :
  let W' := (W.setCell ⟨w.heap.size + 1, 0, none⟩ (.int .i64 ((pre.length : Int) + 1))).drew
  KeepsOthers W W' ∧ Below w.heap.size W W' ∧ (W'.cell? ⟨w.heap.size + 1, 0, none⟩ = some (.int .i64 ((pre ++ [x]).length : Nat)) ∧ W'.frozen? ⟨w.heap.size + 1, 0, none⟩ = false ∧ W'.cell? ⟨w.heap.size, 0, none⟩ = some v) ∧ Below w.heap.size w W' := by
 intro W'
 have h1 : W'.cell? ⟨w.heap.size + 1, 0, none⟩ = some (.int .i64 ((pre.length : Int) + 1)) := World.cell?_setCell_same' W _ _ (by rw [hc]; rfl)
 have h2 : W'.frozen? ⟨w.heap.size + 1, 0, none⟩ = false := by
  show (W.setCell ⟨w.heap.size + 1, 0, none⟩ (.int .i64 ((pre.length : Int) + 1))).frozen? ⟨w.heap.size + 1, 0, none⟩ = false
  rw [World.frozen?_setCell]; exact hf
 have h3 : W'.cell? ⟨w.heap.size, 0, none⟩ = some v := by
  show (W.setCell ⟨w.heap.size + 1, 0, none⟩ (.int .i64 ((pre.length : Int) + 1))).cell? ⟨w.heap.size, 0, none⟩ = some v
  rw [World.cell?_of_block (w := W) (Below.heap_setCell W ⟨w.heap.size + 1, 0, none⟩ _ w.heap.size (by simp))]; exact hwo
 refine ⟨(KeepsOthers.setCell W _ _).trans (KeepsOthers.drew _), ((Below.refl w.heap.size W).setCell (p := ⟨w.heap.size + 1, 0, none⟩) (by simp) _).drew, ⟨?_, h2, h3⟩, (hB.setCell (p := ⟨w.heap.size + 1, 0, none⟩) (by simp) _).drew⟩
 rw [h1]; simp
set_option maxRecDepth 100000 in
set_option maxHeartbeats 4000000 in
theorem sum_any (s : BitVec 64) (Bn : Nat) (w : World) (hB : Bn < w.heap.size) (ht0 : 2 < w.heap.size) (hc : w.cell? ⟨Bn, 0, none⟩ = some (.int .u64 (U s))) (hT : BTab w) :
  Calls Tryz.prog 222 #[.func (.func 224) #[] #[.pointer (some ⟨Bn, 0, none⟩)], .func (.func 223) #[] #[]] w fun e w' => e = .returned (.int .i64 (sqs s).length) ∧ Gr w w' := by
 refine (callsIn_wide (n := 3)).1 ?_
 refine callsIn_of_wp_marks Tryz.func222 rfl trivial ?_ rfl
 simp only [Tryz.ntmps222, List.size_toArray, List.length_cons, List.length_nil, Nat.reduceAdd, Nat.reduceSub, Array.replicate_succ, Array.replicate_zero, List.push_toArray, List.append_toArray, List.nil_append, List.cons_append]
 gi_wp2
 have hs := cell_new_l (w.alloc (.cells #[.func (.func 223) #[] #[]] 278)) (.int .i64 0) 3
 have hwo := (cell_new_l w (.func (.func 223) #[] #[]) 278).1
 have hB0 : Below w.heap.size w ((w.alloc (.cells #[.func (.func 223) #[] #[]] 278)).alloc (.cells #[.int .i64 0] 3)) := ((Below.refl _ w).alloc (Nat.le_refl _) _).alloc (by simp) _
 have hwo2 : ((w.alloc (.cells #[.func (.func 223) #[] #[]] 278)).alloc (.cells #[.int .i64 0] 3)).cell? ⟨w.heap.size, 0, none⟩ = some (.func (.func 223) #[] #[]) :=
  (Below.cell (p := ⟨w.heap.size, 0, none⟩) ((Below.refl (w.heap.size + 1) _).alloc (by simp) _) (Nat.lt_succ_self _)).trans hwo
 rw [World.size_alloc] at hs
 refine wpIn_rangeFunc_ownF rfl (by omega) (gf := 224) (lb := #[.pointer (some ⟨Bn, 0, none⟩)]) rfl trivial (enters_of Tryz.func224 (by kernel_rfl) rfl)
  (sq_stops _ (by omega) Bn w.heap.size hB ht0 s _ (by simp; omega) ((hB0.cell (p := ⟨Bn, 0, none⟩) hB).trans hc) (hT.below hB0 ht0)) belowK_t (belowK_b (by simp; omega)) (Below.refl _ _) (fun _ => rfl)
  (fun pre W => (W.cell? ⟨w.heap.size + 1, 0, none⟩ = some (.int .i64 (pre.length : Nat)) ∧ W.frozen? ⟨w.heap.size + 1, 0, none⟩ = false ∧ W.cell? ⟨w.heap.size, 0, none⟩ = some (.func (.func 223) #[] #[])) ∧ Below w.heap.size w W)
  (fun _ _ _ => False)
  (OwnFrom.and (Own.from (fun s A B row hs hg hr => ⟨cell_kept hs.1 hg hr, (frozen_kept hs.1 hg hr).trans hs.2.1, cell_kept hs.2.2 hg hr⟩) _) (ownFrom_below (Nat.le_refl _) (by simp; omega)))
  (fun _ _ _ _ _ hs _ _ => hs)
  ⟨⟨hs.1, hs.2, hwo2⟩, hB0⟩
  (fun x => { tmps := #[.func (.func 224) #[] #[.pointer (some ⟨Bn, 0, none⟩)], .func (.func 223) #[] #[], undef, .pointer (some ⟨w.heap.size, 0, none⟩), .int .i64 0, .pointer (some ⟨w.heap.size + 1, 0, none⟩), .int .i64 (x : Nat), .func (.func 224) #[] #[.pointer (some ⟨Bn, 0, none⟩)], .int .i64 (x : Nat), undef, undef, undef, undef, undef, undef], defers := [] }) ?assign ?body ?done ?stop
 case assign =>
  intro l x W K hK
  gi_wp2
  simpa using hK
 case body =>
  rintro l pre x W ⟨⟨hc, hf, hwo⟩, hB⟩ hlt
  have hp64 : pre.length < 64 := Nat.lt_of_lt_of_le hlt (sqs_len s)
  gi_wp2
  have hcd : W.drew.cell? ⟨w.heap.size + 1, 0, none⟩ = some (.int .i64 (pre.length : Nat)) := hc
  have hfd : W.drew.frozen? ⟨w.heap.size + 1, 0, none⟩ = false := hf
  have hwd : W.drew.cell? ⟨w.heap.size, 0, none⟩ = some (.func (.func 223) #[] #[]) := hwo
  gi_region_with (refine ⟨trivial, ?_⟩; gi_at_call 223; refine ((callsIn_wide.2 (one_worth _ _)).inRound l).mono ?_; rintro e w' ⟨rfl, rfl⟩)
  all_goals
   gi_wp2
   rw [show IntKind.i64.wrap ((pre.length : Int) + 1) = (pre.length : Int) + 1 from by rw [IntKind.wrap_i64]; omega]
   exact sum_round hc hf hwo hB
 case done =>
  rintro D ys W hD rfl ⟨⟨hc, _, _⟩, hB⟩ hK
  gi_wp2
  refine ⟨by simp, .inl ⟨_, _, rfl, run_takeDeferred hK, ?_⟩⟩
  exact ⟨_, results_tmp rfl _ _ _, rfl, hB.trans (belowK_b (w := w) (Nat.le_refl _) W D _ _ (by simp at hD; omega) hK rfl rfl)⟩
 case stop =>
  rintro D c pre W _ _ h _
  exact h.elim
theorem count_any (s : BitVec 64) (Bn : Nat) (w : World) (hB : Bn < w.heap.size) (ht0 : 2 < w.heap.size) (hc : w.cell? ⟨Bn, 0, none⟩ = some (.int .u64 (U s))) (hT : BTab w) :
  Calls Tryz.prog 140 #[.func (.func 224) #[] #[.pointer (some ⟨Bn, 0, none⟩)]] w fun e w' => e = .returned (.int .i64 (sqs s).length) ∧ Gr w w' := by
 go_enter Tryz.func140, Tryz.ntmps140
 go_wp2_with (go_at_call 222; refine (sum_any s Bn w hB ht0 hc hT).mono ?_; rintro e w' ⟨rfl, hg⟩)
 go_ret
 exact ⟨rfl, hg⟩
end Go.Proofs.YtnfakamfmkhlbaaGreatDoor.C
namespace Go.Proofs.YtnfakamfmkhlbaaGreatDoor.C
open Go.ChangeShapes Go.WideShapes Go.ChangeAt Go.RowKit
open Go.Proofs.YtnfakamfmkhlbaaGreatDoor.P
def IsMen (m : Nat → BitVec 64) (M : Array Value) : Prop := M.size = 12 ∧ ∀ i, i < 12 → M[i]? = some (.int .u64 (U (m i)))
def bg (b : Bool) : Nat := if b then 0 else 6
theorem begin_any (b : Bool) (w : World) : Calls Tryz.prog 174 #[.bool b] w fun e w' => e = .returned (.int .i64 (bg b)) ∧ w' = w := by
 cases b
 ·go_enter Tryz.func174, Tryz.ntmps174
  go_wp2
  go_ret
  exact ⟨rfl, rfl⟩
 ·go_enter Tryz.func174, Tryz.ntmps174
  go_wp2
  go_ret
  exact ⟨rfl, rfl⟩
theorem bg_le (b : Bool) : bg b ≤ 6 := by cases b <;> decide
theorem kings_any (m : Nat → BitVec 64) (M : Array Value) (hM : IsMen m M) (b : Bool) (w : World) : Calls Tryz.prog 141 #[.agg M, .bool b] w fun e w' => e = .returned (.int .u64 (U (m (bg b + 5)))) ∧ Gr w w' := by
 have hb := bg_le b
 have hc : (w.alloc (.cells M 151)).cell? ⟨w.heap.size, bg b + 5, none⟩ = some (.int .u64 (U (m (bg b + 5)))) := by rw [World.cell?_alloc_at _ _ _ _ rfl]; exact hM.2 _ (by omega)
 clear hM
 have hbe := hide (begin_any b)
 generalize bg b = k at hb hc hbe ⊢
 go_enter Tryz.func141, Tryz.ntmps141
 go_wp2_with (go_at_call 174; refine (unhide hbe _).mono ?_; rintro e w' ⟨rfl, rfl⟩)
 go_ret
 exact ⟨rfl, (Gr.refl _).alloc _ _⟩
theorem pawns_any (m : Nat → BitVec 64) (M : Array Value) (hM : IsMen m M) (b : Bool) (w : World) : Calls Tryz.prog 144 #[.agg M, .bool b] w fun e w' => e = .returned (.int .u64 (U (m (bg b)))) ∧ Gr w w' := by
 have hb := bg_le b
 have hc : (w.alloc (.cells M 151)).cell? ⟨w.heap.size, bg b, none⟩ = some (.int .u64 (U (m (bg b)))) := by rw [World.cell?_alloc_at _ _ _ _ rfl]; exact hM.2 _ (by omega)
 clear hM
 have hbe := hide (begin_any b)
 generalize bg b = k at hb hc hbe ⊢
 go_enter Tryz.func144, Tryz.ntmps144
 go_wp2_with (go_at_call 174; refine (unhide hbe _).mono ?_; rintro e w' ⟨rfl, rfl⟩)
 go_ret
 exact ⟨rfl, (Gr.refl _).alloc _ _⟩
def orB (m : Nat → BitVec 64) (base : Nat) : Nat → BitVec 64
 | 0 => 0#64
 | k + 1 => orB m base k ||| m (base + k)
def sideB (m : Nat → BitVec 64) (b : Bool) : BitVec 64 := orB m (bg b) 6
set_option maxHeartbeats 1000000 in
theorem mside_any (m : Nat → BitVec 64) (M : Array Value) (hM : IsMen m M) (b : Bool) (w : World) : Calls Tryz.prog 143 #[.agg M, .bool b] w fun e w' => e = .returned (.int .u64 (U (sideB m b))) ∧ Gr w w' := by
 have hb := bg_le b
 unfold sideB
 have hbe := hide (begin_any b)
 generalize bg b = q at hb hbe ⊢
 have hM' := hide hM
 clear hM
 have hU0 : U 0#64 = 0 := by decide +kernel
 go_enter Tryz.func143, Tryz.ntmps143
 go_wp2
 go_loopg [5, 7] 6 (fun g a n wr => ∃ k : Nat, k + g = 6 ∧ n = .int .i64 k ∧ a = .int .u64 (U (orB m q k)) ∧ wr = w.alloc (.cells M 151))
 case atStart => exact ⟨0, rfl, rfl, by rw [show orB m q 0 = 0#64 from rfl, hU0], rfl⟩
 case round =>
  obtain ⟨k, k1, rfl, rfl, rfl⟩ := hrel
  by_cases hlt : k < 6
  ·have hc : (w.alloc (.cells M 151)).cell? ⟨w.heap.size, q + k, none⟩ = some (.int .u64 (U (m (q + k)))) := by rw [World.cell?_alloc_at _ _ _ _ rfl]; exact (unhide hM').2 _ (by omega)
   have hor : bits .or .u64 (U (orB m q k)) (U (m (q + k))) = U (orB m q (k + 1)) := or_U _ _
   go_wp2_with (go_at_call 174; refine (unhide hbe _).mono ?_; rintro e w' ⟨rfl, rfl⟩)
   go_roundg (gk - 1)
   case measure => omega
   case rel => exact ⟨k + 1, by omega, by go_num, by first | rfl | rw [hor], rfl⟩
  ·have ek : k = 6 := by omega
   subst ek
   go_wp2
   go_ret
   exact ⟨rfl, (Gr.refl _).alloc _ _⟩
def takenB (m : Nat → BitVec 64) : BitVec 64 := sideB m true ||| sideB m false
def kindI (bw : Bool) (i : Nat) : Int := if i = 0 then (if bw then 2 else 1) else (i : Int) + 2
def seesI (m : Nat → BitVec 64) (sq : Int) (bw : Bool) (i : Nat) : Bool := bits .and .u64 (reachI (kindI bw i) sq (U (takenB m))) (U (m (bg bw + i))) != 0
def attackedS (m : Nat → BitVec 64) (sq : Int) (bw : Bool) : Bool := (List.range 6).any (seesI m sq bw)
theorem info12 : (Tryz.prog.info? 151).map (·.size) = some 12 := by kernel_rfl
theorem kind_ok (bw : Bool) (k : Nat) (h : k < 6) : 1 ≤ kindI bw k ∧ kindI bw k ≤ 7 := by
 unfold kindI
 by_cases hk : k = 0
 ·rw [if_pos hk]; cases bw <;> decide
 ·rw [if_neg hk]; omega
def kindsA (bw : Bool) : Array Value := #[.int .i64 (kindI bw 0), .int .i64 3, .int .i64 4, .int .i64 5, .int .i64 6, .int .i64 7]
theorem info6 : (Tryz.prog.info? 261).map (·.size) = some 6 := by kernel_rfl
set_option maxRecDepth 100000 in
theorem kinds_any (bw : Bool) (w : World) : Calls Tryz.prog 173 #[.bool (!bw)] w fun e w' => e = .returned (.agg (kindsA bw)) ∧ Gr w w' := by
 cases bw
 ·go_enter Tryz.func173, Tryz.ntmps173
  go_wp2
  exact bodyPost_ret (v := .agg (kindsA false)) (results_cell_row Tryz.results173 _ _ w.heap.size 261 _ (0, 0) _ rfl (heap_alloc_new _ _) Tryz.underlying261 rfl info6) rfl ⟨rfl, (Gr.refl w).alloc _ _⟩
 ·go_enter Tryz.func173, Tryz.ntmps173
  go_wp2
  exact bodyPost_ret (v := .agg (kindsA true)) (results_cell_row Tryz.results173 _ _ w.heap.size 261 _ (0, 0) _ rfl (heap_alloc_new _ _) Tryz.underlying261 rfl info6) rfl ⟨rfl, (Gr.refl w).alloc _ _⟩
theorem ix_t0 (w : World) : (Instr.index 261 (.agg (kindsA true)) (.int .i64 0)).run Tryz.prog w = .ok (.int .i64 (kindI true 0)) w := by kernel_rfl
theorem ix_t1 (w : World) : (Instr.index 261 (.agg (kindsA true)) (.int .i64 1)).run Tryz.prog w = .ok (.int .i64 (kindI true 1)) w := by kernel_rfl
theorem ix_t2 (w : World) : (Instr.index 261 (.agg (kindsA true)) (.int .i64 2)).run Tryz.prog w = .ok (.int .i64 (kindI true 2)) w := by kernel_rfl
theorem ix_t3 (w : World) : (Instr.index 261 (.agg (kindsA true)) (.int .i64 3)).run Tryz.prog w = .ok (.int .i64 (kindI true 3)) w := by kernel_rfl
theorem ix_t4 (w : World) : (Instr.index 261 (.agg (kindsA true)) (.int .i64 4)).run Tryz.prog w = .ok (.int .i64 (kindI true 4)) w := by kernel_rfl
theorem ix_t5 (w : World) : (Instr.index 261 (.agg (kindsA true)) (.int .i64 5)).run Tryz.prog w = .ok (.int .i64 (kindI true 5)) w := by kernel_rfl
theorem ix_f0 (w : World) : (Instr.index 261 (.agg (kindsA false)) (.int .i64 0)).run Tryz.prog w = .ok (.int .i64 (kindI false 0)) w := by kernel_rfl
theorem ix_f1 (w : World) : (Instr.index 261 (.agg (kindsA false)) (.int .i64 1)).run Tryz.prog w = .ok (.int .i64 (kindI false 1)) w := by kernel_rfl
theorem ix_f2 (w : World) : (Instr.index 261 (.agg (kindsA false)) (.int .i64 2)).run Tryz.prog w = .ok (.int .i64 (kindI false 2)) w := by kernel_rfl
theorem ix_f3 (w : World) : (Instr.index 261 (.agg (kindsA false)) (.int .i64 3)).run Tryz.prog w = .ok (.int .i64 (kindI false 3)) w := by kernel_rfl
theorem ix_f4 (w : World) : (Instr.index 261 (.agg (kindsA false)) (.int .i64 4)).run Tryz.prog w = .ok (.int .i64 (kindI false 4)) w := by kernel_rfl
theorem ix_f5 (w : World) : (Instr.index 261 (.agg (kindsA false)) (.int .i64 5)).run Tryz.prog w = .ok (.int .i64 (kindI false 5)) w := by kernel_rfl
theorem ix_one (bw : Bool) : ∀ k : Nat, k < 6 → ∀ w : World, (Instr.index 261 (.agg (kindsA bw)) (.int .i64 (k : Nat))).run Tryz.prog w = .ok (.int .i64 (kindI bw k)) w := by
 intro k hk w
 have : k = 0 ∨ k = 1 ∨ k = 2 ∨ k = 3 ∨ k = 4 ∨ k = 5 := by omega
 cases bw
 ·rcases this with rfl | rfl | rfl | rfl | rfl | rfl
  ·exact ix_f0 w
  ·exact ix_f1 w
  ·exact ix_f2 w
  ·exact ix_f3 w
  ·exact ix_f4 w
  ·exact ix_f5 w
 ·rcases this with rfl | rfl | rfl | rfl | rfl | rfl
  ·exact ix_t0 w
  ·exact ix_t1 w
  ·exact ix_t2 w
  ·exact ix_t3 w
  ·exact ix_t4 w
  ·exact ix_t5 w
def HeldAt (b : Nat) (M : Array Value) (w : World) : Prop := b < w.heap.size ∧ w.rangeAt b 0 M.toList ∧ M.size = 12
theorem HeldAt.gr {b : Nat} {M : Array Value} {w w' : World} (h : HeldAt b M w) (g : Gr w w') : HeldAt b M w' :=
 ⟨Nat.lt_of_lt_of_le h.1 (Below.size g), fun j v hv => (Below.cell g (p := ⟨b, 0 + j, none⟩) h.1).trans (h.2.1 j v hv), h.2.2⟩
def St (w1 : World) (b : Nat) (M : Array Value) (w : World) : Prop := HeldAt b M w ∧ Gr w1 w
theorem St.gr {w1 w w' : World} {b : Nat} {M : Array Value} (h : St w1 b M w) (g : Gr w w') : St w1 b M w' := ⟨h.1.gr g, Gr.trans h.2 g⟩
theorem y_men {ops : Array Oper} {op : Oper} {a : Act} {M : Array Value} (hz : M.size = 12) {S : World → Prop} (hw : Region.wanted op (yielded ops a.tmps) = true) (x : Operand) (ho : op.op = .load 151 x) (b : Nat) (hx : a.eval x = .pointer (some ⟨b, 0, none⟩)) (hS : ∀ w, S w → HeldAt b M w) : YieldsIf Tryz.prog ops S op (.agg M) a := by
 have := yieldsIf_load_mid (P := Tryz.prog) hw 151 x ho b 0 hx M.toList _ (fun w h => (hS w h).2.1) Tryz.underlying151 rfl (by rw [info12]; simp [hz])
 rwa [Array.toArray_toList] at this
theorem any_hit {f : Nat → Bool} {k : Nat} (hk : k < 6) (h : f k = true) : (List.range 6).any f = true := List.any_eq_true.2 ⟨k, List.mem_range.2 hk, h⟩
theorem any_none {f : Nat → Bool} (h : ∀ j, j < 6 → f j = false) : (List.range 6).any f = false := by
 rw [List.any_eq_false]
 intro j hj
 rw [h j (List.mem_range.1 hj)]
 decide
theorem St.cell {w1 w : World} {b : Nat} {M : Array Value} {m : Nat → BitVec 64} (h : St w1 b M w) (hM : IsMen m M) (k : Nat) (hk : k < 12) : w.cell? ⟨b, k, none⟩ = some (.int .u64 (U (m k))) := by
 have h3 := h.1.2.1 k _ (by rw [Array.getElem?_toList]; exact hM.2 k hk)
 rwa [Nat.zero_add] at h3
set_option linter.unusedSimpArgs false in
set_option maxRecDepth 100000 in
set_option maxHeartbeats 4000000 in
theorem attacked_any (m : Nat → BitVec 64) (M : Array Value) (hM : IsMen m M) (sq : Int) (h0 : 0 ≤ sq) (h1 : sq ≤ 63) (bw : Bool) (w : World) : Calls Tryz.prog 145 #[.agg M, .int .i64 sq, .bool bw] w fun e w' => e = .returned (.bool (attackedS m sq bw)) ∧ Gr w w' := by
 have hM' := hide hM
 have hz := hide hM.1
 have hh1 : HeldAt w.heap.size M (w.alloc (.cells M 151)) := ⟨by rw [World.size_alloc]; omega, (by
  intro j v hv
  rw [World.cell?_alloc_at _ _ _ _ rfl, Nat.zero_add, ← Array.getElem?_toList]; exact hv), hM.1⟩
 have hg1 : Hid (Gr w (w.alloc (.cells M 151))) := hide ((Gr.refl w).alloc _ _)
 have hbe := hide (begin_any bw)
 have hkd := hide (kinds_any bw)
 have hix' := hide (ix_one bw)
 have hq := bg_le bw
 obtain ⟨f, hf⟩ : ∃ f, Hid (f = seesI m sq bw) := ⟨_, hide rfl⟩
 have hsee : Hid (∀ k, f k = (bits .and .u64 (reachI (kindI bw k) sq (U (takenB m))) (U (m (bg bw + k))) != 0)) := hide (by rw [unhide hf]; intro k; rfl)
 have hgoal : attackedS m sq bw = (List.range 6).any f := by rw [unhide hf]; rfl
 rw [hgoal]
 clear hgoal hf
 generalize bg bw = q at hbe hq hsee
 generalize kindsA bw = KA at hkd hix'
 clear hM
 go_enter Tryz.func145, Tryz.ntmps145
 go_wp2
 generalize w.alloc (.cells M 151) = w1 at hh1 hg1 ⊢
 have hst : St w1 w.heap.size M w1.drew := ⟨hh1.gr (Gr.refl _).drew, (Gr.refl _).drew⟩
 clear hh1
 refine wp_region_held_drew (S := St w1 w.heap.size M) (by kernel_rfl) hst (fun hHeld => ?_)
 refine tk 0 (.agg M) rfl (y_men (unhide hz) (by rfl) _ rfl w.heap.size rfl (fun _ h => h.1)) hHeld ?_
 simp only [Act.put, C.p4, C.p5, C.p6]
 refine tk 2 (.agg M) rfl (y_men (unhide hz) (by rfl) _ rfl w.heap.size rfl (fun _ h => h.1)) hHeld ?_
 simp only [Act.put, C.p4, C.p5, C.p6]
 refine wpAnyH_ready (rs := [1]) (by kernel_rfl) (by simp) ?_
 refine AllReadyH.cons rfl (fun K hK => ?_) AllReadyH.nil
 go_simp
 refine (mside_any m M (unhide hM') true _).mono ?_
 rintro e wa ⟨rfl, hga⟩
 refine hK.out _ _ (hHeld.gr hga) (fun hHeld => ?_)
 clear hK K hst hga
 refine wpAnyH_ready (rs := [3]) (by kernel_rfl) (by simp) ?_
 refine AllReadyH.cons rfl (fun K hK => ?_) AllReadyH.nil
 go_simp
 refine (mside_any m M (unhide hM') false _).mono ?_
 rintro e wb ⟨rfl, hgb⟩
 refine hK.out _ _ (hHeld.gr hgb) (fun hHeld => ?_)
 clear hK K hgb
 have hor : ∀ x y : BitVec 64, bits .or .u64 (U x) (U y) = U (x ||| y) := or_U
 refine tk 4 (.int .u64 (U (takenB m))) rfl (Or.inl ⟨by rfl, fun w _ => ?_⟩) hHeld ?_
 ·go_simp
  rfl
 simp only [Act.put, C.p4, C.p5, C.p6]
 refine wpAnyH_ready (rs := [5]) (by kernel_rfl) (by simp) ?_
 refine AllReadyH.cons rfl (fun K hK => ?_) AllReadyH.nil
 go_simp
 refine hK.out _ _ hHeld (fun hHeld => ?_)
 clear hK K hor
 refine wpAnyH_done (by kernel_rfl) ?_ _
 have hc := hide (fun k hk => St.cell hHeld (unhide hM') k hk)
 have hgb : Hid (Gr w wb) := hide (Gr.trans (unhide hg1) hHeld.2)
 clear hHeld hg1 hz hM'
 generalize U (takenB m) = tk at hsee ⊢
 go_wp2_with (go_at_call 173; refine (unhide hkd _).mono ?_; rintro e wk ⟨rfl, hgk⟩)
 replace hc : Hid (∀ k, k < 12 → wk.cell? ⟨w.heap.size, k, none⟩ = some (.int .u64 (U (m k)))) := hide fun k hk => (Below.cell hgk (p := ⟨w.heap.size, k, none⟩) (World.block_lt_of_cell? wb _ (unhide hc k hk))).trans (unhide hc k hk)
 replace hgb : Hid (Gr w wk) := hide (Gr.trans (unhide hgb) hgk)
 clear hgk
 go_loopg [18] 6 (fun g n wr => ∃ k : Nat, k + g = 6 ∧ n = .int .i64 k ∧ (∀ j, j < k → f j = false) ∧ wr = wk)
 case atStart => exact ⟨0, rfl, rfl, fun j hj => absurd hj (Nat.not_lt_zero j), rfl⟩
 case round =>
  obtain ⟨k, k1, rfl, k3, rfl⟩ := hrel
  have k3' := hide k3
  clear k3
  by_cases hlt : k < 6
  ·have hcell := unhide hc (q + k) (by omega)
   have hix := unhide hix' k hlt
   have hki := kind_ok bw k hlt
   have hse := unhide hsee k
   generalize kindI bw k = kd at hix hki hse
   have hk0 : (0 : Int) ≤ (k : Int) := by omega
   have hk6 : (k : Int) < 6 := by omega
   obtain ⟨hki0, hki1⟩ := hki
   by_cases hbz : bits .and .u64 (reachI kd sq tk) (U (m (q + k))) = 0
   ·have hfk : f k = false := by rw [hse, hbz]; rfl
    clear hse
    have hfk' := hide hfk
    clear hfk
    go_wp2_with (first | (go_at_call 174; refine (unhide hbe _).mono ?_; rintro e w' ⟨rfl, rfl⟩) | (go_at_call 116; refine (reach9_any kd sq tk hki0 hki1 h0 h1 _).mono ?_; rintro e w' ⟨rfl, rfl⟩))
    go_roundg (gk - 1)
    case measure => omega
    case rel => exact ⟨k + 1, by omega, by go_num, (by
     intro j hj
     by_cases hjk : j = k
     ·subst hjk; exact unhide hfk'
     ·exact unhide k3' j (by omega)), rfl⟩
   ·have hfk : f k = true := by rw [hse]; exact bne_iff_ne.2 hbz
    clear hse
    have hfk' := hide hfk
    clear hfk
    go_wp2_with (first | (go_at_call 174; refine (unhide hbe _).mono ?_; rintro e w' ⟨rfl, rfl⟩) | (go_at_call 116; refine (reach9_any kd sq tk hki0 hki1 h0 h1 _).mono ?_; rintro e w' ⟨rfl, rfl⟩))
    go_ret
    exact ⟨by rw [any_hit hlt (unhide hfk')]; rfl, unhide hgb⟩
  ·have ek : k = 6 := by omega
   subst ek
   go_wp2
   go_ret
   exact ⟨by rw [any_none (unhide k3')]; rfl, unhide hgb⟩
end Go.Proofs.YtnfakamfmkhlbaaGreatDoor.C
namespace Go.Proofs.YtnfakamfmkhlbaaGreatDoor.C
open Go.ChangeShapes Go.WideShapes Go.ChangeAt Go.RowKit
open Go.Proofs.YtnfakamfmkhlbaaGreatDoor.P
attribute [local go_sem] setCell_drewN alloc_drewN
theorem ix64 (B : Array Value) (k : Nat) (hk : k < 64) (v : Int) (hB : B[k]? = some (.int .u8 v)) (w : World) : (Instr.index 22 (.agg B) (.int .i64 (k : Nat))).run Tryz.prog w = .ok (.int .u8 v) w := by
 have h64 : (0 : Int) ≤ (k : Int) ∧ (k : Int) < 64 := by omega
 have hu := Tryz.underlying22
 simp [Instr.index, run_underlying hu, asIntOf, h64, go_sem, hB]
 intro h; omega
def layS (z : Nat → UInt8) : Nat → Nat → BitVec 64
 | 0, _ => 0#64
 | k + 1, p => layS z k p ||| (if Lib.indexByte lettersL (z k) = (p : Int) then 1#64 <<< k else 0#64)
def okY (c : UInt8) : Bool := c == 46 || decide (0 ≤ Lib.indexByte lettersL c)
def layOk (z : Nat → UInt8) : Bool := (List.range 64).all fun i => okY (z i)
def Z12 : Array Value := #[.int .u64 0, .int .u64 0, .int .u64 0, .int .u64 0, .int .u64 0, .int .u64 0, .int .u64 0, .int .u64 0, .int .u64 0, .int .u64 0, .int .u64 0, .int .u64 0]
theorem layS_skip {z : Nat → UInt8} {k p : Nat} (h : Lib.indexByte lettersL (z k) ≠ (p : Int)) : layS z (k + 1) p = layS z k p := by
 show layS z k p ||| (if _ then _ else _) = _
 rw [if_neg h]; simp
theorem layS_hit {z : Nat → UInt8} {k p : Nat} (h : Lib.indexByte lettersL (z k) = (p : Int)) : layS z (k + 1) p = layS z k p ||| 1#64 <<< k := by
 show layS z k p ||| (if _ then _ else _) = _
 rw [if_pos h]
theorem isMen_skip {z : Nat → UInt8} {k : Nat} {M : Array Value} (h : Lib.indexByte lettersL (z k) < 0) (hM : IsMen (layS z k) M) : IsMen (layS z (k + 1)) M :=
 ⟨hM.1, fun i hi => by rw [layS_skip (by omega)]; exact hM.2 i hi⟩
theorem isMen_put {z : Nat → UInt8} {k p : Nat} {M : Array Value} (hp : p < 12) (h : Lib.indexByte lettersL (z k) = (p : Int)) (hM : IsMen (layS z k) M) : IsMen (layS z (k + 1)) (M.setIfInBounds p (.int .u64 (U (layS z (k + 1) p)))) := by
 refine ⟨by simpa using hM.1, fun i hi => ?_⟩
 rw [Array.getElem?_setIfInBounds]
 by_cases e : p = i
 ·subst e; rw [if_pos rfl, if_pos (by rw [hM.1]; exact hp)]
 ·rw [if_neg e, layS_skip (by omega)]; exact hM.2 i hi
theorem ib_dot : Lib.indexByte lettersL 46 = -1 := by decide +kernel
theorem ib_lt : ∀ c : UInt8, Lib.indexByte lettersL c < 12 := by
 intro c
 have : ∀ n, n < 256 → Lib.indexByte lettersL (UInt8.ofNat n) < 12 := by decide +kernel
 have h := this c.toNat c.toNat_lt
 simpa using h
theorem isMen_0 (z : Nat → UInt8) : IsMen (layS z 0) Z12 := by
 refine ⟨rfl, fun i hi => ?_⟩
 have : i = 0 ∨ i = 1 ∨ i = 2 ∨ i = 3 ∨ i = 4 ∨ i = 5 ∨ i = 6 ∨ i = 7 ∨ i = 8 ∨ i = 9 ∨ i = 10 ∨ i = 11 := by omega
 rcases this with rfl | rfl | rfl | rfl | rfl | rfl | rfl | rfl | rfl | rfl | rfl | rfl <;> rfl
theorem IsMen.ones {m : Nat → BitVec 64} {M : Array Value} (h : IsMen m M) : M.all (·.oneCell') = true := by
 rw [Array.all_eq_true]
 intro i hi
 have h2 := h.2 i (by rw [← h.1]; exact hi)
 rw [Array.getElem?_eq_getElem hi] at h2
 rw [Option.some.inj h2]
 simp [Value.oneCell']
theorem IsMen.info {m : Nat → BitVec 64} {M : Array Value} (h : IsMen m M) : (Tryz.prog.info? 151).map (·.size) = some M.size := by rw [info12, h.1]
def LayEnd (z : Nat → UInt8) (e : Ending) : Prop := ∃ M, e = .returned (.tuple #[.agg M, .bool (layOk z)]) ∧ (∃ m, IsMen m M) ∧ (layOk z = true → IsMen (layS z 64) M)
theorem layOk_bad {z : Nat → UInt8} {k : Nat} (hk : k < 64) (h : okY (z k) = false) : layOk z = false := by
 unfold layOk
 rw [List.all_eq_false]
 exact ⟨k, List.mem_range.2 hk, by rw [h]; decide⟩
theorem layOk_all {z : Nat → UInt8} (h : ∀ j, j < 64 → okY (z j) = true) : layOk z = true := by
 unfold layOk
 rw [List.all_eq_true]
 intro j hj
 exact h j (List.mem_range.1 hj)
set_option maxRecDepth 100000 in
set_option maxHeartbeats 8000000 in
theorem lay_any (z : Nat → UInt8) (B : Array Value) (hs : B.size = 64) (hB : ∀ i, i < 64 → B[i]? = some (.int .u8 ((z i).toNat : Int))) (w : World) : Calls Tryz.prog 73 #[.agg B] w fun e w' => LayEnd z e ∧ Gr w w' := by
 have hs' := hide hs
 have hB' := hide hB
 clear hs hB
 have hh : Hid (∀ o1 o2 o3, _) := hide (heap3 w)
 go_enter Tryz.func73, Tryz.ntmps73
 go_wp2_with (refine wpList_load_row rfl 22 _ rfl w.heap.size rfl 22 B (0, 0) _ (unhide hh _ _ _).1 Tryz.underlying22 rfl (by rw [unhide hs']; exact info64) ?_)
 go_loopg [9] 64 (fun g n wr => ∃ k : Nat, k + g = 64 ∧ n = .int .i64 k ∧ (∀ j, j < k → okY (z j) = true) ∧ ∃ (M : Array Value) (d : Nat), IsMen (layS z k) M ∧ wr = (((w.alloc (.cells B 22)).alloc (.cells Z12 151)).alloc (.cells M 151)).drewN d)
 case atStart => exact ⟨0, rfl, rfl, fun j hj => absurd hj (Nat.not_lt_zero j), Z12, 0, isMen_0 z, rfl⟩
 case round =>
  obtain ⟨k, k1, rfl, k3, M, d, hM, rfl⟩ := hrel
  have k3' := hide k3
  have hM' := hide hM
  have hMs := hM.1
  clear k3 hM
  by_cases hlt : k < 64
  ·have hix := ix64 B k hlt _ (unhide hB' k hlt)
   have hk0 : (0 : Int) ≤ (k : Int) := by omega
   have hk6 : (k : Int) < 64 := by omega
   by_cases hdot : z k = 46
   ·have hz46 : ((z k).toNat : Int) = 46 := by rw [hdot]; rfl
    rw [hz46] at hix
    go_wp2
    go_roundg (gk - 1)
    case measure => omega
    case rel => exact ⟨k + 1, by omega, by go_num, (by
     intro j hj
     by_cases hjk : j = k
     ·subst hjk; unfold okY; rw [hdot]; rfl
     ·exact unhide k3' j (by omega)), M, d, isMen_skip (by rw [hdot, ib_dot]; decide) (unhide hM'), rfl⟩
   ·have hz46 : (((z k).toNat : Int) == 46) = false := by
     rw [beq_eq_false_iff_ne]
     intro h
     apply hdot
     apply UInt8.toNat_inj.1
     have : (z k).toNat = 46 := by omega
     rw [this]; rfl
    have hdot' := hide hdot
    clear hdot
    have hu : ((z k).toNat : Int).toNat.toUInt8 = z k := by simp
    have hl0 : Hid (okY (z k) = decide (0 ≤ Lib.indexByte lettersL (z k))) := hide (by unfold okY; rw [beq_eq_false_iff_ne.2 (unhide hdot'), Bool.false_or])
    have h12 := ib_lt (z k)
    have hie : Hid (Lib.indexByte lettersL (z k) = Lib.indexByte lettersL (z k)) := hide rfl
    generalize hix2 : Lib.indexByte lettersL (z k) = ix at hl0 h12
    have hixe := hide hix2
    have hix' : Lib.indexByte [80, 78, 66, 82, 81, 75, 112, 110, 98, 114, 113, 107] (z k) = ix := hix2
    clear hix2 hie
    by_cases hneg : ix < 0
    ·have hbad : Hid (layOk z = false) := hide (layOk_bad hlt (by rw [unhide hl0]; exact decide_eq_false (by omega)))
     go_wp2_with (first | (go_at_call 138; refine (Tryz.strings_IndexByte _ _ _).mono ?_; rintro e w' ⟨rfl, rfl⟩) | (refine wpList_store_row rfl 151 _ _ rfl (w.heap.size + 1) Z12 rfl rfl 151 Z12 (unhide hh _ _ _).2.1 info12 rfl (isMen_0 z).ones ?_))
     exact bodyPost_ret (v := .tuple #[.agg Z12, .bool false]) (results_cell_tmp Tryz.results73 _ _ (w.heap.size + 1) 151 Z12 (0, 0) _ rfl (setRow_heap _ _ _ _ _ _ (unhide hh _ _ _).2.1) Tryz.underlying151 rfl info12) rfl ⟨⟨Z12, by rw [unhide hbad], ⟨_, isMen_0 z⟩, fun h => by rw [unhide hbad] at h; cases h⟩, (Gr.drewN ((((Gr.refl w).alloc _ _).alloc _ _).alloc _ _) _).setRow _ (by omega) _⟩
    ·obtain ⟨p, rfl⟩ : ∃ p : Nat, ix = p := ⟨ix.toNat, by omega⟩
     have hp : p < 12 := by omega
     have hp0 : (0 : Int) ≤ (p : Int) := by omega
     have hp12 : (p : Int) < 12 := by omega
     have hcell : (((w.alloc (.cells B 22)).alloc (.cells Z12 151)).alloc (.cells M 151)).cell? ⟨w.heap.size + 1 + 1, p, none⟩ = some (.int .u64 (U (layS z k p))) := by
      rw [cell_of_row _ _ _ _ _ _ (unhide hh _ _ _).2.2]; exact (unhide hM').2 p hp
     have hor : bits .or .u64 (U (layS z k p)) (oneI (k : Int)) = U (layS z (k + 1) p) := by rw [one_U k hlt, or_U, layS_hit (unhide hixe)]
     go_wp2_with (go_at_call 138; refine (Tryz.strings_IndexByte _ _ _).mono ?_; rintro e w' ⟨rfl, rfl⟩)
     have hone := hide (one_any (k : Int) hk0 (by omega))
     go_region_with (go_at_call 139; refine (unhide hone _).mono ?_; rintro e w' ⟨rfl, rfl⟩)
     all_goals
      go_wp2
      go_roundg (gk - 1)
      case measure => omega
      case rel => exact ⟨k + 1, by omega, by go_num, (by
       intro j hj
       by_cases hjk : j = k
       ·subst hjk; rw [unhide hl0]; exact decide_eq_true (by omega)
       ·exact unhide k3' j (by omega)), _, _, isMen_put hp (unhide hixe) (unhide hM'), rfl⟩
  ·have ek : k = 64 := by omega
   subst ek
   have hall := hide (layOk_all (unhide k3'))
   go_wp2_with (first | (refine wpList_load_row rfl 151 _ rfl (w.heap.size + 2) rfl 151 M (0, 0) _ (unhide hh _ _ _).2.2 Tryz.underlying151 rfl (unhide hM').info ?_) | (refine wpList_store_row rfl 151 _ _ rfl (w.heap.size + 1) M rfl rfl 151 Z12 (unhide hh _ _ _).2.1 (unhide hM').info hMs.symm (unhide hM').ones ?_))
   exact bodyPost_ret (v := .tuple #[.agg M, .bool true]) (results_cell_tmp Tryz.results73 _ _ (w.heap.size + 1) 151 M (0, 0) _ rfl (setRow_heap _ _ _ _ _ _ (unhide hh _ _ _).2.1) Tryz.underlying151 rfl (unhide hM').info) rfl ⟨⟨M, by rw [unhide hall], ⟨_, unhide hM'⟩, fun _ => unhide hM'⟩, (Gr.drewN ((((Gr.refl w).alloc _ _).alloc _ _).alloc _ _) _).setRow _ (by omega) _⟩
structure Row (z : Nat → UInt8) (wh : Bool) (f : Nat → Bool) (b h g : Int) (PA : Array Value) : Prop where
 size : PA.size = 72
 sq : ∀ i, i < 64 → PA[i]? = some (.int .u8 ((z i).toNat : Int))
 wh : PA[64]? = some (.bool wh)
 c : ∀ i, i < 4 → PA[65 + i]? = some (.bool (f i))
 b : PA[69]? = some (.int .i64 b)
 h : PA[70]? = some (.int .i64 h)
 g : PA[71]? = some (.int .i64 g)
def clkOk (h g : Int) : Bool := decide (0 ≤ h) && decide (h ≤ 65535) && decide (1 ≤ g) && decide (g ≤ 65535)
set_option maxRecDepth 100000 in
set_option maxHeartbeats 4000000 in
theorem clocks_any {z : Nat → UInt8} {wh : Bool} {f : Nat → Bool} {b h g : Int} {PA : Array Value} (r : Row z wh f b h g PA) (w : World) : Calls Tryz.prog 77 #[.agg PA] w fun e w' => e = .returned (.bool (clkOk h g)) ∧ Gr w w' := by
 have hc70 : (w.alloc (.cells PA 25)).cell? ⟨w.heap.size, 70, none⟩ = some (.int .i64 h) := by rw [World.cell?_alloc_at _ _ _ _ rfl]; exact r.h
 have hc71 : (w.alloc (.cells PA 25)).cell? ⟨w.heap.size, 71, none⟩ = some (.int .i64 g) := by rw [World.cell?_alloc_at _ _ _ _ rfl]; exact r.g
 clear r
 obtain ⟨v, hv⟩ : ∃ v, Hid (clkOk h g = v) := ⟨_, hide rfl⟩
 rw [unhide hv]
 by_cases h0 : 0 ≤ h
 ·by_cases h1 : h ≤ 65535
  ·by_cases g0 : 1 ≤ g
   ·by_cases g1 : g ≤ 65535
    ·have e : true = v := by rw [← unhide hv]; simp [clkOk, h0, h1, g0, g1]
     subst e
     clear hv
     go_enter Tryz.func77, Tryz.ntmps77
     go_wp2
     go_ret
     exact ⟨rfl, (Gr.refl _).alloc _ _⟩
    ·have e : false = v := by rw [← unhide hv]; simp [clkOk, g1]
     subst e
     clear hv
     go_enter Tryz.func77, Tryz.ntmps77
     go_wp2
     go_ret
     exact ⟨rfl, (Gr.refl _).alloc _ _⟩
   ·have e : false = v := by rw [← unhide hv]; simp [clkOk, g0]
    subst e
    clear hv
    go_enter Tryz.func77, Tryz.ntmps77
    go_wp2
    go_ret
    exact ⟨rfl, (Gr.refl _).alloc _ _⟩
  ·have e : false = v := by rw [← unhide hv]; simp [clkOk, h1]
   subst e
   clear hv
   go_enter Tryz.func77, Tryz.ntmps77
   go_wp2
   go_ret
   exact ⟨rfl, (Gr.refl _).alloc _ _⟩
 ·have e : false = v := by rw [← unhide hv]; simp [clkOk, h0]
  subst e
  clear hv
  go_enter Tryz.func77, Tryz.ntmps77
  go_wp2
  go_ret
  exact ⟨rfl, (Gr.refl _).alloc _ _⟩
end Go.Proofs.YtnfakamfmkhlbaaGreatDoor.C
