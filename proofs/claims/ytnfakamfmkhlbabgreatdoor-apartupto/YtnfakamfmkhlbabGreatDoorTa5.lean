import Derived.Test.YtnfakamfmkhlbabGreatDoorTa4
import Derived.Test.YtnfakamfmkhlbabGreatDoorTa2
import Derived.Stop.RegionWithIn
import Derived.Test.YtnfakamfmkhlbabGreatDoorProg
import Derived.Conc.MuLib
import Derived.KernelRfl
import Derived.Conc.MuLone
import Derived.Test.YtnfakamfmkhlbabGreatDoorTa3
namespace Go.Proofs.YtnfakamfmkhlbabGreatDoor.C

open Go.ChangeShapes Go.WideShapes Go.ChangeAt Go.RowKit Go.Shelf

open Go.Proofs.YtnfakamfmkhlbabGreatDoor.P

attribute [local go_sem] setCell_drewN alloc_drewN Oper.semAt_some

/-! game.CanMove; brief.ending -/

structure Bq (w : World) (PA : Array Value) (W : World) : Prop where
  c0 : W.cell? ⟨w.heap.size, 0, none⟩ = some (.func (.func 60) #[] #[])
  c1 : W.cell? ⟨w.heap.size, 1, none⟩ = some (.func (.func 61) #[] #[])
  pa : W.heap[w.heap.size + 1]? = some (.cells PA 70)
  gr : Gr w W

theorem Bq.next {w W W' : World} {PA : Array Value} (h : Bq w PA W) (g : Gr W W') : Bq w PA W' :=
  ⟨(Below.cell g (World.block_lt_of_cell? W _ h.c0)).trans h.c0, (Below.cell g (World.block_lt_of_cell? W _ h.c1)).trans h.c1, (Below.block g _ (Array.getElem?_eq_some_iff.1 h.pa).1).trans h.pa, Gr.trans h.gr g⟩

theorem bq_start (w : World) (PA : Array Value) : Bq w PA ((w.alloc (.cells setA 74)).alloc (.cells PA 70)) := by
  obtain ⟨e1, e2⟩ := heapTwo w (.cells setA 74) (.cells PA 70)
  exact ⟨by rw [cell_of_row _ _ _ _ _ _ e1]; rfl, by rw [cell_of_row _ _ _ _ _ _ e1]; rfl, e2, ((Gr.refl w).alloc _ _).alloc _ _⟩

set_option linter.unusedSimpArgs false in
set_option maxRecDepth 100000 in
set_option maxHeartbeats 800000 in
theorem canMove_any {z : Nat → UInt8} {wh : Bool} {fc : Nat → Bool} {b h g : Int} {PA : Array Value} (r : Row z wh fc b h g PA) (hok : layOk z = true) (hb0 : -1 ≤ b) (hb1 : b ≤ 63) (w : World) (hT : TabIn w) (hC : CasTab w) :
    Calls Tryz.prog 125 #[.agg setA, .agg PA] w fun e w' => e = .returned (.bool (!(movS z wh fc b).isEmpty)) ∧ Gr w w' := by
  have hmk := hide (mkS r hok hb0 hb1 w hT hC)
  have hi72 : (Tryz.prog.info? 70).map (·.size) = some PA.size := by rw [r.size]; exact infoP72
  have hq := hide (bq_start w PA)
  obtain ⟨⟨f, t, u⟩, hhd⟩ : ∃ x, Hid ((movS z wh fc b).headD (0, 0, 0) = x) := ⟨_, hide rfl⟩
  have hfst : Hid (∀ (lb : Array Value) (C : Nat → Prop) (W : World), (∀ k, C k → k < W.heap.size) → It Tryz.prog 128 lb encM (fun _ => False) C (movS z wh fc b) W → Calls Tryz.prog 66 #[.func (.func 128) #[] lb] W fun e w' => e = .returned (.tuple #[.agg #[.int .i64 (f : Int), .int .i64 (t : Int), .int .u8 (u.toNat : Int)], .bool (!(movS z wh fc b).isEmpty)]) ∧ Gr W w') := hide fun lb C W hCb hit => (first_any hit (unhide hmk).ei hCb).mono fun e w' k => ⟨by rw [k.1, unhide hhd]; rfl, k.2⟩
  generalize (!(movS z wh fc b).isEmpty) = R at hfst ⊢
  clear hhd
  simp only [setA, wayA] at hq ⊢
  go_enter Tryz.func125, Tryz.ntmps125
  go_upto_region 1 with fail
  show Code.wp _ _ _ _ ((w.alloc (.cells #[.func (.func 60) #[] #[], .func (.func 61) #[] #[]] 74)).alloc (.cells PA 70))
  generalize ((w.alloc (.cells #[.func (.func 60) #[] #[], .func (.func 61) #[] #[]] 74)).alloc (.cells PA 70)) = w0 at hq ⊢
  have c1 := (unhide hq).c1
  have hpa := (unhide hq).pa
  have hgq := (unhide hq).gr
  clear r hok hT hC
  go_upto_region 2 with (first
    | (go_at_call 61; refine ((unhide hmk).go (fun _ => False) (fun _ q => q.elim) _ hgq).mono ?_; rintro e w2 ⟨lb, C, rfl, hg2, hCb, hit⟩)
    | (go_at_call 66; refine (unhide hfst lb C _ hCb hit).mono ?_; rintro e w3 ⟨rfl, hg3⟩)
    | (refine wpList_load_row rfl 70 _ rfl (w.heap.size + 1) rfl 70 PA (0, 0) _ hpa Tryz.underlying70 rfl hi72 ?_))
  have hgf := hide (Gr.trans (Gr.trans (Gr.trans hgq hg2) hg3) ((Gr.refl w3).alloc #[.int .i64 (f : Int), .int .i64 (t : Int), .int .u8 (u.toNat : Int)] 87))
  clear hit hCb hg2 hg3 hfst hmk hq hgq hpa c1
  go_wp2_with fail
  go_ret
  exact ⟨rfl, unhide hgf⟩

def endT (c n : Bool) : List UInt8 := if c = false then [] else if n = true then [43] else [35]

set_option linter.unusedSimpArgs false in
set_option maxRecDepth 100000 in
set_option maxHeartbeats 800000 in
theorem ending_any {z : Nat → UInt8} {wh : Bool} {fc : Nat → Bool} {b h g : Int} {PA : Array Value} (r : Row z wh fc b h g PA) (hok : layOk z = true) (hb0 : -1 ≤ b) (hb1 : b ≤ 63) (k0 : 0 ≤ kingR z wh) (k1 : kingR z wh ≤ 63) (w : World) (hT : TabIn w) (hC : CasTab w) :
    Calls Tryz.prog 59 #[.agg setA, .agg PA] w fun e w' => e = .returned (.string (str (endT (chkS z wh) (!(movS z wh fc b).isEmpty)))) ∧ Gr w w' := by
  have hchk := hide (fun W => checkQ_any r hok k0 k1 W)
  have hcan := hide (fun W (gW : Gr w W) => canMove_any r hok hb0 hb1 W (hT.gr gW) (hC.gr gW))
  have hi72 : (Tryz.prog.info? 70).map (·.size) = some PA.size := by rw [r.size]; exact infoP72
  have hq := hide (bq_start w PA)
  generalize (!(movS z wh fc b).isEmpty) = R at hcan ⊢
  generalize chkS z wh = c at hchk ⊢
  clear r hok hT hC k0 k1
  simp only [setA, wayA] at hq hchk hcan ⊢
  cases c with
  | false =>
    go_enter Tryz.func59, Tryz.ntmps59
    go_upto_region 1 with fail
    show Code.wp _ _ _ _ ((w.alloc (.cells #[.func (.func 60) #[] #[], .func (.func 61) #[] #[]] 74)).alloc (.cells PA 70))
    generalize ((w.alloc (.cells #[.func (.func 60) #[] #[], .func (.func 61) #[] #[]] 74)).alloc (.cells PA 70)) = w0 at hq ⊢
    have c0 := (unhide hq).c0
    have c1 := (unhide hq).c1
    have hpa := hide (unhide hq).pa
    go_wp2_with (first
      | (go_at_call 124; refine (unhide hchk _).mono ?_; rintro e w2 ⟨rfl, hg2⟩)
      | (refine wpList_load_row rfl 70 _ rfl (w.heap.size + 1) rfl 70 PA (0, 0) _ (unhide hpa) Tryz.underlying70 rfl hi72 ?_))
    have hgf := hide (Gr.trans (unhide hq).gr hg2)
    clear hg2 hq hpa c0 c1 hchk hcan
    go_ret
    exact ⟨rfl, unhide hgf⟩
  | true =>
    go_enter Tryz.func59, Tryz.ntmps59
    go_upto_region 1 with fail
    show Code.wp _ _ _ _ ((w.alloc (.cells #[.func (.func 60) #[] #[], .func (.func 61) #[] #[]] 74)).alloc (.cells PA 70))
    generalize ((w.alloc (.cells #[.func (.func 60) #[] #[], .func (.func 61) #[] #[]] 74)).alloc (.cells PA 70)) = w0 at hq ⊢
    have c0 := (unhide hq).c0
    have c1 := (unhide hq).c1
    have hpa := hide (unhide hq).pa
    go_upto_region 3 with (first
      | (go_at_call 124; refine (unhide hchk _).mono ?_; rintro e w2 ⟨rfl, hg2⟩)
      | (refine wpList_load_row rfl 70 _ rfl (w.heap.size + 1) rfl 70 PA (0, 0) _ (unhide hpa) Tryz.underlying70 rfl hi72 ?_))
    have hq2 := hide ((unhide hq).next hg2)
    clear hg2 hq hpa c0 c1 hchk
    have c0 := (unhide hq2).c0
    have c1 := (unhide hq2).c1
    have hpa := hide (unhide hq2).pa
    cases R with
    | false =>
      go_wp2_with (first
        | (go_at_call 125; refine (unhide hcan _ (unhide hq2).gr).mono ?_; rintro e w3 ⟨rfl, hg3⟩)
        | (refine wpList_load_row rfl 70 _ rfl (w.heap.size + 1) rfl 70 PA (0, 0) _ (unhide hpa) Tryz.underlying70 rfl hi72 ?_))
      have hgf := hide (Gr.trans (unhide hq2).gr hg3)
      go_ret
      exact ⟨rfl, unhide hgf⟩
    | true =>
      go_wp2_with (first
        | (go_at_call 125; refine (unhide hcan _ (unhide hq2).gr).mono ?_; rintro e w3 ⟨rfl, hg3⟩)
        | (refine wpList_load_row rfl 70 _ rfl (w.heap.size + 1) rfl 70 PA (0, 0) _ (unhide hpa) Tryz.underlying70 rfl hi72 ?_))
      have hgf := hide (Gr.trans (unhide hq2).gr hg3)
      go_ret
      exact ⟨rfl, unhide hgf⟩

end Go.Proofs.YtnfakamfmkhlbabGreatDoor.C

namespace Go.Proofs.YtnfakamfmkhlbabGreatDoor.C

open Go.ChangeShapes Go.WideShapes Go.ChangeAt Go.RowKit Go.Shelf

open Go.Proofs.YtnfakamfmkhlbabGreatDoor.P

attribute [local go_sem] setCell_drewN alloc_drewN Oper.semAt_some

/-! brief: a piece's move; without the ending; whole -/

theorem whT_len (L : List Mv) (f : Nat) : (whT L f).length ≤ 2 := by
  unfold whT
  by_cases h1 : L.isEmpty = true
  · rw [if_pos h1]; simp
  · rw [if_neg h1]
    by_cases h2 : L.all (fun y => !decide (y.1 % 8 = f % 8)) = true
    · rw [if_pos h2]; simp
    · rw [if_neg h2]
      by_cases h3 : L.all (fun y => !decide (y.1 / 8 = f / 8)) = true
      · rw [if_pos h3]; simp
      · rw [if_neg h3, name_is]; simp

structure Bm (w : World) (PA M : Array Value) (W : World) : Prop where
  c0 : W.cell? ⟨w.heap.size, 0, none⟩ = some (.func (.func 60) #[] #[])
  c1 : W.cell? ⟨w.heap.size, 1, none⟩ = some (.func (.func 61) #[] #[])
  pa : W.heap[w.heap.size + 1]? = some (.cells PA 70)
  mv : W.heap[w.heap.size + 1 + 1]? = some (.cells M 87)
  gr : Gr w W

theorem Bm.next {w W W' : World} {PA M : Array Value} (h : Bm w PA M W) (g : Gr W W') : Bm w PA M W' :=
  ⟨(Below.cell g (World.block_lt_of_cell? W _ h.c0)).trans h.c0, (Below.cell g (World.block_lt_of_cell? W _ h.c1)).trans h.c1, (Below.block g _ (Array.getElem?_eq_some_iff.1 h.pa).1).trans h.pa, (Below.block g _ (Array.getElem?_eq_some_iff.1 h.mv).1).trans h.mv, Gr.trans h.gr g⟩

theorem Bm.start (w : World) (PA M : Array Value) : Bm w PA M (((w.alloc (.cells setA 74)).alloc (.cells PA 70)).alloc (.cells M 87)) := by
  have g1 : Gr (w.alloc (.cells setA 74)) (((w.alloc (.cells setA 74)).alloc (.cells PA 70)).alloc (.cells M 87)) := ((Gr.refl _).alloc _ _).alloc _ _
  have e1 := (Below.block g1 w.heap.size (by rw [World.size_alloc]; omega)).trans (World.alloc_heap_new w _)
  obtain ⟨e2, e3⟩ := heapTwo (w.alloc (.cells setA 74)) (.cells PA 70) (.cells M 87)
  rw [World.size_alloc] at e2 e3
  exact ⟨by rw [cell_of_row _ _ _ _ _ _ e1]; rfl, by rw [cell_of_row _ _ _ _ _ _ e1]; rfl, e2, e3, Gr.trans ((Gr.refl w).alloc _ _) g1⟩

theorem Bm.cells {w W : World} {PA : Array Value} {z : Nat → UInt8} {wh : Bool} {fc : Nat → Bool} {b h g : Int} {f t : Nat} {u : UInt8} (hf : f < 64) (ht : t < 64) (r : Row z wh fc b h g PA) (q : Bm w PA #[.int .i64 (f : Int), .int .i64 (t : Int), .int .u8 (u.toNat : Int)] W) :
    W.cell? ⟨w.heap.size, 0, none⟩ = some (.func (.func 60) #[] #[]) ∧ W.cell? ⟨w.heap.size, 1, none⟩ = some (.func (.func 61) #[] #[]) ∧ W.heap[w.heap.size + 1]? = some (.cells PA 70) ∧ W.cell? ⟨w.heap.size + 1 + 1, 0, none⟩ = some (.int .i64 (f : Int)) ∧ W.cell? ⟨w.heap.size + 1 + 1, 1, none⟩ = some (.int .i64 (t : Int)) ∧ W.cell? ⟨w.heap.size + 1 + 1, 2, none⟩ = some (.int .u8 (u.toNat : Int)) ∧ W.cell? ⟨w.heap.size + 1, f, none⟩ = some (.int .u8 ((z f).toNat : Int)) ∧ W.cell? ⟨w.heap.size + 1, t, none⟩ = some (.int .u8 ((z t).toNat : Int)) := by
  obtain ⟨m0, m1, m2⟩ := mv_cells q.mv
  exact ⟨q.c0, q.c1, q.pa, m0, m1, m2, by rw [cell_of_row _ _ _ _ _ _ q.pa]; exact r.sq f hf, by rw [cell_of_row _ _ _ _ _ _ q.pa]; exact r.sq t ht⟩

set_option linter.unusedSimpArgs false in
set_option maxRecDepth 100000 in
set_option maxHeartbeats 1000000 in
theorem pieceMove_any {z : Nat → UInt8} {wh : Bool} {fc : Nat → Bool} {b h g : Int} {PA : Array Value} (r : Row z wh fc b h g PA) (hok : layOk z = true) (hb0 : -1 ≤ b) (hb1 : b ≤ 63) (f t : Nat) (hf : f < 64) (ht : t < 64) (u : UInt8) (hz : (z f).toNat < 128) (w : World) (hT : TabIn w) (hC : CasTab w) :
    Calls Tryz.prog 123 #[.agg setA, .agg PA, .agg #[.int .i64 (f : Int), .int .i64 (t : Int), .int .u8 (u.toNat : Int)]] w fun e w' => e = .returned (.string (str (pieceT (movS z wh fc b) z f t))) ∧ Gr w w' := by
  have hgr := hide (fun W => great_any (z f) hz W)
  have hwh := hide (fun W (gW : Gr w W) => which_any r hok hb0 hb1 f t hf u W (hT.gr gW) (hC.gr gW))
  have hN := hide (fun W => nameG_any t ht W)
  have hi72 : (Tryz.prog.info? 70).map (·.size) = some PA.toList.length := by rw [Array.length_toList, r.size]; exact infoP72
  have hq := Bm.start w PA #[.int .i64 (f : Int), .int .i64 (t : Int), .int .u8 (u.toNat : Int)]
  have hlw : (whT (othB (movS z wh fc b) z f t) f).length ≤ 2 := whT_len _ _
  have hzt : (z t = 46 ∧ ((z t).toNat : Int) = 46) ∨ (z t ≠ 46 ∧ ((z t).toNat : Int) ≠ 46) := by
    by_cases e : z t = 46
    · exact .inl ⟨e, by rw [e]; rfl⟩
    · exact .inr ⟨e, fun q => e (UInt8.toNat_inj.1 (by have : (46 : UInt8).toNat = 46 := rfl; omega))⟩
  unfold pieceT
  generalize whT (othB (movS z wh fc b) z f t) f = wt at hwh hlw ⊢
  have r1 := hide (fun W => add_run [upc (z f)] wt (by simp; omega) W)
  have r2 := hide (fun W => add_run ([upc (z f)] ++ wt) [120] (by simp; omega) W)
  have r3 := hide (fun W => add_run ([upc (z f)] ++ wt) [fileC t, rankC t] (by simp; omega) W)
  have r4 := hide (fun W => add_run ([upc (z f)] ++ wt ++ [120]) [fileC t, rankC t] (by simp; omega) W)
  have z1 : Hid (z t = 46 → str (upc (z f) :: (wt ++ (if z t = 46 then [] else [120]) ++ nameS t)) = str ([upc (z f)] ++ wt ++ [fileC t, rankC t])) := hide (fun a => by rw [if_pos a, List.append_nil]; rfl)
  have z2 : Hid (z t ≠ 46 → str (upc (z f) :: (wt ++ (if z t = 46 then [] else [120]) ++ nameS t)) = str ([upc (z f)] ++ wt ++ [120] ++ [fileC t, rankC t])) := hide (fun a => by rw [if_neg a]; rfl)
  obtain ⟨RS, hRS⟩ : ∃ x, Hid (str (upc (z f) :: (wt ++ (if z t = 46 then [] else [120]) ++ nameS t)) = x) := ⟨_, hide rfl⟩
  rw [unhide hRS] at z1 z2 ⊢
  generalize str ([upc (z f)] ++ wt ++ [120] ++ [fileC t, rankC t]) = S4 at r4 z2
  generalize str ([upc (z f)] ++ wt ++ [fileC t, rankC t]) = S3 at r3 z1
  generalize str ([upc (z f)] ++ wt ++ [120]) = S2 at r2 r4
  generalize str ([upc (z f)] ++ wt) = S1 at r1 r2 r3
  generalize str [upc (z f)] = UC at r1 hgr
  generalize str wt = WT at r1 hwh
  generalize str [fileC t, rankC t] = NT at r3 r4 hN
  have r1' : ∀ W, (Op.stringOp .add UC WT).run Tryz.prog W = .ok (.string S1) W := unhide r1
  have r2' : ∀ W, (Op.stringOp .add S1 ⟨#[120]⟩).run Tryz.prog W = .ok (.string S2) W := unhide r2
  have r3' : ∀ W, (Op.stringOp .add S1 NT).run Tryz.prog W = .ok (.string S3) W := unhide r3
  have r4' : ∀ W, (Op.stringOp .add S2 NT).run Tryz.prog W = .ok (.string S4) W := unhide r4
  clear r1 r2 r3 r4 hRS hT hC hlw hok hb0 hb1
  have b64 : ¬ (64 ≤ (f : Int)) := by omega
  have t64 : ¬ (64 ≤ (t : Int)) := by omega
  simp only [setA, wayA] at hq hwh ⊢
  go_enter Tryz.func123, Tryz.ntmps123
  go_upto_region 1 with fail
  show Code.wp _ _ _ _ (((w.alloc (.cells #[.func (.func 60) #[] #[], .func (.func 61) #[] #[]] 74)).alloc (.cells PA 70)).alloc (.cells #[.int .i64 (f : Int), .int .i64 (t : Int), .int .u8 (u.toNat : Int)] 87))
  generalize (((w.alloc (.cells #[.func (.func 60) #[] #[], .func (.func 61) #[] #[]] 74)).alloc (.cells PA 70)).alloc (.cells #[.int .i64 (f : Int), .int .i64 (t : Int), .int .u8 (u.toNat : Int)] 87)) = wA at hq ⊢
  refine wp_region_held_drew (S := Bm w PA #[.int .i64 (f : Int), .int .i64 (t : Int), .int .u8 (u.toNat : Int)]) (by kernel_rfl) (hq.next (Gr.refl _).drew) (fun hHeld => ?_)
  refine wpAnyH_take (i := 0) (v := .pointer (some ⟨w.heap.size + 1 + 1, 0, none⟩)) rfl (by kernel_rfl) (by kernel_rfl) (by kernel_rfl) (fun _ _ _ h => h) (Or.inl ⟨by rfl, fun w hw => (by obtain ⟨c0, c1, pa, m0, m1, m2, cf, ct⟩ := Bm.cells hf ht r hw; go_simp)⟩) hHeld ?_
  simp only [Act.put, List.getElem_toArray, List.getElem_cons_zero, List.getElem_cons_succ, List.setIfInBounds_toArray, List.set_cons_zero, List.set_cons_succ]
  refine wpAnyH_take (i := 1) (v := .int .i64 (f : Int)) rfl (by kernel_rfl) (by kernel_rfl) (by kernel_rfl) (fun _ _ _ h => h) (Or.inl ⟨by rfl, fun w hw => (by obtain ⟨c0, c1, pa, m0, m1, m2, cf, ct⟩ := Bm.cells hf ht r hw; go_simp)⟩) hHeld ?_
  simp only [Act.put, List.getElem_toArray, List.getElem_cons_zero, List.getElem_cons_succ, List.setIfInBounds_toArray, List.set_cons_zero, List.set_cons_succ]
  refine wpAnyH_take (i := 2) (v := .pointer (some ⟨w.heap.size + 1, 0, none⟩)) rfl (by kernel_rfl) (by kernel_rfl) (by kernel_rfl) (fun _ _ _ h => h) (Or.inl ⟨by rfl, fun w hw => (by obtain ⟨c0, c1, pa, m0, m1, m2, cf, ct⟩ := Bm.cells hf ht r hw; go_simp)⟩) hHeld ?_
  simp only [Act.put, List.getElem_toArray, List.getElem_cons_zero, List.getElem_cons_succ, List.setIfInBounds_toArray, List.set_cons_zero, List.set_cons_succ]
  refine wpAnyH_take (i := 3) (v := .pointer (some ⟨w.heap.size + 1, f, none⟩)) rfl (by kernel_rfl) (by kernel_rfl) (by kernel_rfl) (fun _ _ _ h => h) (Or.inl ⟨by rfl, fun w hw => (by obtain ⟨c0, c1, pa, m0, m1, m2, cf, ct⟩ := Bm.cells hf ht r hw; go_simp)⟩) hHeld ?_
  simp only [Act.put, List.getElem_toArray, List.getElem_cons_zero, List.getElem_cons_succ, List.setIfInBounds_toArray, List.set_cons_zero, List.set_cons_succ]
  refine wpAnyH_take (i := 4) (v := .int .u8 ((z f).toNat : Int)) rfl (by kernel_rfl) (by kernel_rfl) (by kernel_rfl) (fun _ _ _ h => h) (Or.inl ⟨by rfl, fun w hw => (by obtain ⟨c0, c1, pa, m0, m1, m2, cf, ct⟩ := Bm.cells hf ht r hw; go_simp)⟩) hHeld ?_
  simp only [Act.put, List.getElem_toArray, List.getElem_cons_zero, List.getElem_cons_succ, List.setIfInBounds_toArray, List.set_cons_zero, List.set_cons_succ]
  refine wpAnyH_take (i := 6) (v := .agg #[.func (.func 60) #[] #[], .func (.func 61) #[] #[]]) rfl (by kernel_rfl) (by kernel_rfl) (by kernel_rfl) (fun _ _ _ h => h) (Or.inl ⟨by rfl, fun w hw => (by obtain ⟨c0, c1, pa, m0, m1, m2, cf, ct⟩ := Bm.cells hf ht r hw; go_simp)⟩) hHeld ?_
  simp only [Act.put, List.getElem_toArray, List.getElem_cons_zero, List.getElem_cons_succ, List.setIfInBounds_toArray, List.set_cons_zero, List.set_cons_succ]
  refine wpAnyH_take (i := 7) (v := .agg PA) rfl (by kernel_rfl) (by kernel_rfl) (by kernel_rfl) (fun _ _ _ h => h) (y_pos3 hi72 (by rfl) _ rfl (w.heap.size + 1) rfl (fun _ h => h.pa)) hHeld ?_
  simp only [Act.put, List.getElem_toArray, List.getElem_cons_zero, List.getElem_cons_succ, List.setIfInBounds_toArray, List.set_cons_zero, List.set_cons_succ]
  refine wpAnyH_take (i := 8) (v := .agg #[.int .i64 (f : Int), .int .i64 (t : Int), .int .u8 (u.toNat : Int)]) rfl (by kernel_rfl) (by kernel_rfl) (by kernel_rfl) (fun _ _ _ h => h) (Or.inl ⟨by rfl, fun w hw => (by obtain ⟨c0, c1, pa, m0, m1, m2, cf, ct⟩ := Bm.cells hf ht r hw; go_simp)⟩) hHeld ?_
  simp only [Act.put, List.getElem_toArray, List.getElem_cons_zero, List.getElem_cons_succ, List.setIfInBounds_toArray, List.set_cons_zero, List.set_cons_succ]
  refine wpAnyH_ready (rs := [5]) (by kernel_rfl) (by simp) ?_
  refine AllReadyH.cons rfl (fun K hK => ?_) AllReadyH.nil
  go_simp
  refine (unhide hgr _).mono ?_
  rintro e wc ⟨rfl, hgc⟩
  refine hK.out _ _ (hHeld.next hgc) (fun hHeld => ?_)
  clear hK K hgc
  try simp only [Act.put, List.getElem_toArray, List.getElem_cons_zero, List.getElem_cons_succ, List.setIfInBounds_toArray, List.set_cons_zero, List.set_cons_succ]
  refine wpAnyH_ready (rs := [9]) (by kernel_rfl) (by simp) ?_
  refine AllReadyH.cons rfl (fun K hK => ?_) AllReadyH.nil
  go_simp
  refine (unhide hwh _ hHeld.gr).mono ?_
  rintro e wc ⟨rfl, hgc⟩
  refine hK.out _ _ (hHeld.next hgc) (fun hHeld => ?_)
  clear hK K hgc
  try simp only [Act.put, List.getElem_toArray, List.getElem_cons_zero, List.getElem_cons_succ, List.setIfInBounds_toArray, List.set_cons_zero, List.set_cons_succ]
  refine wpAnyH_take (i := 10) (v := .string S1) rfl (by kernel_rfl) (by kernel_rfl) (by kernel_rfl) (fun _ _ _ h => h) (Or.inl ⟨by rfl, fun w hw => (by obtain ⟨c0, c1, pa, m0, m1, m2, cf, ct⟩ := Bm.cells hf ht r hw; go_simp)⟩) hHeld ?_
  simp only [Act.put, List.getElem_toArray, List.getElem_cons_zero, List.getElem_cons_succ, List.setIfInBounds_toArray, List.set_cons_zero, List.set_cons_succ]
  refine wpAnyH_ready (rs := [11]) (by kernel_rfl) (by simp) ?_
  refine AllReadyH.cons rfl (fun K hK => ?_) AllReadyH.nil
  go_simp
  refine hK.out _ _ hHeld (fun hHeld => ?_)
  clear hK K
  try simp only [Act.put, List.getElem_toArray, List.getElem_cons_zero, List.getElem_cons_succ, List.setIfInBounds_toArray, List.set_cons_zero, List.set_cons_succ]
  refine wpAnyH_done (by kernel_rfl) ?_ _
  obtain ⟨c0, c1, pa, m0, m1, m2, cf, ct⟩ := Bm.cells hf ht r hHeld
  rcases hzt with ⟨e1, e2⟩ | ⟨e1, e2⟩
  · have hz' := hide (unhide z1 e1)
    clear z1 z2
    go_wp2_with (go_at_call 69; refine (unhide hN _).mono ?_; rintro e w5 ⟨rfl, hg5⟩)
    have hgf := hide (Gr.trans hHeld.gr hg5)
    clear hHeld hg5
    go_ret
    exact ⟨by rw [unhide hz']; rfl, unhide hgf⟩
  · have hz' := hide (unhide z2 e1)
    clear z1 z2
    go_wp2_with (go_at_call 69; refine (unhide hN _).mono ?_; rintro e w5 ⟨rfl, hg5⟩)
    have hgf := hide (Gr.trans hHeld.gr hg5)
    clear hHeld hg5
    go_ret
    exact ⟨by rw [unhide hz']; rfl, unhide hgf⟩

end Go.Proofs.YtnfakamfmkhlbabGreatDoor.C

namespace Go.Proofs.YtnfakamfmkhlbabGreatDoor.C

open Go.ChangeShapes Go.WideShapes Go.ChangeAt Go.RowKit Go.Shelf

open Go.Proofs.YtnfakamfmkhlbabGreatDoor.P

attribute [local go_sem] setCell_drewN alloc_drewN Oper.semAt_some

set_option linter.unusedSimpArgs false in
set_option maxRecDepth 100000 in
set_option maxHeartbeats 1000000 in
theorem without_any {z : Nat → UInt8} {wh : Bool} {fc : Nat → Bool} {b h g : Int} {PA : Array Value} (r : Row z wh fc b h g PA) (hok : layOk z = true) (hb0 : -1 ≤ b) (hb1 : b ≤ 63) (f t : Nat) (hf : f < 64) (ht : t < 64) (u : UInt8) (hu : u.toNat < 128) (hz : (z f).toNat < 128) (w : World) (hT : TabIn w) (hC : CasTab w) :
    Calls Tryz.prog 58 #[.agg setA, .agg PA, .agg #[.int .i64 (f : Int), .int .i64 (t : Int), .int .u8 (u.toNat : Int)]] w fun e w' => e = .returned (.string (str (bodyS (movS z wh fc b) z (f, t, u)))) ∧ Gr w w' := by
  have hKi := hide (fun W => isKing_any (z f) W)
  have hPa := hide (fun W => isPawn_any (z f) W)
  have hpw := hide (fun W => pawnMove_any f t hf ht u hu W)
  have hpc := hide (fun W (gW : Gr w W) => pieceMove_any r hok hb0 hb1 f t hf ht u hz W (hT.gr gW) (hC.gr gW))
  have hi72 : (Tryz.prog.info? 70).map (·.size) = some PA.size := by rw [r.size]; exact infoP72
  have hq := hide (Bm.start w PA #[.int .i64 (f : Int), .int .i64 (t : Int), .int .u8 (u.toNat : Int)])
  have e1 : Hid (kingB (z f) = true → t = f + 2 → str (bodyS (movS z wh fc b) z (f, t, u)) = ⟨#[79, 45, 79]⟩) := hide (fun a c => by unfold bodyS; rw [if_pos ⟨a, c⟩]; rfl)
  have e2 : Hid (kingB (z f) = true → t ≠ f + 2 → t + 2 = f → str (bodyS (movS z wh fc b) z (f, t, u)) = ⟨#[79, 45, 79, 45, 79]⟩) := hide (fun a c d => by unfold bodyS; rw [if_neg (fun q => c q.2), if_pos ⟨a, d⟩]; rfl)
  have e3 : Hid (¬ (kingB (z f) = true ∧ t = f + 2) → ¬ (kingB (z f) = true ∧ t + 2 = f) → pawnB (z f) = true → str (bodyS (movS z wh fc b) z (f, t, u)) = str (pawnT f t u)) := hide (fun a c d => by unfold bodyS; rw [if_neg a, if_neg c, if_pos d])
  have e4 : Hid (¬ (kingB (z f) = true ∧ t = f + 2) → ¬ (kingB (z f) = true ∧ t + 2 = f) → pawnB (z f) = false → str (bodyS (movS z wh fc b) z (f, t, u)) = str (pieceT (movS z wh fc b) z f t)) := hide (fun a c d => by unfold bodyS; rw [if_neg a, if_neg c, if_neg (by rw [d]; simp)])
  have b64 : ¬ (64 ≤ (f : Int)) := by omega
  have w2 : IntKind.i64.wrap ((f : Int) + 2) = (f : Int) + 2 := by rw [IntKind.wrap_i64]; omega
  have w3 : IntKind.i64.wrap ((f : Int) - 2) = (f : Int) - 2 := by rw [IntKind.wrap_i64]; omega
  generalize str (bodyS (movS z wh fc b) z (f, t, u)) = RS at e1 e2 e3 e4 ⊢
  generalize str (pawnT f t u) = PW at hpw e3
  generalize str (pieceT (movS z wh fc b) z f t) = PC at hpc e4
  generalize kingB (z f) = kv at hKi e1 e2 e3 e4
  generalize pawnB (z f) = pv at hPa e3 e4
  clear hT hC hok hb0 hb1
  simp only [setA, wayA] at hq hpc ⊢
  go_enter Tryz.func58, Tryz.ntmps58
  go_upto_region 1 with fail
  show Code.wp _ _ _ _ (((w.alloc (.cells #[.func (.func 60) #[] #[], .func (.func 61) #[] #[]] 74)).alloc (.cells PA 70)).alloc (.cells #[.int .i64 (f : Int), .int .i64 (t : Int), .int .u8 (u.toNat : Int)] 87))
  generalize (((w.alloc (.cells #[.func (.func 60) #[] #[], .func (.func 61) #[] #[]] 74)).alloc (.cells PA 70)).alloc (.cells #[.int .i64 (f : Int), .int .i64 (t : Int), .int .u8 (u.toNat : Int)] 87)) = wA at hq ⊢
  obtain ⟨c0, c1, pa, m0, m1, m2, cf, ct⟩ := Bm.cells hf ht r (unhide hq)
  have hpa := hide pa
  have hgA := hide (unhide hq).gr
  clear pa ct
  go_upto_region 2 with fail
  have tail1 : Hid (∀ (P : Prop), P → P) := hide fun _ p => p
  cases kv with
  | true =>
    by_cases ha : t = f + 2
    · have ha' : (t : Int) = (f : Int) + 2 := by omega
      have he := hide (unhide e1 rfl ha)
      clear e1 e2 e3 e4
      go_wp2_with (go_at_call 120; refine (unhide hKi _).mono ?_; rintro e w' ⟨rfl, rfl⟩)
      go_ret
      exact ⟨by rw [unhide he]; rfl, unhide hgA⟩
    · have ha' : ¬ (t : Int) = (f : Int) + 2 := by omega
      by_cases hb : t + 2 = f
      · have hb' : (t : Int) = (f : Int) - 2 := by omega
        have he := hide (unhide e2 rfl ha hb)
        clear e1 e2 e3 e4
        go_wp2_with (go_at_call 120; refine (unhide hKi _).mono ?_; rintro e w' ⟨rfl, rfl⟩)
        go_ret
        exact ⟨by rw [unhide he]; rfl, unhide hgA⟩
      · have hb' : ¬ (t : Int) = (f : Int) - 2 := by omega
        cases pv with
        | true =>
          have he := hide (unhide e3 (fun q => ha q.2) (fun q => hb q.2) rfl)
          clear e1 e2 e3 e4
          go_wp2_with (first
            | (go_at_call 120; refine (unhide hKi _).mono ?_; rintro e w' ⟨rfl, rfl⟩)
            | (go_at_call 121; refine (unhide hPa _).mono ?_; rintro e w' ⟨rfl, rfl⟩)
            | (go_at_call 122; refine (unhide hpw _).mono ?_; rintro e w5 ⟨rfl, hg5⟩))
          go_ret
          exact ⟨by rw [unhide he]; rfl, Gr.trans (unhide hgA) hg5⟩
        | false =>
          have he := hide (unhide e4 (fun q => ha q.2) (fun q => hb q.2) rfl)
          clear e1 e2 e3 e4
          go_wp2_with (first
            | (go_at_call 120; refine (unhide hKi _).mono ?_; rintro e w' ⟨rfl, rfl⟩)
            | (go_at_call 121; refine (unhide hPa _).mono ?_; rintro e w' ⟨rfl, rfl⟩)
            | (go_at_call 123; refine (unhide hpc _ (unhide hgA)).mono ?_; rintro e w5 ⟨rfl, hg5⟩)
            | (refine wpList_load_row rfl 70 _ rfl (w.heap.size + 1) rfl 70 PA (0, 0) _ (unhide hpa) Tryz.underlying70 rfl hi72 ?_))
          go_ret
          exact ⟨by rw [unhide he]; rfl, Gr.trans (unhide hgA) hg5⟩
  | false =>
    cases pv with
    | true =>
      have he := hide (unhide e3 (fun q => by cases q.1) (fun q => by cases q.1) rfl)
      clear e1 e2 e3 e4
      go_wp2_with (first
        | (go_at_call 120; refine (unhide hKi _).mono ?_; rintro e w' ⟨rfl, rfl⟩)
        | (go_at_call 121; refine (unhide hPa _).mono ?_; rintro e w' ⟨rfl, rfl⟩)
        | (go_at_call 122; refine (unhide hpw _).mono ?_; rintro e w5 ⟨rfl, hg5⟩))
      go_ret
      exact ⟨by rw [unhide he]; rfl, Gr.trans (unhide hgA) hg5⟩
    | false =>
      have he := hide (unhide e4 (fun q => by cases q.1) (fun q => by cases q.1) rfl)
      clear e1 e2 e3 e4
      go_wp2_with (first
        | (go_at_call 120; refine (unhide hKi _).mono ?_; rintro e w' ⟨rfl, rfl⟩)
        | (go_at_call 121; refine (unhide hPa _).mono ?_; rintro e w' ⟨rfl, rfl⟩)
        | (go_at_call 123; refine (unhide hpc _ (unhide hgA)).mono ?_; rintro e w5 ⟨rfl, hg5⟩)
        | (refine wpList_load_row rfl 70 _ rfl (w.heap.size + 1) rfl 70 PA (0, 0) _ (unhide hpa) Tryz.underlying70 rfl hi72 ?_))
      go_ret
      exact ⟨by rw [unhide he]; rfl, Gr.trans (unhide hgA) hg5⟩

end Go.Proofs.YtnfakamfmkhlbabGreatDoor.C

namespace Go.Proofs.YtnfakamfmkhlbabGreatDoor.C

open Go.ChangeShapes Go.WideShapes Go.ChangeAt Go.RowKit Go.Shelf

open Go.Proofs.YtnfakamfmkhlbabGreatDoor.P

attribute [local go_sem] setCell_drewN alloc_drewN Oper.semAt_some

/-! a move in short notation -/

def endS (z : Nat → UInt8) (wh : Bool) (fc : Nat → Bool) (b : Int) (x : Mv) : List UInt8 := endT (chkS (plZ z b x) (!wh)) (!(movS (plZ z b x) (!wh) (cfA fc x.1 x.2.1 4) (behA z x.1 x.2.1)).isEmpty)

def shS (z : Nat → UInt8) (wh : Bool) (fc : Nat → Bool) (b : Int) (x : Mv) : List UInt8 := bodyS (movS z wh fc b) z x ++ endS z wh fc b x

theorem endT_is (c n : Bool) : endT c n = [] ∨ endT c n = [43] ∨ endT c n = [35] := by cases c <;> cases n <;> simp [endT]

theorem sh_inj {z : Nat → UInt8} {wh : Bool} {fc : Nat → Bool} {b h g : Int} (o : Ok z wh fc b h g) {x y : Mv} (hx : x ∈ movS z wh fc b) (hy : y ∈ movS z wh fc b) (e : shS z wh fc b x = shS z wh fc b y) : x = y := short_inj o.good o.b0 o.b1 hx hy (endT_is _ _) (endT_is _ _) e

theorem Ok.king {z : Nat → UInt8} {wh : Bool} {fc : Nat → Bool} {b h g : Int} (o : Ok z wh fc b h g) : 0 ≤ kingR z wh ∧ kingR z wh ≤ 63 := by
  obtain ⟨y, hy, _, e⟩ := one_king (o.good.k1 wh)
  omega

theorem body_len (M : List Mv) {z : Nat → UInt8} {wh : Bool} {fc : Nat → Bool} {b : Int} {f t : Nat} {u : UInt8} {i : Nat} (h : Lgm z wh fc b f t u i) : (bodyS M z (f, t, u)).length ≤ 10 := by
  rcases body_cases M h with ⟨_, _, e⟩ | ⟨_, _, e⟩ | ⟨_, e⟩ | ⟨_, e⟩ <;> rw [e]
  · decide
  · decide
  · unfold pawnT
    rw [List.length_append, List.length_append, name_is]
    split <;> split <;> simp
  · unfold pieceT
    have := whT_len (othB M z f t) f
    rw [List.length_cons, List.length_append, List.length_append, name_is]
    split <;> simp <;> omega

theorem letr_small : ∀ p, p < 12 → (letr p).toNat < 128 := by decide +kernel

theorem u5_small : ∀ u ∈ U5, u.toNat < 128 := by decide +kernel

theorem Lgm.small {z : Nat → UInt8} {wh : Bool} {fc : Nat → Bool} {b : Int} {f t : Nat} {u : UInt8} {i : Nat} (h : Lgm z wh fc b f t u i) : (z f).toNat < 128 := by
  have hi := h.hi
  have hb : bg wh = 0 ∨ bg wh = 6 := by cases wh <;> simp [bg]
  rw [letr_of (p := bg wh + i) (by omega) h.hc]
  exact letr_small _ (by omega)

set_option linter.unusedSimpArgs false in
set_option maxRecDepth 100000 in
set_option maxHeartbeats 1000000 in
theorem write_any {z : Nat → UInt8} {wh : Bool} {fc : Nat → Bool} {b h g : Int} {PA : Array Value} (r : Row z wh fc b h g PA) (o : Ok z wh fc b h g) (f t : Nat) (u : UInt8) (hx : (f, t, u) ∈ movS z wh fc b) (w : World) (hT : TabIn w) (hC : CasTab w) (hH : Homes w) :
    Calls Tryz.prog 32 #[.agg setA, .agg PA, .agg #[.int .i64 (f : Int), .int .i64 (t : Int), .int .u8 (u.toNat : Int)]] w fun e w' => e = .returned (.string (str (shS z wh fc b (f, t, u)))) ∧ Gr w w' := by
  obtain ⟨i, lx⟩ := lg_of o.good o.b0 o.b1 hx
  have o' := o.next hx
  obtain ⟨hf, ht, hu, hk1, hk2⟩ := o.mv hx
  obtain ⟨a0, a1, a2, a3⟩ := o.clk
  have hbd := hide (fun W (gW : Gr w W) => without_any r o.lay o.b0 o.b1 f t hf ht u (u5_small u hu) lx.small W (hT.gr gW) (hC.gr gW))
  have haf := hide (fun W (gW : Gr w W) => afterP_any r f t u hf ht hk1 hk2 a0 a1 a2 a3 W (hH.gr gW))
  have hen : Hid (∀ (Q : Array Value) W, Gr w W → Row (plZ z b (f, t, u)) (!wh) (cfA fc f t 4) (behA z f t) (halA z f t h) (fulA wh g) Q → Calls Tryz.prog 59 #[.agg setA, .agg Q] W fun e w' => e = .returned (.string (str (endS z wh fc b (f, t, u)))) ∧ Gr W w') := hide (fun Q W gW rQ => ending_any rQ o'.lay o'.b0 o'.b1 o'.king.1 o'.king.2 W (hT.gr gW) (hC.gr gW))
  have hi72 : (Tryz.prog.info? 70).map (·.size) = some PA.toList.length := by rw [Array.length_toList, r.size]; exact infoP72
  have hq := Bm.start w PA #[.int .i64 (f : Int), .int .i64 (t : Int), .int .u8 (u.toNat : Int)]
  have hle : (endS z wh fc b (f, t, u)).length ≤ 1 := by
    unfold endS
    rcases endT_is (chkS (plZ z b (f, t, u)) (!wh)) (!(movS (plZ z b (f, t, u)) (!wh) (cfA fc f t 4) (behA z f t)).isEmpty) with e | e | e <;> (rw [e]; simp)
  have r1 := hide (fun W => add_run (bodyS (movS z wh fc b) z (f, t, u)) (endS z wh fc b (f, t, u)) (by have := body_len (movS z wh fc b) lx; omega) W)
  unfold shS
  generalize str (bodyS (movS z wh fc b) z (f, t, u) ++ endS z wh fc b (f, t, u)) = S1 at r1 ⊢
  generalize str (bodyS (movS z wh fc b) z (f, t, u)) = B1 at r1 hbd
  generalize str (endS z wh fc b (f, t, u)) = E1 at r1 hen
  have r1' : ∀ W, (Op.stringOp .add B1 E1).run Tryz.prog W = .ok (.string S1) W := unhide r1
  clear r1 hle hT hC hH o' hk1 hk2 lx hx o a0 a1 a2 a3
  simp only [setA, wayA] at hq hbd hen ⊢
  go_enter Tryz.func32, Tryz.ntmps32
  go_upto_region 1 with fail
  show Code.wp _ _ _ _ (((w.alloc (.cells #[.func (.func 60) #[] #[], .func (.func 61) #[] #[]] 74)).alloc (.cells PA 70)).alloc (.cells #[.int .i64 (f : Int), .int .i64 (t : Int), .int .u8 (u.toNat : Int)] 87))
  generalize (((w.alloc (.cells #[.func (.func 60) #[] #[], .func (.func 61) #[] #[]] 74)).alloc (.cells PA 70)).alloc (.cells #[.int .i64 (f : Int), .int .i64 (t : Int), .int .u8 (u.toNat : Int)] 87)) = wA at hq ⊢
  refine wp_region_held_drew (S := Bm w PA #[.int .i64 (f : Int), .int .i64 (t : Int), .int .u8 (u.toNat : Int)]) (by kernel_rfl) (hq.next (Gr.refl _).drew) (fun hHeld => ?_)
  refine wpAnyH_take (i := 0) (v := .agg #[.func (.func 60) #[] #[], .func (.func 61) #[] #[]]) rfl (by kernel_rfl) (by kernel_rfl) (by kernel_rfl) (fun _ _ _ h => h) (Or.inl ⟨by rfl, fun w hw => (by obtain ⟨c0, c1, pa, m0, m1, m2, cf, ct⟩ := Bm.cells hf ht r hw; go_simp)⟩) hHeld ?_
  simp only [Act.put, List.getElem_toArray, List.getElem_cons_zero, List.getElem_cons_succ, List.setIfInBounds_toArray, List.set_cons_zero, List.set_cons_succ]
  refine wpAnyH_take (i := 1) (v := .agg PA) rfl (by kernel_rfl) (by kernel_rfl) (by kernel_rfl) (fun _ _ _ h => h) (y_pos3 hi72 (by rfl) _ rfl (w.heap.size + 1) rfl (fun _ h => h.pa)) hHeld ?_
  simp only [Act.put, List.getElem_toArray, List.getElem_cons_zero, List.getElem_cons_succ, List.setIfInBounds_toArray, List.set_cons_zero, List.set_cons_succ]
  refine wpAnyH_take (i := 2) (v := .agg #[.int .i64 (f : Int), .int .i64 (t : Int), .int .u8 (u.toNat : Int)]) rfl (by kernel_rfl) (by kernel_rfl) (by kernel_rfl) (fun _ _ _ h => h) (Or.inl ⟨by rfl, fun w hw => (by obtain ⟨c0, c1, pa, m0, m1, m2, cf, ct⟩ := Bm.cells hf ht r hw; go_simp)⟩) hHeld ?_
  simp only [Act.put, List.getElem_toArray, List.getElem_cons_zero, List.getElem_cons_succ, List.setIfInBounds_toArray, List.set_cons_zero, List.set_cons_succ]
  refine wpAnyH_take (i := 4) (v := .agg #[.func (.func 60) #[] #[], .func (.func 61) #[] #[]]) rfl (by kernel_rfl) (by kernel_rfl) (by kernel_rfl) (fun _ _ _ h => h) (Or.inl ⟨by rfl, fun w hw => (by obtain ⟨c0, c1, pa, m0, m1, m2, cf, ct⟩ := Bm.cells hf ht r hw; go_simp)⟩) hHeld ?_
  simp only [Act.put, List.getElem_toArray, List.getElem_cons_zero, List.getElem_cons_succ, List.setIfInBounds_toArray, List.set_cons_zero, List.set_cons_succ]
  refine wpAnyH_take (i := 5) (v := .agg PA) rfl (by kernel_rfl) (by kernel_rfl) (by kernel_rfl) (fun _ _ _ h => h) (y_pos3 hi72 (by rfl) _ rfl (w.heap.size + 1) rfl (fun _ h => h.pa)) hHeld ?_
  simp only [Act.put, List.getElem_toArray, List.getElem_cons_zero, List.getElem_cons_succ, List.setIfInBounds_toArray, List.set_cons_zero, List.set_cons_succ]
  refine wpAnyH_take (i := 6) (v := .agg #[.int .i64 (f : Int), .int .i64 (t : Int), .int .u8 (u.toNat : Int)]) rfl (by kernel_rfl) (by kernel_rfl) (by kernel_rfl) (fun _ _ _ h => h) (Or.inl ⟨by rfl, fun w hw => (by obtain ⟨c0, c1, pa, m0, m1, m2, cf, ct⟩ := Bm.cells hf ht r hw; go_simp)⟩) hHeld ?_
  simp only [Act.put, List.getElem_toArray, List.getElem_cons_zero, List.getElem_cons_succ, List.setIfInBounds_toArray, List.set_cons_zero, List.set_cons_succ]
  refine wpAnyH_ready (rs := [3]) (by kernel_rfl) (by simp) ?_
  refine AllReadyH.cons rfl (fun K hK => ?_) AllReadyH.nil
  go_simp
  refine (unhide hbd _ hHeld.gr).mono ?_
  rintro e wc ⟨rfl, hgc⟩
  refine hK.out _ _ (hHeld.next hgc) (fun hHeld => ?_)
  clear hK K hgc
  try simp only [Act.put, List.getElem_toArray, List.getElem_cons_zero, List.getElem_cons_succ, List.setIfInBounds_toArray, List.set_cons_zero, List.set_cons_succ]
  refine wpAnyH_ready (rs := [7]) (by kernel_rfl) (by simp) ?_
  refine AllReadyH.cons rfl (fun K hK => ?_) AllReadyH.nil
  go_simp
  refine (unhide haf _ hHeld.gr).mono ?_
  rintro e wc ⟨Q, rfl, hQ, hgc⟩
  refine hK.out _ _ (hHeld.next hgc) (fun hHeld => ?_)
  clear hK K hgc
  try simp only [Act.put, List.getElem_toArray, List.getElem_cons_zero, List.getElem_cons_succ, List.setIfInBounds_toArray, List.set_cons_zero, List.set_cons_succ]
  refine wpAnyH_ready (rs := [8]) (by kernel_rfl) (by simp) ?_
  refine AllReadyH.cons rfl (fun K hK => ?_) AllReadyH.nil
  go_simp
  refine (unhide hen _ _ hHeld.gr hQ).mono ?_
  rintro e wc ⟨rfl, hgc⟩
  refine hK.out _ _ (hHeld.next hgc) (fun hHeld => ?_)
  clear hK K hgc
  try simp only [Act.put, List.getElem_toArray, List.getElem_cons_zero, List.getElem_cons_succ, List.setIfInBounds_toArray, List.set_cons_zero, List.set_cons_succ]
  refine wpAnyH_take (i := 9) (v := .string S1) rfl (by kernel_rfl) (by kernel_rfl) (by kernel_rfl) (fun _ _ _ h => h) (Or.inl ⟨by rfl, fun w hw => (by obtain ⟨c0, c1, pa, m0, m1, m2, cf, ct⟩ := Bm.cells hf ht r hw; go_simp)⟩) hHeld ?_
  simp only [Act.put, List.getElem_toArray, List.getElem_cons_zero, List.getElem_cons_succ, List.setIfInBounds_toArray, List.set_cons_zero, List.set_cons_succ]
  refine wpAnyH_ready (rs := [10]) (by kernel_rfl) (by simp) ?_
  refine AllReadyH.cons rfl (fun K hK => ?_) AllReadyH.nil
  go_simp
  refine hK.out _ _ hHeld (fun hHeld => ?_)
  clear hK K
  try simp only [Act.put, List.getElem_toArray, List.getElem_cons_zero, List.getElem_cons_succ, List.setIfInBounds_toArray, List.set_cons_zero, List.set_cons_succ]
  refine wpAnyH_done (by kernel_rfl) ?_ _
  go_wp2_with fail
  go_ret
  exact ⟨rfl, hHeld.gr⟩

end Go.Proofs.YtnfakamfmkhlbabGreatDoor.C

namespace Go.Proofs.YtnfakamfmkhlbabGreatDoor.C

open Go.ChangeShapes Go.WideShapes Go.ChangeAt Go.RowKit Go.Shelf

open Go.Proofs.YtnfakamfmkhlbabGreatDoor.P

attribute [local go_sem] setCell_drewN alloc_drewN Oper.semAt_some

/-! brief.Read: the move with a text -/

theorem beq_str (a c : ByteArray) : (a.toList == c.toList) = decide (a = c) := by
  by_cases e : a = c
  · subst e; simp
  · rw [decide_eq_false e, beq_eq_false_iff_ne]
    intro q
    rw [Lib.toList_data, Lib.toList_data] at q
    exact e (bytes_inj q)

structure Rf (w : World) (Bx B1 B2 B3 : Nat) (PA M : Array Value) (tx : ByteArray) (W : World) : Prop where
  q : W.heap[B1]? = some (.cells setA 74)
  pa : W.heap[B2]? = some (.cells PA 70)
  s : W.heap[B3]? = some (.cells #[.string tx] 9)
  mv : W.heap[Bx]? = some (.cells M 87)
  gr : Gr w W

theorem Rf.next {w W W' : World} {Bx B1 B2 B3 : Nat} {PA M : Array Value} {tx : ByteArray} (h : Rf w Bx B1 B2 B3 PA M tx W) (g : Gr W W') : Rf w Bx B1 B2 B3 PA M tx W' :=
  ⟨(Below.block g _ (Array.getElem?_eq_some_iff.1 h.q).1).trans h.q, (Below.block g _ (Array.getElem?_eq_some_iff.1 h.pa).1).trans h.pa, (Below.block g _ (Array.getElem?_eq_some_iff.1 h.s).1).trans h.s, (Below.block g _ (Array.getElem?_eq_some_iff.1 h.mv).1).trans h.mv, Gr.trans h.gr g⟩

theorem Rf.cells {w W : World} {Bx B1 B2 B3 : Nat} {PA : Array Value} {tx : ByteArray} {a c d : Value} (h : Rf w Bx B1 B2 B3 PA #[a, c, d] tx W) : W.cell? ⟨B1, 0, none⟩ = some (.func (.func 60) #[] #[]) ∧ W.cell? ⟨B1, 1, none⟩ = some (.func (.func 61) #[] #[]) ∧ W.cell? ⟨Bx, 0, none⟩ = some a ∧ W.cell? ⟨Bx, 1, none⟩ = some c ∧ W.cell? ⟨Bx, 2, none⟩ = some d ∧ W.cell? ⟨B3, 0, none⟩ = some (.string tx) := by
  obtain ⟨m0, m1, m2⟩ := mv_cells h.mv
  exact ⟨by rw [cell_of_row _ _ _ _ _ _ h.q]; rfl, by rw [cell_of_row _ _ _ _ _ _ h.q]; rfl, m0, m1, m2, (cell_of_box_l h.s).1⟩

set_option linter.unusedSimpArgs false in
set_option maxRecDepth 100000 in
set_option maxHeartbeats 1000000 in
theorem readF_any {z : Nat → UInt8} {wh : Bool} {fc : Nat → Bool} {b h g : Int} {PA : Array Value} (r : Row z wh fc b h g PA) (o : Ok z wh fc b h g) (tx : ByteArray) (f t : Nat) (u : UInt8) (hx : (f, t, u) ∈ movS z wh fc b) (B1 B2 B3 : Nat) (w : World) (k1 : w.heap[B1]? = some (.cells setA 74)) (k2 : w.heap[B2]? = some (.cells PA 70)) (k3 : w.heap[B3]? = some (.cells #[.string tx] 9)) (hT : TabIn w) (hC : CasTab w) (hH : Homes w) :
    Calls Tryz.prog 68 #[.agg #[.int .i64 (f : Int), .int .i64 (t : Int), .int .u8 (u.toNat : Int)], .pointer (some ⟨B1, 0, none⟩), .pointer (some ⟨B2, 0, none⟩), .pointer (some ⟨B3, 0, none⟩)] w fun e w' => e = .returned (.bool (decide (str (shS z wh fc b (f, t, u)) = tx))) ∧ Gr w w' := by
  have hwr := hide (fun W (gW : Gr w W) => write_any r o f t u hx W (hT.gr gW) (hC.gr gW) (hH.gr gW))
  have hi72 : (Tryz.prog.info? 70).map (·.size) = some PA.toList.length := by rw [Array.length_toList, r.size]; exact infoP72
  have g1 : Gr w (w.alloc (.cells #[.int .i64 (f : Int), .int .i64 (t : Int), .int .u8 (u.toNat : Int)] 87)) := (Gr.refl w).alloc _ _
  have hq : Rf w w.heap.size B1 B2 B3 PA #[.int .i64 (f : Int), .int .i64 (t : Int), .int .u8 (u.toNat : Int)] tx (w.alloc (.cells #[.int .i64 (f : Int), .int .i64 (t : Int), .int .u8 (u.toNat : Int)] 87)) := ⟨(Below.block g1 _ (Array.getElem?_eq_some_iff.1 k1).1).trans k1, (Below.block g1 _ (Array.getElem?_eq_some_iff.1 k2).1).trans k2, (Below.block g1 _ (Array.getElem?_eq_some_iff.1 k3).1).trans k3, World.alloc_heap_new w _, g1⟩
  generalize str (shS z wh fc b (f, t, u)) = SX at hwr ⊢
  rw [← beq_str]
  simp only [setA, wayA] at hwr
  clear hT hC hH o hx g1 k1 k2 k3 r
  go_enter Tryz.func68, Tryz.ntmps68
  go_upto_region 1 with fail
  show Code.wp _ _ _ _ (w.alloc (.cells #[.int .i64 (f : Int), .int .i64 (t : Int), .int .u8 (u.toNat : Int)] 87))
  generalize (w.alloc (.cells #[.int .i64 (f : Int), .int .i64 (t : Int), .int .u8 (u.toNat : Int)] 87)) = wA at hq ⊢
  refine wp_region_held_drew (S := Rf w w.heap.size B1 B2 B3 PA #[.int .i64 (f : Int), .int .i64 (t : Int), .int .u8 (u.toNat : Int)] tx) (by kernel_rfl) (hq.next (Gr.refl _).drew) (fun hHeld => ?_)
  refine wpAnyH_take (i := 0) (v := .agg #[.func (.func 60) #[] #[], .func (.func 61) #[] #[]]) rfl (by kernel_rfl) (by kernel_rfl) (by kernel_rfl) (fun _ _ _ h => h) (Or.inl ⟨by rfl, fun w hw => (by obtain ⟨c0, c1, m0, m1, m2, cs⟩ := hw.cells; go_simp)⟩) hHeld ?_
  simp only [Act.put, List.getElem_toArray, List.getElem_cons_zero, List.getElem_cons_succ, List.setIfInBounds_toArray, List.set_cons_zero, List.set_cons_succ]
  refine wpAnyH_take (i := 1) (v := .agg PA) rfl (by kernel_rfl) (by kernel_rfl) (by kernel_rfl) (fun _ _ _ h => h) (y_pos3 hi72 (by rfl) _ rfl B2 rfl (fun _ h => h.pa)) hHeld ?_
  simp only [Act.put, List.getElem_toArray, List.getElem_cons_zero, List.getElem_cons_succ, List.setIfInBounds_toArray, List.set_cons_zero, List.set_cons_succ]
  refine wpAnyH_take (i := 2) (v := .agg #[.int .i64 (f : Int), .int .i64 (t : Int), .int .u8 (u.toNat : Int)]) rfl (by kernel_rfl) (by kernel_rfl) (by kernel_rfl) (fun _ _ _ h => h) (Or.inl ⟨by rfl, fun w hw => (by obtain ⟨c0, c1, m0, m1, m2, cs⟩ := hw.cells; go_simp)⟩) hHeld ?_
  simp only [Act.put, List.getElem_toArray, List.getElem_cons_zero, List.getElem_cons_succ, List.setIfInBounds_toArray, List.set_cons_zero, List.set_cons_succ]
  refine wpAnyH_take (i := 4) (v := .string tx) rfl (by kernel_rfl) (by kernel_rfl) (by kernel_rfl) (fun _ _ _ h => h) (Or.inl ⟨by rfl, fun w hw => (by obtain ⟨c0, c1, m0, m1, m2, cs⟩ := hw.cells; go_simp)⟩) hHeld ?_
  simp only [Act.put, List.getElem_toArray, List.getElem_cons_zero, List.getElem_cons_succ, List.setIfInBounds_toArray, List.set_cons_zero, List.set_cons_succ]
  refine wpAnyH_ready (rs := [3]) (by kernel_rfl) (by simp) ?_
  refine AllReadyH.cons rfl (fun K hK => ?_) AllReadyH.nil
  go_simp
  refine (unhide hwr _ hHeld.gr).mono ?_
  rintro e wc ⟨rfl, hgc⟩
  refine hK.out _ _ (hHeld.next hgc) (fun hHeld => ?_)
  clear hK K hgc
  try simp only [Act.put, List.getElem_toArray, List.getElem_cons_zero, List.getElem_cons_succ, List.setIfInBounds_toArray, List.set_cons_zero, List.set_cons_succ]
  refine wpAnyH_take (i := 5) (v := .bool (SX.toList == tx.toList)) rfl (by kernel_rfl) (by kernel_rfl) (by kernel_rfl) (fun _ _ _ h => h) (Or.inl ⟨by rfl, fun w hw => (by go_simp)⟩) hHeld ?_
  simp only [Act.put, List.getElem_toArray, List.getElem_cons_zero, List.getElem_cons_succ, List.setIfInBounds_toArray, List.set_cons_zero, List.set_cons_succ]
  refine wpAnyH_ready (rs := [6]) (by kernel_rfl) (by simp) ?_
  refine AllReadyH.cons rfl (fun K hK => ?_) AllReadyH.nil
  go_simp
  refine hK.out _ _ hHeld (fun hHeld => ?_)
  clear hK K
  try simp only [Act.put, List.getElem_toArray, List.getElem_cons_zero, List.getElem_cons_succ, List.setIfInBounds_toArray, List.set_cons_zero, List.set_cons_succ]
  refine wpAnyH_done (by kernel_rfl) ?_ _
  go_wp2_with fail
  go_ret
  exact ⟨rfl, hHeld.gr⟩

end Go.Proofs.YtnfakamfmkhlbabGreatDoor.C

namespace Go.Proofs.YtnfakamfmkhlbabGreatDoor.C

open Go.ChangeShapes Go.WideShapes Go.ChangeAt Go.RowKit Go.Shelf

open Go.Proofs.YtnfakamfmkhlbabGreatDoor.P

attribute [local go_sem] setCell_drewN alloc_drewN Oper.semAt_some

/-- the moves whose text is tx. -/
def shF (z : Nat → UInt8) (wh : Bool) (fc : Nat → Bool) (b : Int) (tx : ByteArray) : List Mv := (movS z wh fc b).filter fun x => decide (str (shS z wh fc b x) = tx)

structure Rd0 (w : World) (PA : Array Value) (tx : ByteArray) (W : World) : Prop where
  q : W.heap[w.heap.size]? = some (.cells setA 74)
  pa : W.heap[w.heap.size + 1]? = some (.cells PA 70)
  s : W.heap[w.heap.size + 1 + 1]? = some (.cells #[.string tx] 9)
  mv : W.heap[w.heap.size + 1 + 1 + 1]? = some (.cells #[.int .i64 0, .int .i64 0, .int .u8 0] 87)
  gr : Gr w W

theorem Rd0.next {w W W' : World} {PA : Array Value} {tx : ByteArray} (h : Rd0 w PA tx W) (g : Gr W W') : Rd0 w PA tx W' :=
  ⟨(Below.block g _ (Array.getElem?_eq_some_iff.1 h.q).1).trans h.q, (Below.block g _ (Array.getElem?_eq_some_iff.1 h.pa).1).trans h.pa, (Below.block g _ (Array.getElem?_eq_some_iff.1 h.s).1).trans h.s, (Below.block g _ (Array.getElem?_eq_some_iff.1 h.mv).1).trans h.mv, Gr.trans h.gr g⟩

theorem Rd0.start (w : World) (PA : Array Value) (tx : ByteArray) : Rd0 w PA tx ((((w.alloc (.cells setA 74)).alloc (.cells PA 70)).alloc (.cells #[.string tx] 9)).alloc (.cells #[.int .i64 0, .int .i64 0, .int .u8 0] 87)) := by
  have g : Gr w ((((w.alloc (.cells setA 74)).alloc (.cells PA 70)).alloc (.cells #[.string tx] 9)).alloc (.cells #[.int .i64 0, .int .i64 0, .int .u8 0] 87)) := ((((Gr.refl w).alloc _ _).alloc _ _).alloc _ _).alloc _ _
  refine ⟨?_, ?_, ?_, ?_, g⟩ <;> (simp only [World.alloc, Array.getElem?_push, Array.size_push]; first | (simp; done) | (simp; repeat (rw [if_neg (by omega)])))

set_option linter.unusedSimpArgs false in
set_option maxRecDepth 100000 in
set_option maxHeartbeats 1000000 in
theorem bread_any {z : Nat → UInt8} {wh : Bool} {fc : Nat → Bool} {b h g : Int} {PA : Array Value} (r : Row z wh fc b h g PA) (o : Ok z wh fc b h g) (tx : ByteArray) (w : World) (hT : TabIn w) (hC : CasTab w) (hH : Homes w) :
    Calls Tryz.prog 37 #[.agg setA, .agg PA, .string tx] w fun e w' => e = .returned (.tuple #[mvV ((shF z wh fc b tx).headD (0, 0, 0)), .bool (!(shF z wh fc b tx).isEmpty)]) ∧ Gr w w' := by
  have hmf : ∀ (fn : Fn) (first cap : Array Value) (w : World), (Instr.makeFunc fn first cap).run Tryz.prog w = .ok (.func fn first cap) w := fun _ _ _ _ => rfl
  have hi72 : (Tryz.prog.info? 70).map (·.size) = some PA.size := by rw [r.size]; exact infoP72
  have hq := hide (Rd0.start w PA tx)
  obtain ⟨⟨f, t, u⟩, hhd⟩ : ∃ x, Hid ((shF z wh fc b tx).headD (0, 0, 0) = x) := ⟨_, hide rfl⟩
  have hfst : Hid (∀ (Bp Bt Bf : Nat) (W : World), Rd0 w PA tx W → W.heap[Bp]? = some (.cells PA 70) → W.heap[Bt]? = some (.cells #[.func (.func 128) #[] #[.pointer (some ⟨Bp, 0, none⟩)]] 141) → W.heap[Bf]? = some (.cells #[.func (.func 68) #[] #[.pointer (some ⟨w.heap.size, 0, none⟩), .pointer (some ⟨w.heap.size + 1, 0, none⟩), .pointer (some ⟨w.heap.size + 1 + 1, 0, none⟩)]] 143) →
      Calls Tryz.prog 66 #[.func (.func 155) #[] #[.pointer (some ⟨Bt, 0, none⟩), .pointer (some ⟨Bf, 0, none⟩)]] W fun e w' => e = .returned (.tuple #[.agg #[.int .i64 (f : Int), .int .i64 (t : Int), .int .u8 (u.toNat : Int)], .bool (!(shF z wh fc b tx).isEmpty)]) ∧ Gr W w') := hide (fun Bp Bt Bf W hW hp ht hf => by
    have hTW := hT.gr hW.gr
    have hCW := hC.gr hW.gr
    have hHW := hH.gr hW.gr
    have hit0 := movesS_it r o.lay o.b0 o.b1 Bp (fun _ => False) (fun _ q => q.elim) W hp hTW hCW
    have hit1 := hit0.mono (C' := fun k => (k = Bp ∨ k = 2 ∨ k = 3) ∨ k = w.heap.size ∨ k = w.heap.size + 1 ∨ k = w.heap.size + 1 + 1 ∨ k = 1) (fun k q => .inl q)
    have hlow : ∀ k, ((k = Bp ∨ k = 2 ∨ k = 3) ∨ k = w.heap.size ∨ k = w.heap.size + 1 ∨ k = w.heap.size + 1 + 1 ∨ k = 1) → k < W.heap.size := by
      rintro k ((rfl | rfl | rfl) | rfl | rfl | rfl | rfl)
      · exact (Array.getElem?_eq_some_iff.1 hp).1
      · exact hTW.2
      · exact hCW.2
      · exact (Array.getElem?_eq_some_iff.1 hW.q).1
      · exact (Array.getElem?_eq_some_iff.1 hW.pa).1
      · exact (Array.getElem?_eq_some_iff.1 hW.s).1
      · exact hHW.2
    have hit2 := onlyM_it hit1 (enters_of Tryz.func128 (by kernel_rfl) rfl) (enters_of Tryz.func68 (by kernel_rfl) rfl) (fun _ q => q.elim) (fun _ _ q => q) hlow Bt Bf (fun x => decide (str (shS z wh fc b x) = tx)) ht hf (by
      rintro ⟨f', t', u'⟩ hx V fV
      exact readF_any r o tx f' t' u' hx w.heap.size (w.heap.size + 1) (w.heap.size + 1 + 1) V (fV.same _ _ hW.q (.inr (.inl rfl))) (fV.same _ _ hW.pa (.inr (.inr (.inl rfl)))) (fV.same _ _ hW.s (.inr (.inr (.inr (.inl rfl))))) (hTW.fr fV (fun _ => .inl (.inr (.inl rfl)))) (hCW.fr fV (fun _ => .inl (.inr (.inr rfl)))) (hHW.fr fV (fun _ => .inr (.inr (.inr (.inr rfl))))))
    refine (first_any hit2 (enters_of Tryz.func155 (by kernel_rfl) rfl) (by
      rintro k (q | rfl | rfl)
      · exact hlow k q
      · exact (Array.getElem?_eq_some_iff.1 ht).1
      · exact (Array.getElem?_eq_some_iff.1 hf).1)).mono fun e w' k => ⟨?_, k.2⟩
    have := unhide hhd
    unfold shF at this
    rw [k.1, this]
    rfl)
  rw [unhide hhd]
  generalize (!(shF z wh fc b tx).isEmpty) = R at hfst ⊢
  clear hhd hT hC hH o r
  simp only [setA, wayA, mvV] at hq ⊢
  go_enter Tryz.func37, Tryz.ntmps37
  go_upto_region 1 with fail
  show Code.wp _ _ _ _ ((((w.alloc (.cells #[.func (.func 60) #[] #[], .func (.func 61) #[] #[]] 74)).alloc (.cells PA 70)).alloc (.cells #[.string tx] 9)).alloc (.cells #[.int .i64 0, .int .i64 0, .int .u8 0] 87))
  generalize ((((w.alloc (.cells #[.func (.func 60) #[] #[], .func (.func 61) #[] #[]] 74)).alloc (.cells PA 70)).alloc (.cells #[.string tx] 9)).alloc (.cells #[.int .i64 0, .int .i64 0, .int .u8 0] 87)) = w0 at hq ⊢
  have c1 : w0.cell? ⟨w.heap.size, 1, none⟩ = some (.func (.func 61) #[] #[]) := by rw [cell_of_row _ _ _ _ _ _ (unhide hq).q]; rfl
  have hpa := hide (unhide hq).pa
  have hmk := hide (fun W => setsMoves_mk PA W)
  have hon := hide (fun g gf lb lf W => only_mk g gf lb lf W)
  go_wp2_with (first
    | (go_at_call 61; refine (unhide hmk _).mono ?_; rintro e w2 ⟨rfl, hp2, hg2⟩)
    | (go_at_call 67; refine (unhide hon _ _ _ _ _).mono ?_; rintro e w3 ⟨rfl, ht3, hf3, hg3⟩; have hq3 := hide ((unhide hq).next (Gr.trans hg2 hg3)); have hp3 := (Below.block hg3 _ (Array.getElem?_eq_some_iff.1 hp2).1).trans hp2)
    | (go_at_call 66; refine (unhide hfst _ _ _ _ (unhide hq3) hp3 ht3 hf3).mono ?_; rintro e w4 ⟨rfl, hg4⟩; have hq4 := hide ((unhide hq3).next hg4))
    | (refine wpList_store_row rfl 87 _ _ rfl (w.heap.size + 1 + 1 + 1) #[.int .i64 (f : Int), .int .i64 (t : Int), .int .u8 (u.toNat : Int)] rfl rfl 87 #[.int .i64 0, .int .i64 0, .int .u8 0] (unhide hq4).mv infoMv3 rfl (by simp [Value.oneCell']) ?_)
    | (refine wpList_load_row rfl 70 _ rfl (w.heap.size + 1) rfl 70 PA (0, 0) _ (unhide hpa) Tryz.underlying70 rfl hi72 ?_))
  exact bodyPost_ret (v := .tuple #[.agg #[.int .i64 (f : Int), .int .i64 (t : Int), .int .u8 (u.toNat : Int)], .bool R]) (results_cell_tmp Tryz.results37 _ _ (w.heap.size + 1 + 1 + 1) 87 #[.int .i64 (f : Int), .int .i64 (t : Int), .int .u8 (u.toNat : Int)] (0, 0) _ rfl (setRow_heap _ _ _ _ _ _ (unhide hq4).mv) Tryz.underlying87 rfl infoMv3) rfl ⟨rfl, (unhide hq4).gr.setRow _ (by omega) _⟩

end Go.Proofs.YtnfakamfmkhlbabGreatDoor.C
