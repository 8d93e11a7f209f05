import Derived.Test.YtnfakamfmkhlbabGreatDoorKb23
import Derived.Test.YtnfakamfmkhlbabGreatDoorTa1
import Derived.Test.YtnfakamfmkhlbabGreatDoorKb24
import Derived.Test.YtnfakamfmkhlbabGreatDoorKb26
import Derived.Stop.RegionWithIn
import Derived.Test.YtnfakamfmkhlbabGreatDoorKb1
import Derived.OrdersHeld
import Derived.OrdersIn
import Derived.Deep.RegionHeld3
import Derived.RangeFuncCalls
import Derived.RangeFuncKeeps
import Derived.Test.YtnfakamfmkhlbabGreatDoorKb15
namespace Go.Proofs.YtnfakamfmkhlbabGreatDoor.C

open Go.RowKit

open Go.Proofs.YtnfakamfmkhlbabGreatDoor.P

/-! none comes twice, and the order is one -/

end Go.Proofs.YtnfakamfmkhlbabGreatDoor.C

namespace Go.Proofs.YtnfakamfmkhlbabGreatDoor.C

open Go.RowKit

open Go.Proofs.YtnfakamfmkhlbabGreatDoor.P

/-! the position at first -/

theorem pos_let {s : ByteArray} {p : Pos} (hr : readS s = some p) (hc : posCan p = true) : LetOk (posZ p) p.white p.castle p.behind := by
  obtain ⟨h, h0, h1⟩ := pos_can hr hc
  exact letOk_of h h0 h1

end Go.Proofs.YtnfakamfmkhlbabGreatDoor.C

namespace Go.Proofs.YtnfakamfmkhlbabGreatDoor.C

open Go.ChangeShapes Go.WideShapes Go.ChangeAt Go.RowKit Go.Shelf

open Go.Proofs.YtnfakamfmkhlbabGreatDoor.P

attribute [local go_sem] setCell_drewN alloc_drewN Oper.semAt_some

theorem strs_form {w : World} {base : Nat} {v : Value} {xs : List ByteArray} (h : Strs base v xs w) : ∃ p cap, v = .slice p xs.length cap ∧ xs.length ≤ cap ∧ ∀ i (hi : i < xs.length), ∃ g, p = some ⟨g, 0, none⟩ ∧ w.cell? ⟨g, i, none⟩ = some (.string xs[i]) := by
  rcases h.2 with ⟨rfl, hn⟩ | ⟨g, cap, cur, rfl, hb, hg, hn, hm, hcs, htk⟩
  · have : xs = [] := by simpa using hn
    subst this
    exact ⟨none, 0, rfl, Nat.le_refl _, fun i hi => absurd hi (Nat.not_lt_zero i)⟩
  · refine ⟨_, _, rfl, hn, fun i hi => ⟨g, rfl, ?_⟩⟩
    simp only [World.cell?]
    rw [hg]
    show cur[i]? = _
    rw [← Array.getElem?_toList, ← List.getElem?_take_of_lt (show i < xs.length * 1 by omega), htk, List.getElem?_map, List.getElem?_eq_getElem hi]
    rfl

end Go.Proofs.YtnfakamfmkhlbabGreatDoor.C

namespace Go.Proofs.YtnfakamfmkhlbabGreatDoor.C

open Go.ChangeShapes Go.WideShapes Go.ChangeAt Go.RowKit Go.Shelf

open Go.Proofs.YtnfakamfmkhlbabGreatDoor.P

attribute [local go_sem] setCell_drewN alloc_drewN Oper.semAt_some

theorem el_gr {T : List ByteArray} {p : Option Addr} {W W' : World} (h : ∀ i (hi : i < T.length), ∃ g, p = some ⟨g, 0, none⟩ ∧ W.cell? ⟨g, i, none⟩ = some (.string T[i])) (hg : Gr W W') : ∀ i (hi : i < T.length), ∃ g, p = some ⟨g, 0, none⟩ ∧ W'.cell? ⟨g, i, none⟩ = some (.string T[i]) := fun i hi => by
  obtain ⟨g, e, hx⟩ := h i hi
  exact ⟨g, e, (Below.cell hg (p := ⟨g, i, none⟩) (World.block_lt_of_cell? W _ hx)).trans hx⟩

end Go.Proofs.YtnfakamfmkhlbabGreatDoor.C

namespace Go.Proofs.YtnfakamfmkhlbabGreatDoor.C

open Go.ChangeShapes Go.WideShapes Go.ChangeAt Go.RowKit Go.Shelf

open Go.Proofs.YtnfakamfmkhlbabGreatDoor.P

attribute [local go_sem] setCell_drewN alloc_drewN Oper.semAt_some

/-- the texts of a slice. -/
def El (p : Option Addr) (T : List ByteArray) (W : World) : Prop := ∀ i (hi : i < T.length), ∃ g, p = some ⟨g, 0, none⟩ ∧ W.cell? ⟨g, i, none⟩ = some (.string T[i])

theorem El.gr {T : List ByteArray} {p : Option Addr} {W W' : World} (h : El p T W) (hg : Gr W W') : El p T W' := el_gr h hg

/-! a king on e1 alone -/

end Go.Proofs.YtnfakamfmkhlbabGreatDoor.C

namespace Go.Proofs.YtnfakamfmkhlbabGreatDoor.C

open Go.RowKit

open Go.Proofs.YtnfakamfmkhlbabGreatDoor.P

/-! where a man goes, as the reference has it -/

end Go.Proofs.YtnfakamfmkhlbabGreatDoor.C

namespace Go.Proofs.YtnfakamfmkhlbabGreatDoor.C

open Go.ChangeShapes Go.WideShapes Go.ChangeAt Go.RowKit

open Go.Proofs.YtnfakamfmkhlbabGreatDoor.P

attribute [local go_sem] setCell_drewN alloc_drewN

end Go.Proofs.YtnfakamfmkhlbabGreatDoor.C

namespace Go.Proofs.YtnfakamfmkhlbabGreatDoor.C

open Go.ChangeShapes Go.WideShapes Go.ChangeAt Go.RowKit

attribute [local go_sem] setCell_drewN alloc_drewN

/-! a move's text, read -/

theorem readTurn_any (s : ByteArray) (w : World) : Calls Tryz.prog 118 #[.string s] w fun e w' => e = .returned (.tuple #[.int .u8 ((rdT s).1.toNat : Int), .bool (rdT s).2]) ∧ Gr w w' := by
  by_cases h : 0 < s.size
  · have e1 : (rdT s) = (s[0], decide (0 ≤ Lib.indexByte turnsL s[0])) := by unfold rdT; rw [dif_pos h]
    have hne : (s.toList == []) = false := by
      rw [beq_eq_false_iff_ne]
      intro e
      have : s.toList.length = 0 := by rw [e]; rfl
      have h2 : s.toList.length = s.size := by rw [Lib.toList_data]; exact Array.length_toList
      omega
    rw [e1]
    have hib := hide (fun W => Tryz.strings_IndexByte ⟨#[113, 114, 98, 110]⟩ (s[0].toNat : Int) W)
    have h0 : (0 : Int) < (s.size : Int) := by omega
    go_enter Tryz.func118, Tryz.ntmps118
    go_upto_region 3 with fail
    go_quiet ((go_at_call 200; exact Calls.quiet_of_same (unhide hib _)))
    all_goals
      go_wp2
      go_ret2
      exact ⟨rfl, Gr.drewN (Gr.refl w) _⟩
  · have e1 : (rdT s) = (0, true) := by unfold rdT; rw [dif_neg h]
    rw [e1]
    have hs : s = ⟨#[]⟩ := by
      have : s.size = 0 := by omega
      exact ByteArray.size_eq_zero_iff.1 this
    subst hs
    go_enter Tryz.func118, Tryz.ntmps118
    go_wp2_with fail
    go_ret2
    exact ⟨rfl, Gr.refl _⟩

def mvA (x : Nat × Nat × UInt8) : Array Value := #[.int .i64 (x.1 : Int), .int .i64 (x.2.1 : Int), .int .u8 (x.2.2.toNat : Int)]

def readV (s : ByteArray) : Value := match mvR s with
  | some x => .tuple #[.agg (mvA x), .bool true]
  | none => .tuple #[.agg (mvA (0, 0, 0)), .bool false]

/-- board.Square, of any text. -/
def sqV (s : ByteArray) : Int × Bool := match sqS s with | some n => ((n : Int), true) | none => (0, false)

theorem infoMv3 : (Tryz.prog.info? 87).map (·.size) = some 3 := by kernel_rfl

theorem square_all (s : ByteArray) (w : World) : Calls Tryz.prog 117 #[.string s] w fun e w' => e = .returned (.tuple #[.int .i64 (sqV s).1, .bool (sqV s).2]) ∧ Gr w w' := by
  unfold sqV
  cases h : sqS s with
  | none => exact (square_no s h w).mono fun e w' q => ⟨q.1, by rw [q.2]; exact Gr.refl _⟩
  | some n => exact square_yes s n h w

set_option maxRecDepth 100000 in
set_option maxHeartbeats 1000000 in
theorem mread_any (s : ByteArray) (hs : s.size < 4294967281) (w : World) : Calls Tryz.prog 56 #[.string s] w fun e w' => e = .returned (readV s) ∧ Gr w w' := by
  have hg0 := hide ((Gr.refl w).alloc #[.int .i64 0, .int .i64 0, .int .u8 0] 87)
  have hsq := hide (fun x W => square_all x W)
  have hrt := hide (fun x W => readTurn_any x W)
  by_cases h45 : s.size = 4 ∨ s.size = 5
  · obtain ⟨V, hV⟩ : ∃ V, Hid (readV s = V) := ⟨_, hide rfl⟩
    rw [unhide hV]
    have hl : (4 : Int) ≤ (s.size : Int) ∧ (s.size : Int) ≤ 5 := by omega
    obtain ⟨l4, l5⟩ := hl
    go_enter Tryz.func56, Tryz.ntmps56
    obtain ⟨A1, hA1⟩ : ∃ x, Hid (sqV (s.extract 0 2) = x) := ⟨_, hide rfl⟩
    obtain ⟨A2, hA2⟩ : ∃ x, Hid (sqV (s.extract 2 4) = x) := ⟨_, hide rfl⟩
    obtain ⟨A3, hA3⟩ : ∃ x, Hid (rdT (s.extract 4 s.size) = x) := ⟨_, hide rfl⟩
    have hV2 : Hid (V = if A1.2 && A2.2 && A3.2 then .tuple #[.agg #[.int .i64 A1.1, .int .i64 A2.1, .int .u8 (A3.1.toNat : Int)], .bool true] else .tuple #[.agg #[.int .i64 0, .int .i64 0, .int .u8 0], .bool false]) := hide (by
      rw [← unhide hV, ← unhide hA1, ← unhide hA2, ← unhide hA3]
      unfold readV mvR sqV
      rw [if_pos h45]
      cases sqS (s.extract 0 2) with
      | none => rfl
      | some f =>
        cases sqS (s.extract 2 4) with
        | none => rfl
        | some t =>
          simp only
          cases (rdT (s.extract 4 s.size)).2 <;> rfl)
    have k1 : Hid (∀ W, Calls Tryz.prog 117 #[.string (s.extract 0 2)] W fun e w' => e = .returned (.tuple #[.int .i64 A1.1, .bool A1.2]) ∧ Gr W w') := hide (fun W => by rw [← unhide hA1]; exact unhide hsq _ W)
    have k2 : Hid (∀ W, Calls Tryz.prog 117 #[.string (s.extract 2 4)] W fun e w' => e = .returned (.tuple #[.int .i64 A2.1, .bool A2.2]) ∧ Gr W w') := hide (fun W => by rw [← unhide hA2]; exact unhide hsq _ W)
    have k3 : Hid (∀ W, Calls Tryz.prog 118 #[.string (s.extract 4 s.size)] W fun e w' => e = .returned (.tuple #[.int .u8 (A3.1.toNat : Int), .bool A3.2]) ∧ Gr W w') := hide (fun W => by rw [← unhide hA3]; exact unhide hrt _ W)
    have hb0 := hide (heap_alloc_new w (.cells #[.int .i64 0, .int .i64 0, .int .u8 0] 87))
    have hbs : Hid (w.heap.size < (w.alloc (.cells #[.int .i64 0, .int .i64 0, .int .u8 0] 87)).heap.size) := hide (by rw [World.size_alloc]; omega)
    have h45' := h45
    clear hV hA1 hA2 hA3 hsq hrt h45
    obtain ⟨a1, b1⟩ := A1
    obtain ⟨a2, b2⟩ := A2
    obtain ⟨a3, b3⟩ := A3
    simp only at hV2 k1 k2 k3
    generalize ((a3.toNat : Nat) : Int) = u3 at hV2 k3
    go_upto_region 1 with fail
    generalize w.alloc (.cells #[.int .i64 0, .int .i64 0, .int .u8 0] 87) = w0 at hg0 hb0 hbs ⊢
    go_cut [17] from 10 (fun s17 wx => s17 = .bool false ∧ wx = w0)
    case first =>
      rcases h45' with h | h
      · have n1 : ((s.size : Int) != 4) = false := by rw [h]; rfl
        go_wp2_with fail
        go_meet
        case rel => exact ⟨rfl, rfl⟩
      · have n1 : ((s.size : Int) != 4) = true := by rw [h]; rfl
        have n2 : ((s.size : Int) != 5) = false := by rw [h]; rfl
        go_wp2_with fail
        go_meet
        case rel => exact ⟨rfl, rfl⟩
    case rest =>
     obtain ⟨rfl, hww⟩ := hcut
     subst hww
     go_upto_region 3 with fail
     go_upto_region 4 with (go_at_call 117; refine (unhide k1 _).mono ?_; rintro e w1 ⟨rfl, hg1⟩)
     go_upto_region 5 with (go_at_call 117; refine (unhide k2 _).mono ?_; rintro e w2 ⟨rfl, hg2⟩)
     go_upto_region 6 with (go_at_call 118; refine (unhide k3 _).mono ?_; rintro e w3 ⟨rfl, hg3⟩)
     have hg := Gr.trans hg1 (Gr.trans hg2 hg3)
     have hb : w3.heap[w.heap.size]? = some (.cells #[.int .i64 0, .int .i64 0, .int .u8 0] 87) := (Below.block hg _ (unhide hbs)).trans (unhide hb0)
     have hgw := hide (Gr.trans (unhide hg0) hg)
     clear hg1 hg2 hg3 hg k1 k2 k3 hb0 hbs hg0
     cases b1
     · clear h45'
       go_wp2_with (refine wpList_store_row rfl 87 _ _ rfl w.heap.size #[.int .i64 0, .int .i64 0, .int .u8 0] rfl rfl 87 #[.int .i64 0, .int .i64 0, .int .u8 0] hb infoMv3 rfl (by simp [Value.oneCell']) ?_)
       exact bodyPost_ret (v := .tuple #[.agg #[.int .i64 0, .int .i64 0, .int .u8 0], .bool false]) (results_cell_tmp Tryz.results56 _ _ w.heap.size 87 _ (0, 0) _ rfl (setRow_heap _ _ _ _ _ _ hb) Tryz.underlying87 rfl infoMv3) rfl ⟨by rw [unhide hV2]; rfl, (unhide hgw).setRow _ (Nat.le_refl _) _⟩
     · cases b2
       · clear h45'
         go_wp2_with (refine wpList_store_row rfl 87 _ _ rfl w.heap.size #[.int .i64 0, .int .i64 0, .int .u8 0] rfl rfl 87 #[.int .i64 0, .int .i64 0, .int .u8 0] hb infoMv3 rfl (by simp [Value.oneCell']) ?_)
         exact bodyPost_ret (v := .tuple #[.agg #[.int .i64 0, .int .i64 0, .int .u8 0], .bool false]) (results_cell_tmp Tryz.results56 _ _ w.heap.size 87 _ (0, 0) _ rfl (setRow_heap _ _ _ _ _ _ hb) Tryz.underlying87 rfl infoMv3) rfl ⟨by rw [unhide hV2]; rfl, (unhide hgw).setRow _ (Nat.le_refl _) _⟩
       · cases b3
         · clear h45'
           go_wp2_with (refine wpList_store_row rfl 87 _ _ rfl w.heap.size #[.int .i64 0, .int .i64 0, .int .u8 0] rfl rfl 87 #[.int .i64 0, .int .i64 0, .int .u8 0] hb infoMv3 rfl (by simp [Value.oneCell']) ?_)
           exact bodyPost_ret (v := .tuple #[.agg #[.int .i64 0, .int .i64 0, .int .u8 0], .bool false]) (results_cell_tmp Tryz.results56 _ _ w.heap.size 87 _ (0, 0) _ rfl (setRow_heap _ _ _ _ _ _ hb) Tryz.underlying87 rfl infoMv3) rfl ⟨by rw [unhide hV2]; rfl, (unhide hgw).setRow _ (Nat.le_refl _) _⟩
         · clear h45'
           go_wp2_with (refine wpList_store_row rfl 87 _ _ rfl w.heap.size #[.int .i64 a1, .int .i64 a2, .int .u8 u3] rfl rfl 87 #[.int .i64 0, .int .i64 0, .int .u8 0] hb infoMv3 rfl (by simp [Value.oneCell']) ?_)
           exact bodyPost_ret (v := .tuple #[.agg #[.int .i64 a1, .int .i64 a2, .int .u8 u3], .bool true]) (results_cell_tmp Tryz.results56 _ _ w.heap.size 87 _ (0, 0) _ rfl (setRow_heap _ _ _ _ _ _ hb) Tryz.underlying87 rfl infoMv3) rfl ⟨by rw [unhide hV2]; rfl, (unhide hgw).setRow _ (Nat.le_refl _) _⟩
  · have hv : readV s = .tuple #[.agg (mvA (0, 0, 0)), .bool false] := by unfold readV mvR; rw [if_neg h45]
    rw [hv]
    have n4 : ((s.size : Int) != 4) = true := by rw [bne_iff_ne]; omega
    have n5 : ((s.size : Int) != 5) = true := by rw [bne_iff_ne]; omega
    clear h45 hsq hrt
    go_enter Tryz.func56, Tryz.ntmps56
    go_wp2_with fail
    exact bodyPost_ret (v := .tuple #[.agg #[.int .i64 0, .int .i64 0, .int .u8 0], .bool false]) (results_cell_tmp Tryz.results56 _ _ w.heap.size 87 _ (0, 0) _ rfl (heap_alloc_new w _) Tryz.underlying87 rfl infoMv3) rfl ⟨rfl, unhide hg0⟩

end Go.Proofs.YtnfakamfmkhlbabGreatDoor.C

namespace Go.Proofs.YtnfakamfmkhlbabGreatDoor.C

open Go.ChangeShapes Go.WideShapes Go.ChangeAt Go.RowKit Go.Shelf

open Go.Proofs.YtnfakamfmkhlbabGreatDoor.P

attribute [local go_sem] setCell_drewN alloc_drewN Oper.semAt_some

def zMv : Array Value := #[.int .i64 0, .int .i64 0, .int .u8 0]

/-- what toMove answers. -/
def ToEnd (s t : ByteArray) (e : Ending) : Prop :=
  (∃ k, BadK s k ∧ e = .returned (.tuple #[.agg Tryz.zeroCells70, .agg zMv, .int .i64 k])) ∨
  (∃ p, readS s = some p ∧ posCan p = true ∧ mvR t = none ∧ e = .returned (.tuple #[.agg Tryz.zeroCells70, .agg zMv, .int .i64 1])) ∨
  (∃ p x, readS s = some p ∧ posCan p = true ∧ mvR t = some x ∧ x ∉ movS (posZ p) p.white p.castle p.behind ∧ e = .returned (.tuple #[.agg Tryz.zeroCells70, .agg zMv, .int .i64 4])) ∨
  (∃ p x, readS s = some p ∧ posCan p = true ∧ mvR t = some x ∧ x ∈ movS (posZ p) p.white p.castle p.behind ∧ e = .returned (.tuple #[.agg (posV p), .agg (mvA x), .int .i64 0]))

/-- the two results of toMove, in a world. -/
structure Tm (w W : World) : Prop where
  ps : W.heap[w.heap.size]? = some (.cells Tryz.zeroCells70 70)
  mv : W.heap[w.heap.size + 1]? = some (.cells zMv 87)
  lt : w.heap.size + 1 < W.heap.size
  gr : Gr w W

theorem Tm.next {w W W' : World} (h : Tm w W) (g : Gr W W') : Tm w W' :=
  ⟨(Below.block g _ (Nat.lt_of_succ_lt h.lt)).trans h.ps, (Below.block g _ h.lt).trans h.mv, Nat.lt_of_lt_of_le h.lt (Below.size g), Gr.trans h.gr g⟩

theorem Tm.start (w : World) : Tm w ((w.alloc (.cells Tryz.zeroCells70 70)).alloc (.cells zMv 87)) := by
  obtain ⟨e1, e2⟩ := heapTwo w (.cells Tryz.zeroCells70 70) (.cells zMv 87)
  exact ⟨e1, e2, by rw [World.size_alloc, World.size_alloc]; omega, ((Gr.refl w).alloc _ _).alloc _ _⟩

theorem zMv_ones : zMv.all (·.oneCell') = true := by simp [zMv, Value.oneCell']

/-- the blocks of both results, once they are written. -/
theorem Tm.out {w W : World} (h : Tm w W) (A M : Array Value) : ((W.setRow w.heap.size A).setRow (w.heap.size + 1) M).heap[w.heap.size]? = some (.cells A 70) ∧ ((W.setRow w.heap.size A).setRow (w.heap.size + 1) M).heap[w.heap.size + 1]? = some (.cells M 87) ∧ Gr w ((W.setRow w.heap.size A).setRow (w.heap.size + 1) M) :=
  ⟨by rw [setRow_other _ _ _ _ (by omega)]; exact setRow_heap _ _ _ _ _ _ h.ps, setRow_heap _ _ _ _ _ _ (by rw [setRow_other _ _ _ _ (by omega)]; exact h.mv), (h.gr.setRow _ (Nat.le_refl _) _).setRow _ (by omega) _⟩

theorem Tm.second {w W : World} (h : Tm w W) (A : Array Value) : (W.setRow w.heap.size A).heap[w.heap.size + 1]? = some (.cells zMv 87) := by rw [setRow_other _ _ _ _ (by omega)]; exact h.mv

theorem rowOf2 {W : World} {b : Nat} {A : Array Value} {ty : TypeId} (h : W.heap[b]? = some (.cells A ty)) (_hl : b < W.heap.size) : RowAt b A W := rowAt_of h

/-- p and m of toMove besides. -/
structure T2 (w : World) (b1 : Nat) (A : Array Value) (b2 : Nat) (M : Array Value) (W : World) : Prop where
  tm : Tm w W
  p : W.heap[b1]? = some (.cells A 70)
  lp : b1 < W.heap.size
  m : W.heap[b2]? = some (.cells M 87)
  lm : b2 < W.heap.size

theorem T2.next {w W W' : World} {b1 b2 : Nat} {A M : Array Value} (h : T2 w b1 A b2 M W) (g : Gr W W') : T2 w b1 A b2 M W' :=
  ⟨h.tm.next g, (Below.block g _ h.lp).trans h.p, Nat.lt_of_lt_of_le h.lp (Below.size g), (Below.block g _ h.lm).trans h.m, Nat.lt_of_lt_of_le h.lm (Below.size g)⟩

/-- as T2, where the results may be written. -/
structure T3 (w : World) (b1 : Nat) (A : Array Value) (b2 : Nat) (M : Array Value) (W : World) : Prop where
  ps : ∃ R, R.size = 72 ∧ W.heap[w.heap.size]? = some (.cells R 70)
  mv : ∃ R, R.size = 3 ∧ W.heap[w.heap.size + 1]? = some (.cells R 87)
  gr : Gr w W
  p : W.heap[b1]? = some (.cells A 70)
  lp : b1 < W.heap.size
  m : W.heap[b2]? = some (.cells M 87)
  lm : b2 < W.heap.size
  h1 : w.heap.size + 1 < b1
  h2 : w.heap.size + 1 < b2

theorem T3.of {w W : World} {b1 b2 : Nat} {A M : Array Value} (h : T2 w b1 A b2 M W) (h1 : w.heap.size + 1 < b1) (h2 : w.heap.size + 1 < b2) : T3 w b1 A b2 M W :=
  ⟨⟨_, zeroP, h.tm.ps⟩, ⟨_, rfl, h.tm.mv⟩, h.tm.gr, h.p, h.lp, h.m, h.lm, h1, h2⟩

theorem T3.putP {w W : World} {b1 b2 : Nat} {A M : Array Value} (h : T3 w b1 A b2 M W) (X : Array Value) (hX : X.size = 72) : T3 w b1 A b2 M (W.setRow w.heap.size X) := by
  obtain ⟨R, r1, r2⟩ := h.ps
  obtain ⟨R', r3, r4⟩ := h.mv
  have := h.h1
  have := h.h2
  exact ⟨⟨X, hX, setRow_heap _ _ _ _ _ _ r2⟩, ⟨R', r3, by rw [setRow_other _ _ _ _ (by omega)]; exact r4⟩, h.gr.setRow _ (Nat.le_refl _) _, by rw [setRow_other _ _ _ _ (by omega)]; exact h.p, by rw [size_setRow]; exact h.lp, by rw [setRow_other _ _ _ _ (by omega)]; exact h.m, by rw [size_setRow]; exact h.lm, h.h1, h.h2⟩

theorem T3.putM {w W : World} {b1 b2 : Nat} {A M : Array Value} (h : T3 w b1 A b2 M W) (X : Array Value) (hX : X.size = 3) : T3 w b1 A b2 M (W.setRow (w.heap.size + 1) X) := by
  obtain ⟨R, r1, r2⟩ := h.ps
  obtain ⟨R', r3, r4⟩ := h.mv
  have := h.h1
  have := h.h2
  exact ⟨⟨R, r1, by rw [setRow_other _ _ _ _ (by omega)]; exact r2⟩, ⟨X, hX, setRow_heap _ _ _ _ _ _ r4⟩, h.gr.setRow _ (by omega) _, by rw [setRow_other _ _ _ _ (by omega)]; exact h.p, by rw [size_setRow]; exact h.lp, by rw [setRow_other _ _ _ _ (by omega)]; exact h.m, by rw [size_setRow]; exact h.lm, h.h1, h.h2⟩

theorem T3.c0 {w W : World} {b1 b2 : Nat} {A : Array Value} {x : Nat × Nat × UInt8} (h : T3 w b1 A b2 (mvA x) W) : W.cell? ⟨b2, 0, none⟩ = some (.int .i64 (x.1 : Int)) := by rw [cell_of_row _ _ _ _ _ _ h.m]; rfl

theorem T3.c1 {w W : World} {b1 b2 : Nat} {A : Array Value} {x : Nat × Nat × UInt8} (h : T3 w b1 A b2 (mvA x) W) : W.cell? ⟨b2, 1, none⟩ = some (.int .i64 (x.2.1 : Int)) := by rw [cell_of_row _ _ _ _ _ _ h.m]; rfl

theorem T3.c2 {w W : World} {b1 b2 : Nat} {A : Array Value} {x : Nat × Nat × UInt8} (h : T3 w b1 A b2 (mvA x) W) : W.cell? ⟨b2, 2, none⟩ = some (.int .u8 (x.2.2.toNat : Int)) := by rw [cell_of_row _ _ _ _ _ _ h.m]; rfl

theorem T2.c0 {w W : World} {b1 b2 : Nat} {A : Array Value} {x : Nat × Nat × UInt8} (h : T2 w b1 A b2 (mvA x) W) : W.cell? ⟨b2, 0, none⟩ = some (.int .i64 (x.1 : Int)) := by rw [cell_of_row _ _ _ _ _ _ h.m]; rfl

theorem T2.c1 {w W : World} {b1 b2 : Nat} {A : Array Value} {x : Nat × Nat × UInt8} (h : T2 w b1 A b2 (mvA x) W) : W.cell? ⟨b2, 1, none⟩ = some (.int .i64 (x.2.1 : Int)) := by rw [cell_of_row _ _ _ _ _ _ h.m]; rfl

theorem T2.c2 {w W : World} {b1 b2 : Nat} {A : Array Value} {x : Nat × Nat × UInt8} (h : T2 w b1 A b2 (mvA x) W) : W.cell? ⟨b2, 2, none⟩ = some (.int .u8 (x.2.2.toNat : Int)) := by rw [cell_of_row _ _ _ _ _ _ h.m]; rfl

set_option linter.unusedSimpArgs false in
set_option maxRecDepth 100000 in
set_option maxHeartbeats 4000000 in
theorem toMove_any (s t : ByteArray) (hs : s.size < 4294967281) (ht : t.size < 4294967281) (m : Int) (w : World) (hc : Ct m w) (htb : Tabs w) : Calls Tryz.prog 31 #[.string s, .string t] w fun e w' => ToEnd s t e ∧ Gr w w' := by
  have hT0 := Tm.start w
  have h1 : Hid (∀ W, Gr w W → Calls Tryz.prog 34 #[.string s] W fun e w' => ParseEnd s e ∧ Gr W w') := hide (fun W g => parse_any s hs m W (hc.gr g).mx (hc.gr g).ml (hc.gr g).tab (hc.gr g).homes)
  have hrd := hide (fun W => mread_any t ht W)
  rcases parse_split s with ⟨p, hr, hcan, hone⟩ | ⟨k, hk, hbad, hone⟩
  · have h2 : Hid (∀ W, Gr w W → Calls Tryz.prog 34 #[.string s] W fun e w' => e = .returned (.tuple #[.agg (posV p), .int .i64 0]) ∧ Gr W w') := hide (fun W g => (unhide h1 W g).mono fun e w' h => ⟨hone e h.1, h.2⟩)
    have hrow := row_read hr
    have hz := hrow.size
    have ho := hide (row_ones hrow)
    have hb := read_beh hr
    have hle : Hid (∀ (y : Mv) W, Gr w W → Calls Tryz.prog 57 #[.agg setA, .agg (posV p), .agg (mvA y)] W fun e w' => e = .returned (.bool ((movS (posZ p) p.white p.castle p.behind).any fun x => x == y)) ∧ Gr W w') := hide (fun y W g => isLegalQ_any hrow (can_lay hcan) hb.1 hb.2 y W (hc.gr g).tab (htb.gr g).cas)
    have hend1 : Hid (mvR t = none → ToEnd s t (.returned (.tuple #[.agg Tryz.zeroCells70, .agg zMv, .int .i64 1]))) := hide (fun e => .inr (.inl ⟨p, hr, hcan, e, rfl⟩))
    have hend4 : Hid (∀ x, mvR t = some x → ((movS (posZ p) p.white p.castle p.behind).any fun y => y == x) = false → ToEnd s t (.returned (.tuple #[.agg Tryz.zeroCells70, .agg zMv, .int .i64 4]))) := hide (fun x e q => .inr (.inr (.inl ⟨p, x, hr, hcan, e, fun hx => by
      rw [List.any_eq_false] at q
      exact q x hx (by simp), rfl⟩)))
    have hend0 : Hid (∀ x, mvR t = some x → ((movS (posZ p) p.white p.castle p.behind).any fun y => y == x) = true → ToEnd s t (.returned (.tuple #[.agg (posV p), .agg (mvA x), .int .i64 0]))) := hide (fun x e q => .inr (.inr (.inr ⟨p, x, hr, hcan, e, by
      obtain ⟨y, hy, e⟩ := List.any_eq_true.1 q
      have : y = x := by simpa using e
      rw [← this]; exact hy, rfl⟩)))
    generalize posV p = A at h2 hz ho hle hend0
    clear h1 hone hc htb hs ht hrow hb hr hcan
    go_enter Tryz.func31, Tryz.ntmps31
    go_upto_region 1 with fail
    show Code.wp _ _ _ _ ((w.alloc (.cells Tryz.zeroCells70 70)).alloc (.cells zMv 87))
    generalize ((w.alloc (.cells Tryz.zeroCells70 70)).alloc (.cells zMv 87)) = w0 at hT0 ⊢
    have hg0 := hT0.gr
    go_upto_region 4 with (first
      | (go_at_call 34; refine (unhide h2 _ hg0).mono ?_; rintro e w3 ⟨rfl, hg3⟩)
      | (refine wpList_store_row rfl 70 _ _ rfl w3.heap.size A rfl rfl 70 _ (heap_alloc_new _ _) (by rw [hz]; exact infoP) (by rw [hz]; exact zeroP.symm) (unhide ho) ?_))
    have hg4 : Gr w3 ((w3.alloc (.cells Tryz.zeroCells70 70)).setRow w3.heap.size A) := ((Gr.refl w3).alloc Tryz.zeroCells70 70).setRow w3.heap.size (Nat.le_refl _) A
    have hT4 := hT0.next (Gr.trans hg3 hg4)
    have hb1 : ((w3.alloc (.cells Tryz.zeroCells70 70)).setRow w3.heap.size A).heap[w3.heap.size]? = some (.cells A 70) := setRow_heap _ _ _ _ _ _ (heap_alloc_new w3 _)
    have hlb : w3.heap.size < ((w3.alloc (.cells Tryz.zeroCells70 70)).setRow w3.heap.size A).heap.size := by rw [size_setRow, World.size_alloc]; omega
    show Code.wp _ _ _ _ ((w3.alloc (.cells Tryz.zeroCells70 70)).setRow w3.heap.size A)
    generalize (w3.alloc (.cells Tryz.zeroCells70 70)).setRow w3.heap.size A = w4 at hT4 hb1 hlb ⊢
    have hlo1 : w.heap.size + 1 < w3.heap.size := Nat.lt_of_lt_of_le hT0.lt (Below.size hg3)
    generalize w3.heap.size = b1 at hb1 hlb hlo1 ⊢
    clear hT0 hg0 hg3 hg4 h2
    cases hm : mvR t with
    | none =>
      have hv : readV t = .tuple #[.agg zMv, .bool false] := by unfold readV; rw [hm]; rfl
      rw [hv] at hrd
      have hend := hide (unhide hend1 hm)
      clear hend1 hend4 hend0 hle hm hv
      go_upto_region 5 with (first
        | (go_at_call 56; refine (unhide hrd _).mono ?_; rintro e w5 ⟨rfl, hg5⟩)
        | (refine wpList_store_row rfl 87 _ _ rfl w5.heap.size zMv rfl rfl 87 zMv (heap_alloc_new _ _) infoMv3 rfl zMv_ones ?_))
      have hT6 := (hT4.next hg5).next (((Gr.refl w5).alloc zMv 87).setRow w5.heap.size (Nat.le_refl _) zMv)
      show Code.wp _ _ _ _ ((w5.alloc (.cells zMv 87)).setRow w5.heap.size zMv)
      generalize (w5.alloc (.cells zMv 87)).setRow w5.heap.size zMv = w6 at hT6 ⊢
      have hps := hide hT6.ps
      have hmv := hide (hT6.second Tryz.zeroCells70)
      have hout := hide (hT6.out Tryz.zeroCells70 zMv)
      clear hT4 hT6 hb1 hlb hg5 hrd
      go_wp2_with (first
        | (refine wpList_store_row rfl 70 _ _ rfl w.heap.size Tryz.zeroCells70 rfl rfl 70 Tryz.zeroCells70 (unhide hps) (by rw [zeroP]; exact infoP) rfl zeroP_ones ?_)
        | (refine wpList_store_row rfl 87 _ _ rfl (w.heap.size + 1) zMv rfl rfl 87 zMv (unhide hmv) infoMv3 rfl zMv_ones ?_))
      exact bodyPost_ret (v := .tuple #[.agg Tryz.zeroCells70, .agg zMv, .int .i64 1]) (results_cct Tryz.results31 _ _ w.heap.size (w.heap.size + 1) 70 87 _ _ (0, 0) (0, 0) _ _ rfl (unhide hout).1 Tryz.underlying70 rfl (by rw [zeroP]; exact infoP) rfl (unhide hout).2.1 Tryz.underlying87 rfl infoMv3) rfl ⟨unhide hend, (unhide hout).2.2⟩
    | some x =>
      have hv : readV t = .tuple #[.agg (mvA x), .bool true] := by unfold readV; rw [hm]
      rw [hv] at hrd
      have h4 := hide (unhide hend4 x hm)
      have h0 := hide (unhide hend0 x hm)
      have hle' := hide (unhide hle x)
      obtain ⟨LG, hLG⟩ : ∃ q, Hid (((movS (posZ p) p.white p.castle p.behind).any fun y => y == x) = q) := ⟨_, hide rfl⟩
      rw [unhide hLG] at h4 h0 hle'
      clear hend1 hend4 hend0 hle hm hv hLG
      have hone : (mvA x).all (·.oneCell') = true := by simp [mvA, Value.oneCell']
      go_upto_region 5 with (first
        | (go_at_call 56; refine (unhide hrd _).mono ?_; rintro e w5 ⟨rfl, hg5⟩)
        | (refine wpList_store_row rfl 87 _ _ rfl w5.heap.size (mvA x) rfl rfl 87 zMv (heap_alloc_new _ _) infoMv3 rfl hone ?_))
      have hg6 : Gr w5 ((w5.alloc (.cells zMv 87)).setRow w5.heap.size (mvA x)) := ((Gr.refl w5).alloc zMv 87).setRow w5.heap.size (Nat.le_refl _) (mvA x)
      have hT6 := (hT4.next hg5).next hg6
      have hb1' := (Below.block (Gr.trans hg5 hg6) _ hlb).trans hb1
      have hb2 : ((w5.alloc (.cells zMv 87)).setRow w5.heap.size (mvA x)).heap[w5.heap.size]? = some (.cells (mvA x) 87) := setRow_heap _ _ _ _ _ _ (heap_alloc_new w5 _)
      have hlb2 : w5.heap.size < ((w5.alloc (.cells zMv 87)).setRow w5.heap.size (mvA x)).heap.size := by rw [size_setRow, World.size_alloc]; omega
      have hlb' := Nat.lt_of_lt_of_le hlb (Below.size (Gr.trans hg5 hg6))
      show Code.wp _ _ _ _ ((w5.alloc (.cells zMv 87)).setRow w5.heap.size (mvA x))
      generalize (w5.alloc (.cells zMv 87)).setRow w5.heap.size (mvA x) = w6 at hT6 hb1' hb2 hlb2 hlb' ⊢
      have hlo2 : w.heap.size + 1 < w5.heap.size := Nat.lt_of_lt_of_le hT4.lt (Below.size hg5)
      generalize w5.heap.size = b2 at hb2 hlb2 hlo2 ⊢
      clear hT4 hb1 hlb hg5 hg6 hrd
      go_upto_region 7 with fail
      have hS : T2 w b1 A b2 (mvA x) w6.drew := ⟨hT6.next (Gr.refl _).drew, hb1', hlb', hb2, hlb2⟩
      clear hT6 hb1' hlb' hb2 hlb2
      refine wp_region_held_drew (S := T2 w b1 A b2 (mvA x)) (by kernel_rfl) hS (fun hHeld => ?_)
      clear hS
      refine wpAnyH_take (i := 1) (v := .agg A) rfl (by kernel_rfl) (by kernel_rfl) (by kernel_rfl) (fun _ _ _ h => h) (y_pos hz (by rfl) _ rfl b1 rfl (fun _ h => rowOf2 h.p h.lp)) hHeld ?_
      simp only [Act.put, List.getElem_toArray, List.getElem_cons_zero, List.getElem_cons_succ, List.setIfInBounds_toArray, List.set_cons_zero, List.set_cons_succ]
      refine wpAnyH_take (i := 2) (v := .agg (mvA x)) rfl (by kernel_rfl) (by kernel_rfl) (by kernel_rfl) (fun _ _ _ h => h) (Or.inl ⟨by rfl, fun w' hw => (by have c0 := hw.c0; have c1 := hw.c1; have c2 := hw.c2; go_simp; rfl)⟩) hHeld ?_
      simp only [Act.put, List.getElem_toArray, List.getElem_cons_zero, List.getElem_cons_succ, List.setIfInBounds_toArray, List.set_cons_zero, List.set_cons_succ]
      refine wpAnyH_ready (rs := [0]) (by kernel_rfl) (by simp) ?_
      refine AllReadyH.cons rfl (fun K hK => ?_) AllReadyH.nil
      go_simp
      refine (quick_any _).mono ?_
      rintro e wa ⟨rfl, hga⟩
      refine hK.out _ _ (hHeld.next hga) (fun hHeld => ?_)
      clear hK K hga
      try simp only [Act.put, List.getElem_toArray, List.getElem_cons_zero, List.getElem_cons_succ, List.setIfInBounds_toArray, List.set_cons_zero, List.set_cons_succ]
      refine wpAnyH_ready (rs := [3]) (by kernel_rfl) (by simp) ?_
      refine AllReadyH.cons rfl (fun K hK => ?_) AllReadyH.nil
      go_simp
      refine (unhide hle' _ hHeld.tm.gr).mono ?_
      rintro e wb ⟨rfl, hgb⟩
      refine hK.out _ _ (hHeld.next hgb) (fun hHeld => ?_)
      clear hK K hgb
      try simp only [Act.put, List.getElem_toArray, List.getElem_cons_zero, List.getElem_cons_succ, List.setIfInBounds_toArray, List.set_cons_zero, List.set_cons_succ]
      refine wpAnyH_take (i := 4) (v := .bool (!LG)) rfl (by kernel_rfl) (by kernel_rfl) (by kernel_rfl) (fun _ _ _ h => h) (Or.inl ⟨by rfl, fun w' hw => (by go_simp)⟩) hHeld ?_
      simp only [Act.put, List.getElem_toArray, List.getElem_cons_zero, List.getElem_cons_succ, List.setIfInBounds_toArray, List.set_cons_zero, List.set_cons_succ]
      refine wpAnyH_done (by kernel_rfl) ?_ _
      cases LG
      · have hend := hide (unhide h4 rfl)
        have hps := hide hHeld.tm.ps
        have hmv := hide (hHeld.tm.second Tryz.zeroCells70)
        have hout := hide (hHeld.tm.out Tryz.zeroCells70 zMv)
        clear h0 h4 hle' hHeld
        go_wp2_with (first
          | (refine wpList_store_row rfl 70 _ _ rfl w.heap.size Tryz.zeroCells70 rfl rfl 70 Tryz.zeroCells70 (unhide hps) (by rw [zeroP]; exact infoP) rfl zeroP_ones ?_)
          | (refine wpList_store_row rfl 87 _ _ rfl (w.heap.size + 1) zMv rfl rfl 87 zMv (unhide hmv) infoMv3 rfl zMv_ones ?_))
        exact bodyPost_ret (v := .tuple #[.agg Tryz.zeroCells70, .agg zMv, .int .i64 4]) (results_cct Tryz.results31 _ _ w.heap.size (w.heap.size + 1) 70 87 _ _ (0, 0) (0, 0) _ _ rfl (unhide hout).1 Tryz.underlying70 rfl (by rw [zeroP]; exact infoP) rfl (unhide hout).2.1 Tryz.underlying87 rfl infoMv3) rfl ⟨unhide hend, (unhide hout).2.2⟩
      · have hend := hide (unhide h0 rfl)
        have hAo := unhide ho
        clear h0 h4 hle'
        go_upto_region 9 with fail
        have hS : T3 w b1 A b2 (mvA x) wb.drew := T3.of (hHeld.next (Gr.refl _).drew) hlo1 hlo2
        clear hHeld
        refine wp_region_held_drew (S := T3 w b1 A b2 (mvA x)) (by kernel_rfl) hS (fun hHeld => ?_)
        clear hS
        refine wpAnyH_take (i := 0) (v := .agg A) rfl (by kernel_rfl) (by kernel_rfl) (by kernel_rfl) (fun _ _ _ h => h) (y_pos hz (by rfl) _ rfl b1 rfl (fun _ h => rowOf2 h.p h.lp)) hHeld ?_
        simp only [Act.put, List.getElem_toArray, List.getElem_cons_zero, List.getElem_cons_succ, List.setIfInBounds_toArray, List.set_cons_zero, List.set_cons_succ]
        refine wpAnyH_take (i := 1) (v := .agg (mvA x)) rfl (by kernel_rfl) (by kernel_rfl) (by kernel_rfl) (fun _ _ _ h => h) (Or.inl ⟨by rfl, fun w' hw => (by have c0 := hw.c0; have c1 := hw.c1; have c2 := hw.c2; go_simp; rfl)⟩) hHeld ?_
        simp only [Act.put, List.getElem_toArray, List.getElem_cons_zero, List.getElem_cons_succ, List.setIfInBounds_toArray, List.set_cons_zero, List.set_cons_succ]
        refine wpAnyH_ready (rs := [2]) (by kernel_rfl) (by simp) ?_
        refine AllReadyH.cons rfl (fun K hK => ?_) AllReadyH.nil
        rw [if_pos (by rfl)]
        obtain ⟨R1, r1, r2⟩ := hHeld.ps
        refine wp_store_row 70 _ _ rfl w.heap.size A rfl rfl 70 R1 r2 (by rw [hz]; exact infoP) (by rw [hz, r1]) hAo ?_
        refine hK.out _ _ (hHeld.putP A hz) (fun hHeld => ?_)
        clear hK K
        try simp only [Act.put, List.getElem_toArray, List.getElem_cons_zero, List.getElem_cons_succ, List.setIfInBounds_toArray, List.set_cons_zero, List.set_cons_succ]
        refine wpAnyH_ready (rs := [3]) (by kernel_rfl) (by simp) ?_
        refine AllReadyH.cons rfl (fun K hK => ?_) AllReadyH.nil
        rw [if_pos (by rfl)]
        obtain ⟨R3, r5, r6⟩ := hHeld.mv
        refine wp_store_row 87 _ _ rfl (w.heap.size + 1) (mvA x) rfl rfl 87 R3 r6 infoMv3 (by rw [r5]; rfl) hone ?_
        have hp9 : _ := setRow_heap _ _ _ A _ _ r2
        refine hK.out _ _ (hHeld.putM (mvA x) rfl) (fun hHeld => ?_)
        clear hK K
        try simp only [Act.put, List.getElem_toArray, List.getElem_cons_zero, List.getElem_cons_succ, List.setIfInBounds_toArray, List.set_cons_zero, List.set_cons_succ]
        refine wpAnyH_ready (rs := [4]) (by kernel_rfl) (by simp) ?_
        refine AllReadyH.cons rfl (fun K hK => ?_) AllReadyH.nil
        go_simp
        refine hK.out _ _ hHeld (fun hHeld => ?_)
        clear hK K
        try simp only [Act.put, List.getElem_toArray, List.getElem_cons_zero, List.getElem_cons_succ, List.setIfInBounds_toArray, List.set_cons_zero, List.set_cons_succ]
        refine wpAnyH_done (by kernel_rfl) ?_ _
        have hgf := hide hHeld.gr
        go_wp2_with fail
        exact bodyPost_ret (v := .tuple #[.agg A, .agg (mvA x), .int .i64 0]) (results_cct Tryz.results31 _ _ w.heap.size (w.heap.size + 1) 70 87 _ _ (0, 0) (0, 0) _ _ rfl (by rw [setRow_other _ _ _ _ (by omega)]; exact hp9) Tryz.underlying70 rfl (by rw [hz]; exact infoP) rfl (setRow_heap _ _ _ _ _ _ r6) Tryz.underlying87 rfl infoMv3) rfl ⟨unhide hend, unhide hgf⟩
  · have h2 : Hid (∀ W, Gr w W → Calls Tryz.prog 34 #[.string s] W fun e w' => e = .returned (.tuple #[.agg Tryz.zeroCells70, .int .i64 k]) ∧ Gr W w') := hide (fun W g => (unhide h1 W g).mono fun e w' h => ⟨hone e h.1, h.2⟩)
    have hend : Hid (ToEnd s t (.returned (.tuple #[.agg Tryz.zeroCells70, .agg zMv, .int .i64 k]))) := hide (.inl ⟨k, hbad, rfl⟩)
    have k2 : (k != 0) = true := by rw [bne_iff_ne]; exact hk
    clear h1 hone hbad hc htb hs ht hrd hk
    go_enter Tryz.func31, Tryz.ntmps31
    go_upto_region 1 with fail
    show Code.wp _ _ _ _ ((w.alloc (.cells Tryz.zeroCells70 70)).alloc (.cells zMv 87))
    generalize ((w.alloc (.cells Tryz.zeroCells70 70)).alloc (.cells zMv 87)) = w0 at hT0 ⊢
    have hg0 := hT0.gr
    go_upto_region 2 with (first
      | (go_at_call 34; refine (unhide h2 _ hg0).mono ?_; rintro e w3 ⟨rfl, hg3⟩)
      | (refine wpList_store_row rfl 70 _ _ rfl w3.heap.size Tryz.zeroCells70 rfl rfl 70 _ (heap_alloc_new _ _) (by rw [zeroP]; exact infoP) rfl zeroP_ones ?_))
    have hT4 := hT0.next (Gr.trans hg3 (((Gr.refl w3).alloc Tryz.zeroCells70 70).setRow w3.heap.size (Nat.le_refl _) Tryz.zeroCells70))
    generalize (w3.alloc (.cells Tryz.zeroCells70 70)).setRow w3.heap.size Tryz.zeroCells70 = w4 at hT4 ⊢
    have hps := hide hT4.ps
    have hmv := hide (hT4.second Tryz.zeroCells70)
    have hout := hide (hT4.out Tryz.zeroCells70 zMv)
    clear hT4 hT0 hg0 hg3 h2
    go_wp2_with (first
      | (refine wpList_store_row rfl 70 _ _ rfl w.heap.size Tryz.zeroCells70 rfl rfl 70 Tryz.zeroCells70 (unhide hps) (by rw [zeroP]; exact infoP) rfl zeroP_ones ?_)
      | (refine wpList_store_row rfl 87 _ _ rfl (w.heap.size + 1) zMv rfl rfl 87 zMv (unhide hmv) infoMv3 rfl zMv_ones ?_))
    exact bodyPost_ret (v := .tuple #[.agg Tryz.zeroCells70, .agg zMv, .int .i64 k]) (results_cct Tryz.results31 _ _ w.heap.size (w.heap.size + 1) 70 87 _ _ (0, 0) (0, 0) _ _ rfl (unhide hout).1 Tryz.underlying70 rfl (by rw [zeroP]; exact infoP) rfl (unhide hout).2.1 Tryz.underlying87 rfl infoMv3) rfl ⟨unhide hend, (unhide hout).2.2⟩

end Go.Proofs.YtnfakamfmkhlbabGreatDoor.C

namespace Go.Proofs.YtnfakamfmkhlbabGreatDoor.C

open Go.ChangeShapes Go.WideShapes Go.ChangeAt Go.RowKit Go.Shelf

open Go.Proofs.YtnfakamfmkhlbabGreatDoor.P

attribute [local go_sem] setCell_drewN alloc_drewN Oper.semAt_some

end Go.Proofs.YtnfakamfmkhlbabGreatDoor.C

namespace Go.Proofs.YtnfakamfmkhlbabGreatDoor.C

open Go.ChangeShapes Go.WideShapes Go.ChangeAt Go.RowKit Go.Shelf

end Go.Proofs.YtnfakamfmkhlbabGreatDoor.C

namespace Go.Proofs.YtnfakamfmkhlbabGreatDoor.C

open Go.RowKit

open Go.Proofs.YtnfakamfmkhlbabGreatDoor.P

/-! what stands behind a move: the reference's is the program's -/

end Go.Proofs.YtnfakamfmkhlbabGreatDoor.C

namespace Go.Proofs.YtnfakamfmkhlbabGreatDoor.C

open Go.RowKit

open Go.Proofs.YtnfakamfmkhlbabGreatDoor.P

section

variable {z : Nat → UInt8} {wh : Bool} {fc : Nat → Bool} {b : Int}

/-! rights, the square behind, clocks -/

end

end Go.Proofs.YtnfakamfmkhlbabGreatDoor.C

namespace Go.Proofs.YtnfakamfmkhlbabGreatDoor.C

open Go.RowKit

open Go.Proofs.YtnfakamfmkhlbabGreatDoor.P

section

variable {z : Nat → UInt8} {wh : Bool} {fc : Nat → Bool} {b : Int} {i f t cs : Nat} {u : UInt8}

end

end Go.Proofs.YtnfakamfmkhlbabGreatDoor.C

namespace Go.Proofs.YtnfakamfmkhlbabGreatDoor.C

open Go.RowKit

open Go.Proofs.YtnfakamfmkhlbabGreatDoor.P

/-! a move's text says the move, and no other text does -/

end Go.Proofs.YtnfakamfmkhlbabGreatDoor.C

namespace Go.Proofs.YtnfakamfmkhlbabGreatDoor.C

open Go.ChangeShapes Go.WideShapes Go.ChangeAt Go.RowKit Go.Shelf

open Go.Proofs.YtnfakamfmkhlbabGreatDoor.P

attribute [local go_sem] setCell_drewN alloc_drewN

end Go.Proofs.YtnfakamfmkhlbabGreatDoor.C

namespace Go.Proofs.YtnfakamfmkhlbabGreatDoor.C

open Go.RowKit

open Go.Proofs.YtnfakamfmkhlbabGreatDoor.P

end Go.Proofs.YtnfakamfmkhlbabGreatDoor.C

namespace Go.Proofs.YtnfakamfmkhlbabGreatDoor.C

open Go.RowKit

open Go.Proofs.YtnfakamfmkhlbabGreatDoor.P

end Go.Proofs.YtnfakamfmkhlbabGreatDoor.C

namespace Go.Proofs.YtnfakamfmkhlbabGreatDoor.C

open Go.RowKit

open Go.Proofs.YtnfakamfmkhlbabGreatDoor.P

/-! a position turned over -/

end Go.Proofs.YtnfakamfmkhlbabGreatDoor.C

namespace Go.Proofs.YtnfakamfmkhlbabGreatDoor.C

open Go.RowKit

open Go.Proofs.YtnfakamfmkhlbabGreatDoor.P

/-! a move's text, turned over -/

end Go.Proofs.YtnfakamfmkhlbabGreatDoor.C

namespace Go.Proofs.YtnfakamfmkhlbabGreatDoor.C

open Go.RowKit

open Go.Proofs.YtnfakamfmkhlbabGreatDoor.P

/-! what was written is read again -/

/-! the rights beyond the fourth say nothing -/

end Go.Proofs.YtnfakamfmkhlbabGreatDoor.C

namespace Go.Proofs.YtnfakamfmkhlbabGreatDoor.C

open Go.ChangeShapes Go.WideShapes Go.ChangeAt Go.RowKit Go.Shelf

open Go.Proofs.YtnfakamfmkhlbabGreatDoor.P

/-! the generator -/

end Go.Proofs.YtnfakamfmkhlbabGreatDoor.C

namespace Go.Proofs.YtnfakamfmkhlbabGreatDoor.C

open Go.RowKit

open Go.Proofs.YtnfakamfmkhlbabGreatDoor.P

/-! the key of a position -/

end Go.Proofs.YtnfakamfmkhlbabGreatDoor.C

namespace Go.Proofs.YtnfakamfmkhlbabGreatDoor.C

open Go.ChangeShapes Go.WideShapes Go.ChangeAt Go.RowKit Go.Shelf

open Go.Proofs.YtnfakamfmkhlbabGreatDoor.P

attribute [local go_sem] setCell_drewN alloc_drewN Oper.semAt_some

/-! the key, as the reference has it -/

end Go.Proofs.YtnfakamfmkhlbabGreatDoor.C

namespace Go.Proofs.YtnfakamfmkhlbabGreatDoor.C

open Go.RowKit

open Go.Proofs.YtnfakamfmkhlbabGreatDoor.P

/-! in how many ways a game may go on -/

variable {z : Nat → UInt8} {wh : Bool} {fc : Nat → Bool} {b h g : Int}

end Go.Proofs.YtnfakamfmkhlbabGreatDoor.C

namespace Go.Proofs.YtnfakamfmkhlbabGreatDoor.C

open Go.ChangeShapes Go.WideShapes Go.ChangeAt Go.RowKit Go.Shelf

open Go.Proofs.YtnfakamfmkhlbabGreatDoor.P

/-! a way, beside a memory -/

variable {z : Nat → UInt8} {wh : Bool} {fc : Nat → Bool} {b h g : Int} {PA : Array Value}

end Go.Proofs.YtnfakamfmkhlbabGreatDoor.C

namespace Go.Proofs.YtnfakamfmkhlbabGreatDoor.C

open Go.ChangeShapes Go.WideShapes Go.ChangeAt Go.RowKit Go.Shelf

open Go.Proofs.YtnfakamfmkhlbabGreatDoor.P

attribute [local go_sem] setCell_drewN alloc_drewN Oper.semAt_some

/-! questions, and the memory that knows nothing -/

end Go.Proofs.YtnfakamfmkhlbabGreatDoor.C

namespace Go.Proofs.YtnfakamfmkhlbabGreatDoor.C

open Go.ChangeShapes Go.WideShapes Go.ChangeAt Go.RowKit Go.Shelf

open Go.Proofs.YtnfakamfmkhlbabGreatDoor.P

attribute [local go_sem] setCell_drewN alloc_drewN Oper.semAt_some

/-! how toCount goes on -/

theorem bad_no {s : ByteArray} {k : Int} {p : Pos} (h : BadK s k) (hr : readS s = some p) (hc : posCan p = true) : False := by
  rcases h with ⟨_, a⟩ | ⟨_, q, a, b⟩
  · rw [hr] at a; cases a
  · rw [hr] at a; rw [← Option.some.inj a, hc] at b; cases b

end Go.Proofs.YtnfakamfmkhlbabGreatDoor.C

namespace Go.Proofs.YtnfakamfmkhlbabGreatDoor.C

open Go.ChangeShapes Go.WideShapes Go.ChangeAt Go.RowKit Go.Shelf

open Go.Proofs.YtnfakamfmkhlbabGreatDoor.P

attribute [local go_sem] setCell_drewN alloc_drewN Oper.semAt_some

/-! the law of Divides -/

end Go.Proofs.YtnfakamfmkhlbabGreatDoor.C

namespace Go.Proofs.YtnfakamfmkhlbabGreatDoor.C

/-! a region inside a round, under the wide fence, walked as one outside -/

theorem rowsIn_wide {n : Nat} {P : Program} {row : String} {args : Array Value} {w : World} {R : Value → World → Prop} (h : Rows P row args w R) : RowsIn Fence.wide n P row args w R := fun c cs _ =>
  let ⟨v, w', r, s⟩ := h c cs
  ⟨v, w', r, stepsIn_wide.2 s⟩

theorem wpOpIn_of {l n : Nat} {P : Program} {ops : Array Oper} {Q : Exit → Act → World → Prop} {i : Nat} {K K' : Act → World → Prop} {a : Act} {w : World} (hL : ¬ LetsOut Q) (hd : ∀ o c, ops[i]? = some o → o.op ≠ .defer c) (hK : ∀ a w, K a w → K' a w) (h : wpOp P ops Q i K a w) : wpOpIn (Fence.wide.inRound l) n P ops Q i K' a w := by
  unfold wpOp at h
  unfold wpOpIn
  cases ho : ops[i]? with
  | none => rw [ho] at h; exact hK _ _ h
  | some o =>
    rw [ho] at h
    simp only at h ⊢
    split
    · rename_i hw
      simp only [hw, if_true] at h
      rcases h with h | ⟨_, h⟩
      case inr => exact absurd h hL
      refine ⟨fun _ _ => trivial, ?_⟩
      show Oper.uponIn (Fence.wide.inRound l) n P o a K' Q (Sem.run P (Oper.semAt (some l) a.eval o) w)
      rw [Oper.semAt_some l _ o (fun c => hd o c ho)]
      unfold Oper.wp at h
      generalize (execOp a.eval o).run P w = r at h
      cases r with
      | ok x w' =>
        cases x <;> simp only [Oper.upon] at h
        case value v => exact hK _ _ h
        case skip => exact hK _ _ h
        case defer d => exact hK _ _ h
        case enter f args =>
          refine ⟨fun h => (by cases h), CallsIn.inRound l (callsIn_wide.2 (Calls.mono h fun e w'' he => ?_))⟩
          cases e with
          | returned v => exact hK _ _ he
          | panicked c => exact he
          | outgrown => exact he
        case row row args => exact ⟨fun h => (by cases h), rowsIn_wide (Rows.mono h fun v w'' he => hK _ _ he)⟩
      | halt x w' =>
        cases x <;> simp only [Oper.upon] at h
        case panic v => exact h
    · rename_i hw
      simp only [hw] at h
      exact ⟨fun _ _ => trivial, hK _ _ h⟩

theorem wpAnyIn_of {l n : Nat} {P : Program} {ops : Array Oper} {Q : Exit → Act → World → Prop} {md : Region.Mode} (hL : ¬ LetsOut Q) (hd : ∀ (i : Nat) (o : Oper) (c : Call), ops[i]? = some o → o.op ≠ .defer c) : ∀ (fuel : Nat) (listed : Array Bool) (a : Act) (w : World), wpAny P md ops Q fuel listed a w → wpAnyIn (Fence.wide.inRound l) n P md ops Q fuel listed a w
  | 0, _, _, _, h => h
  | fuel + 1, _, _, _, h => ⟨h.1, fun i hi => wpOpIn_of hL (hd i) (wpAnyIn_of hL hd fuel _) (h.2 i hi)⟩

def noDefer (o : Oper) : Bool := match o.op with
  | .defer _ => false
  | _ => true

/-- THE BRIDGE. -/
theorem region_in_round {l n : Nat} {P : Program} {ops : Array Oper} {Q : Exit → Act → World → Prop} {S : World → Prop} {id : Nat} {a : Act} {w : World} (hm : P.follows .mixedOrders = true) (hL : ¬ LetsOut Q) (hd : ops.toList.all noDefer = true) (hS : S w.drew)
    (h : S w.drew → wpAnyH P .any ops Q S ops.size (Array.replicate ops.size false) a w.drew) : (Code.region id ops true).wpIn (Fence.wide.inRound l) n P Q a w := by
  refine wpIn_region_any hm (wpAnyIn_of hL (fun i o c ho hc => ?_) _ _ _ _ (wpAny_of_held _ _ _ _ (h hS)))
  have := List.all_eq_true.1 hd o (by
    have := List.mem_of_getElem? (show ops.toList[i]? = some o by rw [Array.getElem?_toList]; exact ho)
    exact this)
  rw [noDefer, hc] at this
  cases this

end Go.Proofs.YtnfakamfmkhlbabGreatDoor.C

namespace Go.Proofs.YtnfakamfmkhlbabGreatDoor.C

open Go.Proofs.YtnfakamfmkhlbabGreatDoor.P

/-! a move in short notation -/

def fileC (f : Nat) : UInt8 := UInt8.ofNat (97 + f % 8)

def rankC (f : Nat) : UInt8 := UInt8.ofNat (49 + f / 8)

theorem name_is (f : Nat) : nameS f = [fileC f, rankC f] := rfl

def upc (c : UInt8) : UInt8 := if 97 ≤ c ∧ c ≤ 122 then c - 32 else c

def capN (i : Nat) : UInt8 := [80, 78, 66, 82, 81, 75].getD i 0

def othB (M : List Mv) (z : Nat → UInt8) (f t : Nat) : List Mv := M.filter fun y => decide (y.2.1 = t) && !decide (y.1 = f) && decide (z y.1 = z f)

def whT (L : List Mv) (f : Nat) : List UInt8 :=
  if L.isEmpty = true then [] else if L.all (fun y => !decide (y.1 % 8 = f % 8)) = true then [fileC f] else if L.all (fun y => !decide (y.1 / 8 = f / 8)) = true then [rankC f] else nameS f

def pawnT (f t : Nat) (u : UInt8) : List UInt8 := (if f % 8 = t % 8 then [] else [fileC f, 120]) ++ nameS t ++ (if u = 0 then [] else [61, upc u])

def pieceT (M : List Mv) (z : Nat → UInt8) (f t : Nat) : List UInt8 := upc (z f) :: (whT (othB M z f t) f ++ (if z t = 46 then [] else [120]) ++ nameS t)

def bodyS (M : List Mv) (z : Nat → UInt8) (x : Mv) : List UInt8 :=
  if kingB (z x.1) = true ∧ x.2.1 = x.1 + 2 then [79, 45, 79] else if kingB (z x.1) = true ∧ x.2.1 + 2 = x.1 then [79, 45, 79, 45, 79]
  else if pawnB (z x.1) = true then pawnT x.1 x.2.1 x.2.2 else pieceT M z x.1 x.2.1

end Go.Proofs.YtnfakamfmkhlbabGreatDoor.C
