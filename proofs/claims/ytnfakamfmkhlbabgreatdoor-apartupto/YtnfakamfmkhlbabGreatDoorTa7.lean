import Derived.Test.YtnfakamfmkhlbabGreatDoorTa6
import Derived.Test.YtnfakamfmkhlbabGreatDoorTa2
import Derived.Stop.RegionWithIn
import Derived.Test.YtnfakamfmkhlbabGreatDoorProg
import Derived.Conc.MuLib
import Derived.KernelRfl
import Derived.Conc.MuLone
namespace Go.Proofs.YtnfakamfmkhlbabGreatDoor.C

open Go.ChangeShapes Go.WideShapes Go.ChangeAt Go.RowKit Go.Shelf

open Go.Proofs.YtnfakamfmkhlbabGreatDoor.P

attribute [local go_sem] setCell_drewN alloc_drewN Oper.semAt_some

/-! rook.Long -/

structure Sq1 (w : World) (b1 : Nat) (A : Array Value) (W : World) : Prop where
  pa : W.heap[b1]? = some (.cells A 70)
  gr : Gr w W

theorem Sq1.next {w W W' : World} {b1 : Nat} {A : Array Value} (h : Sq1 w b1 A W) (g : Gr W W') : Sq1 w b1 A W' :=
  ⟨(Below.block g _ (Array.getElem?_eq_some_iff.1 h.pa).1).trans h.pa, Gr.trans h.gr g⟩

theorem Sq1.put {w W : World} {b1 : Nat} {A : Array Value} (h : Sq1 w b1 A W) (B : Nat) (M : Array Value) (hB : w.heap.size ≤ B) (hne : b1 ≠ B) : Sq1 w b1 A (W.setRow B M) :=
  ⟨by rw [setRow_other _ _ _ _ hne]; exact h.pa, h.gr.setRow _ hB _⟩

def LongEnd (s t : ByteArray) (e : Ending) : Prop :=
  (∃ k, BadK s k ∧ e = .returned (.tuple #[.string ⟨#[]⟩, .int .i64 k])) ∨
  (∃ p, readS s = some p ∧ posCan p = true ∧ shF (posZ p) p.white (fcN p.castle) p.behind t = [] ∧ e = .returned (.tuple #[.string ⟨#[]⟩, .int .i64 4])) ∨
  (∃ p x, readS s = some p ∧ posCan p = true ∧ x ∈ shF (posZ p) p.white (fcN p.castle) p.behind t ∧ e = .returned (.tuple #[.string (str (txt x)), .int .i64 0]))

set_option linter.unusedSimpArgs false in
set_option maxRecDepth 100000 in
set_option maxHeartbeats 1000000 in
theorem rookLong_any (s tx : ByteArray) (hs : s.size < 4294967281) (m : Int) (w : World) (hc : Ct m w) (htb : Tabs w) : Calls Tryz.prog 16 #[.string s, .string tx] w fun e w' => LongEnd s tx e ∧ Gr w w' := by
  have h1 : Hid (Calls Tryz.prog 34 #[.string s] w fun e w' => ParseEnd s e ∧ Gr w w') := hide (parse_any s hs m _ hc.mx hc.ml hc.tab hc.homes)
  rcases parse_split s with ⟨p, hr, hcan, hone⟩ | ⟨k, hk, hbad, hone⟩
  · have h2 : Hid (Calls Tryz.prog 34 #[.string s] w fun e w' => e = .returned (.tuple #[.agg (posV p), .int .i64 0]) ∧ Gr w w') := hide ((unhide h1).mono fun e w' h => ⟨hone e h.1, h.2⟩)
    have o := Ok.of hr hcan
    have hrow := row_read hr
    have hz := hrow.size
    have ho := hide (row_ones hrow)
    obtain ⟨⟨f, t, u⟩, hhd⟩ : ∃ x, Hid ((shF (posZ p) p.white (fcN p.castle) p.behind tx).headD (0, 0, 0) = x) := ⟨_, hide rfl⟩
    have hrd : Hid (∀ W, Gr w W → Calls Tryz.prog 37 #[.agg setA, .agg (posV p), .string tx] W fun e w' => e = .returned (.tuple #[.agg #[.int .i64 (f : Int), .int .i64 (t : Int), .int .u8 (u.toNat : Int)], .bool (!(shF (posZ p) p.white (fcN p.castle) p.behind tx).isEmpty)]) ∧ Gr W w') := hide (fun W gW => (bread_any (row_fcN hrow) o tx W (hc.gr gW).tab (htb.gr gW).cas (hc.gr gW).homes).mono fun e w' k => ⟨by rw [k.1, unhide hhd]; rfl, k.2⟩)
    have hqk := hide (fun W => quick_any W)
    have hend0 : Hid ((shF (posZ p) p.white (fcN p.castle) p.behind tx).isEmpty = true → LongEnd s tx (.returned (.tuple #[.string ⟨#[]⟩, .int .i64 4]))) := hide (fun e => .inr (.inl ⟨p, hr, hcan, List.isEmpty_iff.1 e, rfl⟩))
    have hend1 : Hid ((shF (posZ p) p.white (fcN p.castle) p.behind tx).isEmpty = false → LongEnd s tx (.returned (.tuple #[.string (str (mvS f t u)), .int .i64 0])) ∧ f < 64 ∧ t < 64) := hide (fun e => by
      have hin : (f, t, u) ∈ shF (posZ p) p.white (fcN p.castle) p.behind tx := by
        have q := unhide hhd
        cases hl : shF (posZ p) p.white (fcN p.castle) p.behind tx with
        | nil => rw [hl] at e; cases e
        | cons a l => rw [hl] at q; rw [← show a = (f, t, u) from q]; exact List.mem_cons_self ..
      have := movS_ok _ _ _ _ _ (List.mem_filter.1 hin).1
      exact ⟨.inr (.inr ⟨p, _, hr, hcan, hin, rfl⟩), this.1, this.2⟩)
    generalize (shF (posZ p) p.white (fcN p.castle) p.behind tx).isEmpty = E at hrd hend0 hend1
    obtain ⟨R, hR⟩ : ∃ R, Hid ((!E) = R) := ⟨_, hide rfl⟩
    rw [unhide hR] at hrd
    generalize posV p = A at h2 hz ho hrd
    clear h1 hone hrow hr hcan hc htb hs o hhd
    have hi72 : (Tryz.prog.info? 70).map (·.size) = some A.toList.length := by rw [Array.length_toList, hz]; exact infoP72
    simp only [setA, wayA] at hrd hqk
    go_enter Tryz.func16, Tryz.ntmps16
    go_upto_region 2 with (first
      | (go_at_call 34; refine (unhide h2).mono ?_; rintro e w3 ⟨rfl, hg3⟩)
      | (refine wpList_store_row rfl 70 _ _ rfl w3.heap.size A rfl rfl 70 _ (heap_alloc_new _ _) (by rw [hz]; exact infoP) (by rw [hz]; exact zeroP.symm) (unhide ho) ?_))
    generalize hw4 : (w3.alloc (.cells Tryz.zeroCells70 70)).setRow w3.heap.size A = w4
    have hk4 : Sq1 w w3.heap.size A w4 := by
      have hg4 : Gr w3 w4 := by rw [← hw4]; exact ((Gr.refl w3).alloc _ _).setRow _ (Nat.le_refl _) _
      exact ⟨by rw [← hw4]; exact setRow_heap _ _ _ _ _ _ (heap_alloc_new w3 _), Gr.trans hg3 hg4⟩
    generalize w3.heap.size = b1 at hk4 ⊢
    clear hw4 hg3 h2
    go_upto_region 4 with fail
    cases E with
    | true =>
      have hend := hide (unhide hend0 rfl)
      have hR' : R = false := (unhide hR).symm
      subst hR'
      clear hend0 hend1 hR
      refine wp_region_held_drew (S := Sq1 w b1 A) (by kernel_rfl) (hk4.next (Gr.refl _).drew) (fun hHeld => ?_)
      refine wpAnyH_take (i := 1) (v := .agg A) rfl (by kernel_rfl) (by kernel_rfl) (by kernel_rfl) (fun _ _ _ h => h) (y_pos3 hi72 (by rfl) _ rfl b1 rfl (fun _ h => h.pa)) hHeld ?_
      simp only [Act.put, List.getElem_toArray, List.getElem_cons_zero, List.getElem_cons_succ, List.setIfInBounds_toArray, List.set_cons_zero, List.set_cons_succ]
      refine wpAnyH_take (i := 2) (v := .string tx) rfl (by kernel_rfl) (by kernel_rfl) (by kernel_rfl) (fun _ _ _ h => h) (Or.inl ⟨by rfl, fun w hw => (by go_simp)⟩) hHeld ?_
      simp only [Act.put, List.getElem_toArray, List.getElem_cons_zero, List.getElem_cons_succ, List.setIfInBounds_toArray, List.set_cons_zero, List.set_cons_succ]
      refine wpAnyH_ready (rs := [0, 7]) (by kernel_rfl) (by simp) ?_
      refine AllReadyH.cons rfl (fun K hK => ?_) (AllReadyH.cons rfl (fun K hK => ?_) AllReadyH.nil)
      · go_simp
        refine (unhide hqk _).mono ?_
        rintro e wa ⟨rfl, hga⟩
        refine hK.out _ _ (hHeld.next hga) (fun hHeld => ?_)
        clear hK K hga
        try simp only [Act.put, List.getElem_toArray, List.getElem_cons_zero, List.getElem_cons_succ, List.setIfInBounds_toArray, List.set_cons_zero, List.set_cons_succ]
        refine wpAnyH_ready (rs := [3, 7]) (by kernel_rfl) (by simp) ?_
        refine AllReadyH.cons rfl (fun K hK => ?_) (AllReadyH.cons rfl (fun K hK => ?_) AllReadyH.nil)
        · go_simp
          refine (unhide hrd _ hHeld.gr).mono ?_
          rintro e wb ⟨rfl, hgb⟩
          refine hK.out _ _ (hHeld.next hgb) (fun hHeld => ?_)
          clear hK K hgb
          try simp only [Act.put, List.getElem_toArray, List.getElem_cons_zero, List.getElem_cons_succ, List.setIfInBounds_toArray, List.set_cons_zero, List.set_cons_succ]
          refine wpAnyH_take (i := 4) (v := .tuple #[.agg #[.int .i64 (f : Int), .int .i64 (t : Int), .int .u8 (u.toNat : Int)], .bool false]) rfl (by kernel_rfl) (by kernel_rfl) (by kernel_rfl) (fun _ _ _ h => h) (Or.inl ⟨by rfl, fun w hw => (by go_simp)⟩) hHeld ?_
          simp only [Act.put, List.getElem_toArray, List.getElem_cons_zero, List.getElem_cons_succ, List.setIfInBounds_toArray, List.set_cons_zero, List.set_cons_succ]
          refine wpAnyH_take (i := 5) (v := .agg #[.int .i64 (f : Int), .int .i64 (t : Int), .int .u8 (u.toNat : Int)]) rfl (by kernel_rfl) (by kernel_rfl) (by kernel_rfl) (fun _ _ _ h => h) (Or.inl ⟨by rfl, fun w hw => (by go_simp)⟩) hHeld ?_
          simp only [Act.put, List.getElem_toArray, List.getElem_cons_zero, List.getElem_cons_succ, List.setIfInBounds_toArray, List.set_cons_zero, List.set_cons_succ]
          refine wpAnyH_take (i := 6) (v := .bool false) rfl (by kernel_rfl) (by kernel_rfl) (by kernel_rfl) (fun _ _ _ h => h) (Or.inl ⟨by rfl, fun w hw => (by go_simp)⟩) hHeld ?_
          simp only [Act.put, List.getElem_toArray, List.getElem_cons_zero, List.getElem_cons_succ, List.setIfInBounds_toArray, List.set_cons_zero, List.set_cons_succ]
          refine wpAnyH_ready (rs := [7]) (by kernel_rfl) (by simp) ?_
          refine AllReadyH.cons rfl (fun K hK => ?_) AllReadyH.nil
          go_simp
          have hal : (wb.alloc (.cells #[.int .i64 0, .int .i64 0, .int .u8 0] 87)).heap[wb.heap.size]? = some (.cells #[.int .i64 0, .int .i64 0, .int .u8 0] 87) := World.alloc_heap_new wb (.cells #[.int .i64 0, .int .i64 0, .int .u8 0] 87)
          have hbw : w.heap.size ≤ wb.heap.size := (show w.heap.size ≤ wb.heap.size from Below.size hHeld.gr)
          have hne : b1 ≠ wb.heap.size := by have : b1 < wb.heap.size := (Array.getElem?_eq_some_iff.1 hHeld.pa).1; omega
          refine hK.out _ _ (hHeld.next ((Gr.refl _).alloc #[.int .i64 0, .int .i64 0, .int .u8 0] 87)) (fun hHeld => ?_)
          clear hK K
          try simp only [Act.put, List.getElem_toArray, List.getElem_cons_zero, List.getElem_cons_succ, List.setIfInBounds_toArray, List.set_cons_zero, List.set_cons_succ]
          refine wpAnyH_ready (rs := [8]) (by kernel_rfl) (by simp) ?_
          refine AllReadyH.cons rfl (fun K hK => ?_) AllReadyH.nil
          rw [if_pos (by rfl)]
          refine wp_store_row 87 _ _ rfl wb.heap.size #[.int .i64 (f : Int), .int .i64 (t : Int), .int .u8 (u.toNat : Int)] rfl rfl 87 _ hal infoMv3 rfl (by simp [Value.oneCell']) ?_
          have hal2 := setRow_heap _ _ _ #[.int .i64 (f : Int), .int .i64 (t : Int), .int .u8 (u.toNat : Int)] _ _ hal
          refine hK.out _ _ (hHeld.put wb.heap.size #[.int .i64 (f : Int), .int .i64 (t : Int), .int .u8 (u.toNat : Int)] hbw hne) (fun hHeld => ?_)
          clear hK K
          try simp only [Act.put, List.getElem_toArray, List.getElem_cons_zero, List.getElem_cons_succ, List.setIfInBounds_toArray, List.set_cons_zero, List.set_cons_succ]
          refine wpAnyH_take (i := 9) (v := .bool false) rfl (by kernel_rfl) (by kernel_rfl) (by kernel_rfl) (fun _ _ _ h => h) (Or.inl ⟨by rfl, fun w hw => (by go_simp)⟩) hHeld ?_
          simp only [Act.put, List.getElem_toArray, List.getElem_cons_zero, List.getElem_cons_succ, List.setIfInBounds_toArray, List.set_cons_zero, List.set_cons_succ]
          refine wpAnyH_done (by kernel_rfl) ?_ _
          have hgx := hide hHeld.gr
          clear hal hal2 hHeld
          go_wp2_with fail
          go_ret2
          exact ⟨unhide hend, unhide hgx⟩
        · go_simp
          have hal : (wa.alloc (.cells #[.int .i64 0, .int .i64 0, .int .u8 0] 87)).heap[wa.heap.size]? = some (.cells #[.int .i64 0, .int .i64 0, .int .u8 0] 87) := World.alloc_heap_new wa (.cells #[.int .i64 0, .int .i64 0, .int .u8 0] 87)
          have hbw : w.heap.size ≤ wa.heap.size := (show w.heap.size ≤ wa.heap.size from Below.size hHeld.gr)
          have hne : b1 ≠ wa.heap.size := by have : b1 < wa.heap.size := (Array.getElem?_eq_some_iff.1 hHeld.pa).1; omega
          refine hK.out _ _ (hHeld.next ((Gr.refl _).alloc #[.int .i64 0, .int .i64 0, .int .u8 0] 87)) (fun hHeld => ?_)
          clear hK K
          try simp only [Act.put, List.getElem_toArray, List.getElem_cons_zero, List.getElem_cons_succ, List.setIfInBounds_toArray, List.set_cons_zero, List.set_cons_succ]
          refine wpAnyH_ready (rs := [3]) (by kernel_rfl) (by simp) ?_
          refine AllReadyH.cons rfl (fun K hK => ?_) AllReadyH.nil
          go_simp
          refine (unhide hrd _ hHeld.gr).mono ?_
          rintro e wb ⟨rfl, hgb⟩
          refine hK.out _ _ (hHeld.next hgb) (fun hHeld => ?_)
          have hal := (Below.block hgb _ (Array.getElem?_eq_some_iff.1 hal).1).trans hal
          clear hK K hgb
          try simp only [Act.put, List.getElem_toArray, List.getElem_cons_zero, List.getElem_cons_succ, List.setIfInBounds_toArray, List.set_cons_zero, List.set_cons_succ]
          refine wpAnyH_take (i := 4) (v := .tuple #[.agg #[.int .i64 (f : Int), .int .i64 (t : Int), .int .u8 (u.toNat : Int)], .bool false]) rfl (by kernel_rfl) (by kernel_rfl) (by kernel_rfl) (fun _ _ _ h => h) (Or.inl ⟨by rfl, fun w hw => (by go_simp)⟩) hHeld ?_
          simp only [Act.put, List.getElem_toArray, List.getElem_cons_zero, List.getElem_cons_succ, List.setIfInBounds_toArray, List.set_cons_zero, List.set_cons_succ]
          refine wpAnyH_take (i := 5) (v := .agg #[.int .i64 (f : Int), .int .i64 (t : Int), .int .u8 (u.toNat : Int)]) rfl (by kernel_rfl) (by kernel_rfl) (by kernel_rfl) (fun _ _ _ h => h) (Or.inl ⟨by rfl, fun w hw => (by go_simp)⟩) hHeld ?_
          simp only [Act.put, List.getElem_toArray, List.getElem_cons_zero, List.getElem_cons_succ, List.setIfInBounds_toArray, List.set_cons_zero, List.set_cons_succ]
          refine wpAnyH_take (i := 6) (v := .bool false) rfl (by kernel_rfl) (by kernel_rfl) (by kernel_rfl) (fun _ _ _ h => h) (Or.inl ⟨by rfl, fun w hw => (by go_simp)⟩) hHeld ?_
          simp only [Act.put, List.getElem_toArray, List.getElem_cons_zero, List.getElem_cons_succ, List.setIfInBounds_toArray, List.set_cons_zero, List.set_cons_succ]
          refine wpAnyH_ready (rs := [8]) (by kernel_rfl) (by simp) ?_
          refine AllReadyH.cons rfl (fun K hK => ?_) AllReadyH.nil
          rw [if_pos (by rfl)]
          refine wp_store_row 87 _ _ rfl wa.heap.size #[.int .i64 (f : Int), .int .i64 (t : Int), .int .u8 (u.toNat : Int)] rfl rfl 87 _ hal infoMv3 rfl (by simp [Value.oneCell']) ?_
          have hal2 := setRow_heap _ _ _ #[.int .i64 (f : Int), .int .i64 (t : Int), .int .u8 (u.toNat : Int)] _ _ hal
          refine hK.out _ _ (hHeld.put wa.heap.size #[.int .i64 (f : Int), .int .i64 (t : Int), .int .u8 (u.toNat : Int)] hbw hne) (fun hHeld => ?_)
          clear hK K
          try simp only [Act.put, List.getElem_toArray, List.getElem_cons_zero, List.getElem_cons_succ, List.setIfInBounds_toArray, List.set_cons_zero, List.set_cons_succ]
          refine wpAnyH_take (i := 9) (v := .bool false) rfl (by kernel_rfl) (by kernel_rfl) (by kernel_rfl) (fun _ _ _ h => h) (Or.inl ⟨by rfl, fun w hw => (by go_simp)⟩) hHeld ?_
          simp only [Act.put, List.getElem_toArray, List.getElem_cons_zero, List.getElem_cons_succ, List.setIfInBounds_toArray, List.set_cons_zero, List.set_cons_succ]
          refine wpAnyH_done (by kernel_rfl) ?_ _
          have hgx := hide hHeld.gr
          clear hal hal2 hHeld
          go_wp2_with fail
          go_ret2
          exact ⟨unhide hend, unhide hgx⟩
      · go_simp
        have hal : (w4.drew.alloc (.cells #[.int .i64 0, .int .i64 0, .int .u8 0] 87)).heap[w4.heap.size]? = some (.cells #[.int .i64 0, .int .i64 0, .int .u8 0] 87) := World.alloc_heap_new w4.drew (.cells #[.int .i64 0, .int .i64 0, .int .u8 0] 87)
        have hbw : w.heap.size ≤ w4.heap.size := (show w.heap.size ≤ w4.drew.heap.size from Below.size hHeld.gr)
        have hne : b1 ≠ w4.heap.size := by have : b1 < w4.heap.size := (Array.getElem?_eq_some_iff.1 hHeld.pa).1; omega
        refine hK.out _ _ (hHeld.next ((Gr.refl _).alloc #[.int .i64 0, .int .i64 0, .int .u8 0] 87)) (fun hHeld => ?_)
        clear hK K
        try simp only [Act.put, List.getElem_toArray, List.getElem_cons_zero, List.getElem_cons_succ, List.setIfInBounds_toArray, List.set_cons_zero, List.set_cons_succ]
        refine wpAnyH_ready (rs := [0]) (by kernel_rfl) (by simp) ?_
        refine AllReadyH.cons rfl (fun K hK => ?_) AllReadyH.nil
        go_simp
        refine (unhide hqk _).mono ?_
        rintro e wa ⟨rfl, hga⟩
        refine hK.out _ _ (hHeld.next hga) (fun hHeld => ?_)
        have hal := (Below.block hga _ (Array.getElem?_eq_some_iff.1 hal).1).trans hal
        clear hK K hga
        try simp only [Act.put, List.getElem_toArray, List.getElem_cons_zero, List.getElem_cons_succ, List.setIfInBounds_toArray, List.set_cons_zero, List.set_cons_succ]
        refine wpAnyH_ready (rs := [3]) (by kernel_rfl) (by simp) ?_
        refine AllReadyH.cons rfl (fun K hK => ?_) AllReadyH.nil
        go_simp
        refine (unhide hrd _ hHeld.gr).mono ?_
        rintro e wb ⟨rfl, hgb⟩
        refine hK.out _ _ (hHeld.next hgb) (fun hHeld => ?_)
        have hal := (Below.block hgb _ (Array.getElem?_eq_some_iff.1 hal).1).trans hal
        clear hK K hgb
        try simp only [Act.put, List.getElem_toArray, List.getElem_cons_zero, List.getElem_cons_succ, List.setIfInBounds_toArray, List.set_cons_zero, List.set_cons_succ]
        refine wpAnyH_take (i := 4) (v := .tuple #[.agg #[.int .i64 (f : Int), .int .i64 (t : Int), .int .u8 (u.toNat : Int)], .bool false]) rfl (by kernel_rfl) (by kernel_rfl) (by kernel_rfl) (fun _ _ _ h => h) (Or.inl ⟨by rfl, fun w hw => (by go_simp)⟩) hHeld ?_
        simp only [Act.put, List.getElem_toArray, List.getElem_cons_zero, List.getElem_cons_succ, List.setIfInBounds_toArray, List.set_cons_zero, List.set_cons_succ]
        refine wpAnyH_take (i := 5) (v := .agg #[.int .i64 (f : Int), .int .i64 (t : Int), .int .u8 (u.toNat : Int)]) rfl (by kernel_rfl) (by kernel_rfl) (by kernel_rfl) (fun _ _ _ h => h) (Or.inl ⟨by rfl, fun w hw => (by go_simp)⟩) hHeld ?_
        simp only [Act.put, List.getElem_toArray, List.getElem_cons_zero, List.getElem_cons_succ, List.setIfInBounds_toArray, List.set_cons_zero, List.set_cons_succ]
        refine wpAnyH_take (i := 6) (v := .bool false) rfl (by kernel_rfl) (by kernel_rfl) (by kernel_rfl) (fun _ _ _ h => h) (Or.inl ⟨by rfl, fun w hw => (by go_simp)⟩) hHeld ?_
        simp only [Act.put, List.getElem_toArray, List.getElem_cons_zero, List.getElem_cons_succ, List.setIfInBounds_toArray, List.set_cons_zero, List.set_cons_succ]
        refine wpAnyH_ready (rs := [8]) (by kernel_rfl) (by simp) ?_
        refine AllReadyH.cons rfl (fun K hK => ?_) AllReadyH.nil
        rw [if_pos (by rfl)]
        refine wp_store_row 87 _ _ rfl w4.heap.size #[.int .i64 (f : Int), .int .i64 (t : Int), .int .u8 (u.toNat : Int)] rfl rfl 87 _ hal infoMv3 rfl (by simp [Value.oneCell']) ?_
        have hal2 := setRow_heap _ _ _ #[.int .i64 (f : Int), .int .i64 (t : Int), .int .u8 (u.toNat : Int)] _ _ hal
        refine hK.out _ _ (hHeld.put w4.heap.size #[.int .i64 (f : Int), .int .i64 (t : Int), .int .u8 (u.toNat : Int)] hbw hne) (fun hHeld => ?_)
        clear hK K
        try simp only [Act.put, List.getElem_toArray, List.getElem_cons_zero, List.getElem_cons_succ, List.setIfInBounds_toArray, List.set_cons_zero, List.set_cons_succ]
        refine wpAnyH_take (i := 9) (v := .bool false) rfl (by kernel_rfl) (by kernel_rfl) (by kernel_rfl) (fun _ _ _ h => h) (Or.inl ⟨by rfl, fun w hw => (by go_simp)⟩) hHeld ?_
        simp only [Act.put, List.getElem_toArray, List.getElem_cons_zero, List.getElem_cons_succ, List.setIfInBounds_toArray, List.set_cons_zero, List.set_cons_succ]
        refine wpAnyH_done (by kernel_rfl) ?_ _
        have hgx := hide hHeld.gr
        clear hal hal2 hHeld
        go_wp2_with fail
        go_ret2
        exact ⟨unhide hend, unhide hgx⟩
    | false =>
      obtain ⟨he, hf, ht⟩ := unhide hend1 rfl
      have hend := hide he
      have hR' : R = true := (unhide hR).symm
      subst hR'
      have htx := hide (fun W => moveP_any f t hf ht u W)
      generalize str (mvS f t u) = TX at hend htx
      clear hend0 hend1 hR he
      refine wp_region_held_drew (S := Sq1 w b1 A) (by kernel_rfl) (hk4.next (Gr.refl _).drew) (fun hHeld => ?_)
      refine wpAnyH_take (i := 1) (v := .agg A) rfl (by kernel_rfl) (by kernel_rfl) (by kernel_rfl) (fun _ _ _ h => h) (y_pos3 hi72 (by rfl) _ rfl b1 rfl (fun _ h => h.pa)) hHeld ?_
      simp only [Act.put, List.getElem_toArray, List.getElem_cons_zero, List.getElem_cons_succ, List.setIfInBounds_toArray, List.set_cons_zero, List.set_cons_succ]
      refine wpAnyH_take (i := 2) (v := .string tx) rfl (by kernel_rfl) (by kernel_rfl) (by kernel_rfl) (fun _ _ _ h => h) (Or.inl ⟨by rfl, fun w hw => (by go_simp)⟩) hHeld ?_
      simp only [Act.put, List.getElem_toArray, List.getElem_cons_zero, List.getElem_cons_succ, List.setIfInBounds_toArray, List.set_cons_zero, List.set_cons_succ]
      refine wpAnyH_ready (rs := [0, 7]) (by kernel_rfl) (by simp) ?_
      refine AllReadyH.cons rfl (fun K hK => ?_) (AllReadyH.cons rfl (fun K hK => ?_) AllReadyH.nil)
      · go_simp
        refine (unhide hqk _).mono ?_
        rintro e wa ⟨rfl, hga⟩
        refine hK.out _ _ (hHeld.next hga) (fun hHeld => ?_)
        clear hK K hga
        try simp only [Act.put, List.getElem_toArray, List.getElem_cons_zero, List.getElem_cons_succ, List.setIfInBounds_toArray, List.set_cons_zero, List.set_cons_succ]
        refine wpAnyH_ready (rs := [3, 7]) (by kernel_rfl) (by simp) ?_
        refine AllReadyH.cons rfl (fun K hK => ?_) (AllReadyH.cons rfl (fun K hK => ?_) AllReadyH.nil)
        · go_simp
          refine (unhide hrd _ hHeld.gr).mono ?_
          rintro e wb ⟨rfl, hgb⟩
          refine hK.out _ _ (hHeld.next hgb) (fun hHeld => ?_)
          clear hK K hgb
          try simp only [Act.put, List.getElem_toArray, List.getElem_cons_zero, List.getElem_cons_succ, List.setIfInBounds_toArray, List.set_cons_zero, List.set_cons_succ]
          refine wpAnyH_take (i := 4) (v := .tuple #[.agg #[.int .i64 (f : Int), .int .i64 (t : Int), .int .u8 (u.toNat : Int)], .bool true]) rfl (by kernel_rfl) (by kernel_rfl) (by kernel_rfl) (fun _ _ _ h => h) (Or.inl ⟨by rfl, fun w hw => (by go_simp)⟩) hHeld ?_
          simp only [Act.put, List.getElem_toArray, List.getElem_cons_zero, List.getElem_cons_succ, List.setIfInBounds_toArray, List.set_cons_zero, List.set_cons_succ]
          refine wpAnyH_take (i := 5) (v := .agg #[.int .i64 (f : Int), .int .i64 (t : Int), .int .u8 (u.toNat : Int)]) rfl (by kernel_rfl) (by kernel_rfl) (by kernel_rfl) (fun _ _ _ h => h) (Or.inl ⟨by rfl, fun w hw => (by go_simp)⟩) hHeld ?_
          simp only [Act.put, List.getElem_toArray, List.getElem_cons_zero, List.getElem_cons_succ, List.setIfInBounds_toArray, List.set_cons_zero, List.set_cons_succ]
          refine wpAnyH_take (i := 6) (v := .bool true) rfl (by kernel_rfl) (by kernel_rfl) (by kernel_rfl) (fun _ _ _ h => h) (Or.inl ⟨by rfl, fun w hw => (by go_simp)⟩) hHeld ?_
          simp only [Act.put, List.getElem_toArray, List.getElem_cons_zero, List.getElem_cons_succ, List.setIfInBounds_toArray, List.set_cons_zero, List.set_cons_succ]
          refine wpAnyH_ready (rs := [7]) (by kernel_rfl) (by simp) ?_
          refine AllReadyH.cons rfl (fun K hK => ?_) AllReadyH.nil
          go_simp
          have hal : (wb.alloc (.cells #[.int .i64 0, .int .i64 0, .int .u8 0] 87)).heap[wb.heap.size]? = some (.cells #[.int .i64 0, .int .i64 0, .int .u8 0] 87) := World.alloc_heap_new wb (.cells #[.int .i64 0, .int .i64 0, .int .u8 0] 87)
          have hbw : w.heap.size ≤ wb.heap.size := (show w.heap.size ≤ wb.heap.size from Below.size hHeld.gr)
          have hne : b1 ≠ wb.heap.size := by have : b1 < wb.heap.size := (Array.getElem?_eq_some_iff.1 hHeld.pa).1; omega
          refine hK.out _ _ (hHeld.next ((Gr.refl _).alloc #[.int .i64 0, .int .i64 0, .int .u8 0] 87)) (fun hHeld => ?_)
          clear hK K
          try simp only [Act.put, List.getElem_toArray, List.getElem_cons_zero, List.getElem_cons_succ, List.setIfInBounds_toArray, List.set_cons_zero, List.set_cons_succ]
          refine wpAnyH_ready (rs := [8]) (by kernel_rfl) (by simp) ?_
          refine AllReadyH.cons rfl (fun K hK => ?_) AllReadyH.nil
          rw [if_pos (by rfl)]
          refine wp_store_row 87 _ _ rfl wb.heap.size #[.int .i64 (f : Int), .int .i64 (t : Int), .int .u8 (u.toNat : Int)] rfl rfl 87 _ hal infoMv3 rfl (by simp [Value.oneCell']) ?_
          have hal2 := setRow_heap _ _ _ #[.int .i64 (f : Int), .int .i64 (t : Int), .int .u8 (u.toNat : Int)] _ _ hal
          refine hK.out _ _ (hHeld.put wb.heap.size #[.int .i64 (f : Int), .int .i64 (t : Int), .int .u8 (u.toNat : Int)] hbw hne) (fun hHeld => ?_)
          clear hK K
          try simp only [Act.put, List.getElem_toArray, List.getElem_cons_zero, List.getElem_cons_succ, List.setIfInBounds_toArray, List.set_cons_zero, List.set_cons_succ]
          refine wpAnyH_take (i := 9) (v := .bool true) rfl (by kernel_rfl) (by kernel_rfl) (by kernel_rfl) (fun _ _ _ h => h) (Or.inl ⟨by rfl, fun w hw => (by go_simp)⟩) hHeld ?_
          simp only [Act.put, List.getElem_toArray, List.getElem_cons_zero, List.getElem_cons_succ, List.setIfInBounds_toArray, List.set_cons_zero, List.set_cons_succ]
          refine wpAnyH_done (by kernel_rfl) ?_ _
          obtain ⟨m0, m1, m2⟩ := mv_cells hal2
          have hgx := hide hHeld.gr
          clear hal hal2 hHeld
          go_wp2_with (go_at_call 38; refine (unhide htx _).mono ?_; rintro e w9 ⟨rfl, hg9⟩)
          go_ret2
          exact ⟨unhide hend, Gr.trans (unhide hgx) hg9⟩
        · go_simp
          have hal : (wa.alloc (.cells #[.int .i64 0, .int .i64 0, .int .u8 0] 87)).heap[wa.heap.size]? = some (.cells #[.int .i64 0, .int .i64 0, .int .u8 0] 87) := World.alloc_heap_new wa (.cells #[.int .i64 0, .int .i64 0, .int .u8 0] 87)
          have hbw : w.heap.size ≤ wa.heap.size := (show w.heap.size ≤ wa.heap.size from Below.size hHeld.gr)
          have hne : b1 ≠ wa.heap.size := by have : b1 < wa.heap.size := (Array.getElem?_eq_some_iff.1 hHeld.pa).1; omega
          refine hK.out _ _ (hHeld.next ((Gr.refl _).alloc #[.int .i64 0, .int .i64 0, .int .u8 0] 87)) (fun hHeld => ?_)
          clear hK K
          try simp only [Act.put, List.getElem_toArray, List.getElem_cons_zero, List.getElem_cons_succ, List.setIfInBounds_toArray, List.set_cons_zero, List.set_cons_succ]
          refine wpAnyH_ready (rs := [3]) (by kernel_rfl) (by simp) ?_
          refine AllReadyH.cons rfl (fun K hK => ?_) AllReadyH.nil
          go_simp
          refine (unhide hrd _ hHeld.gr).mono ?_
          rintro e wb ⟨rfl, hgb⟩
          refine hK.out _ _ (hHeld.next hgb) (fun hHeld => ?_)
          have hal := (Below.block hgb _ (Array.getElem?_eq_some_iff.1 hal).1).trans hal
          clear hK K hgb
          try simp only [Act.put, List.getElem_toArray, List.getElem_cons_zero, List.getElem_cons_succ, List.setIfInBounds_toArray, List.set_cons_zero, List.set_cons_succ]
          refine wpAnyH_take (i := 4) (v := .tuple #[.agg #[.int .i64 (f : Int), .int .i64 (t : Int), .int .u8 (u.toNat : Int)], .bool true]) rfl (by kernel_rfl) (by kernel_rfl) (by kernel_rfl) (fun _ _ _ h => h) (Or.inl ⟨by rfl, fun w hw => (by go_simp)⟩) hHeld ?_
          simp only [Act.put, List.getElem_toArray, List.getElem_cons_zero, List.getElem_cons_succ, List.setIfInBounds_toArray, List.set_cons_zero, List.set_cons_succ]
          refine wpAnyH_take (i := 5) (v := .agg #[.int .i64 (f : Int), .int .i64 (t : Int), .int .u8 (u.toNat : Int)]) rfl (by kernel_rfl) (by kernel_rfl) (by kernel_rfl) (fun _ _ _ h => h) (Or.inl ⟨by rfl, fun w hw => (by go_simp)⟩) hHeld ?_
          simp only [Act.put, List.getElem_toArray, List.getElem_cons_zero, List.getElem_cons_succ, List.setIfInBounds_toArray, List.set_cons_zero, List.set_cons_succ]
          refine wpAnyH_take (i := 6) (v := .bool true) rfl (by kernel_rfl) (by kernel_rfl) (by kernel_rfl) (fun _ _ _ h => h) (Or.inl ⟨by rfl, fun w hw => (by go_simp)⟩) hHeld ?_
          simp only [Act.put, List.getElem_toArray, List.getElem_cons_zero, List.getElem_cons_succ, List.setIfInBounds_toArray, List.set_cons_zero, List.set_cons_succ]
          refine wpAnyH_ready (rs := [8]) (by kernel_rfl) (by simp) ?_
          refine AllReadyH.cons rfl (fun K hK => ?_) AllReadyH.nil
          rw [if_pos (by rfl)]
          refine wp_store_row 87 _ _ rfl wa.heap.size #[.int .i64 (f : Int), .int .i64 (t : Int), .int .u8 (u.toNat : Int)] rfl rfl 87 _ hal infoMv3 rfl (by simp [Value.oneCell']) ?_
          have hal2 := setRow_heap _ _ _ #[.int .i64 (f : Int), .int .i64 (t : Int), .int .u8 (u.toNat : Int)] _ _ hal
          refine hK.out _ _ (hHeld.put wa.heap.size #[.int .i64 (f : Int), .int .i64 (t : Int), .int .u8 (u.toNat : Int)] hbw hne) (fun hHeld => ?_)
          clear hK K
          try simp only [Act.put, List.getElem_toArray, List.getElem_cons_zero, List.getElem_cons_succ, List.setIfInBounds_toArray, List.set_cons_zero, List.set_cons_succ]
          refine wpAnyH_take (i := 9) (v := .bool true) rfl (by kernel_rfl) (by kernel_rfl) (by kernel_rfl) (fun _ _ _ h => h) (Or.inl ⟨by rfl, fun w hw => (by go_simp)⟩) hHeld ?_
          simp only [Act.put, List.getElem_toArray, List.getElem_cons_zero, List.getElem_cons_succ, List.setIfInBounds_toArray, List.set_cons_zero, List.set_cons_succ]
          refine wpAnyH_done (by kernel_rfl) ?_ _
          obtain ⟨m0, m1, m2⟩ := mv_cells hal2
          have hgx := hide hHeld.gr
          clear hal hal2 hHeld
          go_wp2_with (go_at_call 38; refine (unhide htx _).mono ?_; rintro e w9 ⟨rfl, hg9⟩)
          go_ret2
          exact ⟨unhide hend, Gr.trans (unhide hgx) hg9⟩
      · go_simp
        have hal : (w4.drew.alloc (.cells #[.int .i64 0, .int .i64 0, .int .u8 0] 87)).heap[w4.heap.size]? = some (.cells #[.int .i64 0, .int .i64 0, .int .u8 0] 87) := World.alloc_heap_new w4.drew (.cells #[.int .i64 0, .int .i64 0, .int .u8 0] 87)
        have hbw : w.heap.size ≤ w4.heap.size := (show w.heap.size ≤ w4.drew.heap.size from Below.size hHeld.gr)
        have hne : b1 ≠ w4.heap.size := by have : b1 < w4.heap.size := (Array.getElem?_eq_some_iff.1 hHeld.pa).1; omega
        refine hK.out _ _ (hHeld.next ((Gr.refl _).alloc #[.int .i64 0, .int .i64 0, .int .u8 0] 87)) (fun hHeld => ?_)
        clear hK K
        try simp only [Act.put, List.getElem_toArray, List.getElem_cons_zero, List.getElem_cons_succ, List.setIfInBounds_toArray, List.set_cons_zero, List.set_cons_succ]
        refine wpAnyH_ready (rs := [0]) (by kernel_rfl) (by simp) ?_
        refine AllReadyH.cons rfl (fun K hK => ?_) AllReadyH.nil
        go_simp
        refine (unhide hqk _).mono ?_
        rintro e wa ⟨rfl, hga⟩
        refine hK.out _ _ (hHeld.next hga) (fun hHeld => ?_)
        have hal := (Below.block hga _ (Array.getElem?_eq_some_iff.1 hal).1).trans hal
        clear hK K hga
        try simp only [Act.put, List.getElem_toArray, List.getElem_cons_zero, List.getElem_cons_succ, List.setIfInBounds_toArray, List.set_cons_zero, List.set_cons_succ]
        refine wpAnyH_ready (rs := [3]) (by kernel_rfl) (by simp) ?_
        refine AllReadyH.cons rfl (fun K hK => ?_) AllReadyH.nil
        go_simp
        refine (unhide hrd _ hHeld.gr).mono ?_
        rintro e wb ⟨rfl, hgb⟩
        refine hK.out _ _ (hHeld.next hgb) (fun hHeld => ?_)
        have hal := (Below.block hgb _ (Array.getElem?_eq_some_iff.1 hal).1).trans hal
        clear hK K hgb
        try simp only [Act.put, List.getElem_toArray, List.getElem_cons_zero, List.getElem_cons_succ, List.setIfInBounds_toArray, List.set_cons_zero, List.set_cons_succ]
        refine wpAnyH_take (i := 4) (v := .tuple #[.agg #[.int .i64 (f : Int), .int .i64 (t : Int), .int .u8 (u.toNat : Int)], .bool true]) rfl (by kernel_rfl) (by kernel_rfl) (by kernel_rfl) (fun _ _ _ h => h) (Or.inl ⟨by rfl, fun w hw => (by go_simp)⟩) hHeld ?_
        simp only [Act.put, List.getElem_toArray, List.getElem_cons_zero, List.getElem_cons_succ, List.setIfInBounds_toArray, List.set_cons_zero, List.set_cons_succ]
        refine wpAnyH_take (i := 5) (v := .agg #[.int .i64 (f : Int), .int .i64 (t : Int), .int .u8 (u.toNat : Int)]) rfl (by kernel_rfl) (by kernel_rfl) (by kernel_rfl) (fun _ _ _ h => h) (Or.inl ⟨by rfl, fun w hw => (by go_simp)⟩) hHeld ?_
        simp only [Act.put, List.getElem_toArray, List.getElem_cons_zero, List.getElem_cons_succ, List.setIfInBounds_toArray, List.set_cons_zero, List.set_cons_succ]
        refine wpAnyH_take (i := 6) (v := .bool true) rfl (by kernel_rfl) (by kernel_rfl) (by kernel_rfl) (fun _ _ _ h => h) (Or.inl ⟨by rfl, fun w hw => (by go_simp)⟩) hHeld ?_
        simp only [Act.put, List.getElem_toArray, List.getElem_cons_zero, List.getElem_cons_succ, List.setIfInBounds_toArray, List.set_cons_zero, List.set_cons_succ]
        refine wpAnyH_ready (rs := [8]) (by kernel_rfl) (by simp) ?_
        refine AllReadyH.cons rfl (fun K hK => ?_) AllReadyH.nil
        rw [if_pos (by rfl)]
        refine wp_store_row 87 _ _ rfl w4.heap.size #[.int .i64 (f : Int), .int .i64 (t : Int), .int .u8 (u.toNat : Int)] rfl rfl 87 _ hal infoMv3 rfl (by simp [Value.oneCell']) ?_
        have hal2 := setRow_heap _ _ _ #[.int .i64 (f : Int), .int .i64 (t : Int), .int .u8 (u.toNat : Int)] _ _ hal
        refine hK.out _ _ (hHeld.put w4.heap.size #[.int .i64 (f : Int), .int .i64 (t : Int), .int .u8 (u.toNat : Int)] hbw hne) (fun hHeld => ?_)
        clear hK K
        try simp only [Act.put, List.getElem_toArray, List.getElem_cons_zero, List.getElem_cons_succ, List.setIfInBounds_toArray, List.set_cons_zero, List.set_cons_succ]
        refine wpAnyH_take (i := 9) (v := .bool true) rfl (by kernel_rfl) (by kernel_rfl) (by kernel_rfl) (fun _ _ _ h => h) (Or.inl ⟨by rfl, fun w hw => (by go_simp)⟩) hHeld ?_
        simp only [Act.put, List.getElem_toArray, List.getElem_cons_zero, List.getElem_cons_succ, List.setIfInBounds_toArray, List.set_cons_zero, List.set_cons_succ]
        refine wpAnyH_done (by kernel_rfl) ?_ _
        obtain ⟨m0, m1, m2⟩ := mv_cells hal2
        have hgx := hide hHeld.gr
        clear hal hal2 hHeld
        go_wp2_with (go_at_call 38; refine (unhide htx _).mono ?_; rintro e w9 ⟨rfl, hg9⟩)
        go_ret2
        exact ⟨unhide hend, Gr.trans (unhide hgx) hg9⟩
  · have h2 : Hid (Calls Tryz.prog 34 #[.string s] w fun e w' => e = .returned (.tuple #[.agg Tryz.zeroCells70, .int .i64 k]) ∧ Gr w w') := hide ((unhide h1).mono fun e w' h => ⟨hone e h.1, h.2⟩)
    have hend : Hid (LongEnd s tx (.returned (.tuple #[.string ⟨#[]⟩, .int .i64 k]))) := hide (.inl ⟨k, hbad, rfl⟩)
    have k2 : (k != 0) = true := by rw [bne_iff_ne]; exact hk
    clear h1 hone hbad hc htb hs hk
    go_enter Tryz.func16, Tryz.ntmps16
    go_upto_region 2 with (first
      | (go_at_call 34; refine (unhide h2).mono ?_; rintro e w3 ⟨rfl, hg3⟩)
      | (refine wpList_store_row rfl 70 _ _ rfl w3.heap.size Tryz.zeroCells70 rfl rfl 70 _ (heap_alloc_new _ _) (by rw [zeroP]; exact infoP) rfl zeroP_ones ?_))
    have hg4 : Gr w3 ((w3.alloc (.cells Tryz.zeroCells70 70)).setRow w3.heap.size Tryz.zeroCells70) := ((Gr.refl w3).alloc _ _).setRow _ (Nat.le_refl _) _
    have hgw := Gr.trans hg3 hg4
    generalize (w3.alloc (.cells Tryz.zeroCells70 70)).setRow w3.heap.size Tryz.zeroCells70 = w4 at hg4 hgw ⊢
    clear h2 hg3 hg4
    go_wp2_with fail
    go_ret2
    exact ⟨unhide hend, hgw⟩

end Go.Proofs.YtnfakamfmkhlbabGreatDoor.C

namespace Go.Proofs.YtnfakamfmkhlbabGreatDoor.C

open Go.ChangeShapes Go.WideShapes Go.ChangeAt Go.RowKit Go.Shelf

open Go.Proofs.YtnfakamfmkhlbabGreatDoor.P

def hasT (T : List ByteArray) (s : ByteArray) : Bool := T.any fun x => x.toList == s.toList

set_option maxRecDepth 100000 in
set_option maxHeartbeats 4000000 in
theorem hasK_any (T : List ByteArray) (hT : T.length ≤ 1000000) (p1 : Option Addr) (c1 : Nat) (s : ByteArray) (w : World) (h1 : El p1 T w) : Calls Tryz.prog 17 #[.slice p1 T.length c1, .string s] w fun e w' => e = .returned (.bool (hasT T s)) ∧ w' = w := by
  have h1' := hide h1
  clear h1
  obtain ⟨N, hN⟩ : ∃ N, N = T.length := ⟨_, rfl⟩
  obtain ⟨V, hV⟩ : ∃ V, Hid (hasT T s = V) := ⟨_, hide rfl⟩
  rw [unhide hV]
  have hyes : Hid (∀ j (h : j < T.length), (T[j].toList == s.toList) = true → V = true) := hide fun j h e => by
    rw [← unhide hV]
    exact List.any_eq_true.2 ⟨T[j], List.getElem_mem h, e⟩
  have hnot : Hid ((∀ j (h : j < T.length), (T[j].toList == s.toList) = false) → V = false) := hide fun h => by
    rw [← unhide hV]
    refine List.any_eq_false.2 fun x hx => ?_
    obtain ⟨j, hj, rfl⟩ := List.getElem_of_mem hx
    rw [h j hj]; simp
  rw [← hN] at hT ⊢
  go_enter Tryz.func17, Tryz.ntmps17
  go_wp2_with fail
  go_loopg [5] N (fun g v wr => ∃ (j : Nat), j + g = N ∧ v = .int .i64 (j : Int) ∧ (∀ k (h : k < T.length), k < j → (T[k].toList == s.toList) = false) ∧ wr = w)
  case atStart => exact ⟨0, by omega, rfl, fun k _ h => absurd h (Nat.not_lt_zero k), rfl⟩
  case round =>
    obtain ⟨j, k1, rfl, k3, hww⟩ := hrel
    have hww' := hww.symm
    subst hww'
    have k3' := hide k3
    clear hww k3
    by_cases hlt : j < N
    · have hjT : j < T.length := by omega
      obtain ⟨g1, rfl, x1⟩ := unhide h1' j hjT
      have hj0 : (0 : Int) ≤ (j : Int) := by omega
      have hjN : (j : Int) < (N : Int) := by omega
      obtain ⟨q, hq⟩ : ∃ q, (T[j].toList == s.toList) = q := ⟨_, rfl⟩
      have hnx : Hid (q = false → ∀ k (h : k < T.length), k < j + 1 → (T[k].toList == s.toList) = false) := hide fun hf k h hk => by
        by_cases e : k = j
        · subst e; rw [hq, hf]
        · exact unhide k3' k h (by omega)
      have hys : Hid (q = true → V = true) := hide fun ht => unhide hyes j hjT (by rw [hq, ht])
      generalize T[j] = X at x1 hq
      cases q
      · have hn2 := hide (unhide hnx rfl)
        clear hnx hys
        go_wp2
        go_roundg (gk - 1)
        case measure => omega
        case rel => exact ⟨j + 1, by omega, by go_num, unhide hn2, rfl⟩
      · have hy2 := hide (unhide hys rfl)
        clear hnx hys
        go_wp2
        go_ret
        exact ⟨by rw [unhide hy2]; rfl, rfl⟩
    · have hV2 : Hid (V = false) := hide (unhide hnot fun k h => unhide k3' k h (by omega))
      have ej : j = N := by omega
      go_wp2
      go_ret
      exact ⟨by rw [unhide hV2]; rfl, rfl⟩

end Go.Proofs.YtnfakamfmkhlbabGreatDoor.C
