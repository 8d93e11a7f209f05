import Derived.Test.YtnfakamfmkhlbaaGreatDoorZt25
namespace Go.Proofs.YtnfakamfmkhlbaaGreatDoor.C

open Go.ChangeShapes Go.WideShapes Go.ChangeAt Go.RowKit Go.Shelf

open Go.Proofs.YtnfakamfmkhlbaaGreatDoor.P

attribute [local go_sem] setCell_drewN alloc_drewN Oper.semAt_some

def stateA (c : Bool) (n o : Int) : Array Value := #[.bool c, .int .i64 n, .int .i64 o]

theorem infoSt : (Tryz.prog.info? 44).map (·.size) = some 3 := by kernel_rfl

theorem stateA_ones (c : Bool) (n o : Int) : (stateA c n o).all (·.oneCell') = true := by simp [stateA, Value.oneCell']

/-- what lies still while it is looked. -/
structure Lk (w : World) (PA : Array Value) (W : World) : Prop where
  ck : Ck w 104 105 PA W
  st : W.heap[w.heap.size + 2]? = some (.cells (stateA false 0 0) 44)

theorem Lk.next {w W W' : World} {PA : Array Value} (h : Lk w PA W) (g : Gr W W') : Lk w PA W' :=
  ⟨h.ck.next g, (Below.block g _ (Array.getElem?_eq_some_iff.1 h.st).1).trans h.st⟩

theorem Lk.c0 {w W : World} {PA : Array Value} (h : Lk w PA W) : W.cell? ⟨w.heap.size, 0, none⟩ = some (.func (.func 104) #[] #[]) := by rw [cell_of_row _ _ _ _ _ _ h.ck.q]; rfl

theorem Lk.c1 {w W : World} {PA : Array Value} (h : Lk w PA W) : W.cell? ⟨w.heap.size, 1, none⟩ = some (.func (.func 105) #[] #[]) := by rw [cell_of_row _ _ _ _ _ _ h.ck.q]; rfl

theorem lk_start (w : World) (PA : Array Value) : Lk w PA (((w.alloc (.cells (wayA 104 105) 84)).alloc (.cells PA 25)).alloc (.cells (stateA false 0 0) 44)) := by
  refine ⟨(ck_start w _ _ PA).next ((Gr.refl _).alloc _ _), ?_⟩
  have := World.alloc_heap_new ((w.alloc (.cells (wayA 104 105) 84)).alloc (.cells PA 25)) (.cells (stateA false 0 0) 44)
  rw [World.size_alloc, World.size_alloc] at this
  exact this

def lookV (z : Nat → UInt8) (wh : Bool) (fc : Nat → Bool) (b : Int) : Array Value := stateA (chkS z wh) ((movS z wh fc b).length : Int) (overN z (chkS z wh) ((movS z wh fc b).length : Int))

set_option linter.unusedSimpArgs false in
set_option maxRecDepth 100000 in
set_option maxHeartbeats 4000000 in
theorem lookQ_any {z : Nat → UInt8} {wh : Bool} {fc : Nat → Bool} {b h g : Int} {PA : Array Value} (r : Row z wh fc b h g PA) (hok : layOk z = true) (hb0 : -1 ≤ b) (hb1 : b ≤ 63) (h0 : 0 ≤ kingR z wh) (h1 : kingR z wh ≤ 63) (w : World) (hT : TabIn w) (hC : CasTab w) :
    Calls Tryz.prog 46 #[.agg setA, .agg PA] w fun e w' => e = .returned (.agg (lookV z wh fc b)) ∧ Gr w w' := by
  have hr := hide r
  obtain ⟨b1, b2⟩ := board_of r
  have hz := r.size
  have hchk := hide (fun W => checkQ_any r hok h0 h1 W)
  have hover := hide (fun c n W => over_any z _ b1 b2 c n W)
  have hlen := movS_len z wh fc b
  have hcount : Hid (∀ Bp W, Gr w W → W.heap[Bp]? = some (.cells PA 25) → Calls Tryz.prog 102 #[.func (.func 171) #[] #[.pointer (some ⟨Bp, 0, none⟩)]] W fun e w' => e = .returned (.int .i64 ((movS z wh fc b).length : Int)) ∧ Gr W w') := hide (fun Bp W hg hp =>
    countM_any (movesS_it (unhide hr) hok hb0 hb1 Bp (fun _ => False) (fun _ h => h.elim) W hp (hT.gr hg) (hC.gr hg)) (enters_of Tryz.func171 (by kernel_rfl) rfl) (by
      rintro k (rfl | rfl | rfl)
      · exact (Array.getElem?_eq_some_iff.1 hp).1
      · exact (hT.gr hg).2
      · exact (hC.gr hg).2) (by omega))
  have hlk : Hid (lookV z wh fc b = stateA (chkS z wh) ((movS z wh fc b).length : Int) (overN z (chkS z wh) ((movS z wh fc b).length : Int))) := hide rfl
  generalize hL : ((movS z wh fc b).length : Int) = L at hcount hlk
  generalize chkS z wh = C at hchk hlk
  have hi72 : (Tryz.prog.info? 25).map (·.size) = some PA.toList.length := by rw [Array.length_toList, hz]; exact infoP72
  have hA0 := lk_start w PA
  have hrow64 : Hid (∀ W, Lk w PA W → W.rangeAt (w.heap.size + 1) 0 (PA.toList.take 64)) := hide (fun W hW => by
    intro j v hv
    rw [cell_of_row _ _ _ _ _ _ hW.ck.pa, Nat.zero_add, ← Array.getElem?_toList]
    rw [List.getElem?_take] at hv
    split at hv
    · exact hv
    · cases hv)
  have hi64 : Hid ((Tryz.prog.info? 22).map (·.size) = some (PA.toList.take 64).length) := hide (by rw [info64]; simp [hz])
  clear r hok b1 b2 h0 h1 hr hL hlen hb0 hb1 hT hC
  simp only [setA, wayA]
  go_enter Tryz.func46, Tryz.ntmps46
  go_upto_region 1 with fail
  show Code.wp _ _ _ _ (((w.alloc (.cells (wayA 104 105) 84)).alloc (.cells PA 25)).alloc (.cells (stateA false 0 0) 44))
  generalize (((w.alloc (.cells (wayA 104 105) 84)).alloc (.cells PA 25)).alloc (.cells (stateA false 0 0) 44)) = wA at hA0 ⊢
  refine wp_region_held_drew (S := Lk w PA) (by kernel_rfl) (hA0.next (Gr.refl _).drew) (fun hHeld => ?_)
  refine wpAnyH_take (i := 0) (v := .agg #[.func (.func 104) #[] #[], .func (.func 105) #[] #[]]) rfl (by kernel_rfl) (by kernel_rfl) (by kernel_rfl) (fun _ _ _ h => h) (Or.inl ⟨by rfl, fun w' hw => (by have c0 := hw.c0; have c1 := hw.c1; go_simp)⟩) hHeld ?_
  simp only [Act.put, List.getElem_toArray, List.getElem_cons_zero, List.getElem_cons_succ, List.setIfInBounds_toArray, List.set_cons_zero, List.set_cons_succ]
  refine wpAnyH_take (i := 1) (v := .agg PA) rfl (by kernel_rfl) (by kernel_rfl) (by kernel_rfl) (fun _ _ _ h => h) (y_pos3 hi72 (by rfl) _ rfl (w.heap.size + 1) rfl (fun _ h => h.ck.pa)) hHeld ?_
  simp only [Act.put, List.getElem_toArray, List.getElem_cons_zero, List.getElem_cons_succ, List.setIfInBounds_toArray, List.set_cons_zero, List.set_cons_succ]
  refine wpAnyH_take (i := 3) (v := .pointer (some ⟨w.heap.size, 1, none⟩)) rfl (by kernel_rfl) (by kernel_rfl) (by kernel_rfl) (fun _ _ _ h => h) (Or.inl ⟨by rfl, fun w hw => (by go_simp)⟩) hHeld ?_
  simp only [Act.put, List.getElem_toArray, List.getElem_cons_zero, List.getElem_cons_succ, List.setIfInBounds_toArray, List.set_cons_zero, List.set_cons_succ]
  refine wpAnyH_take (i := 4) (v := .func (.func 105) #[] #[]) rfl (by kernel_rfl) (by kernel_rfl) (by kernel_rfl) (fun _ _ _ h => h) (Or.inl ⟨by rfl, fun w' hw => (by have c0 := hw.c0; have c1 := hw.c1; go_simp)⟩) hHeld ?_
  simp only [Act.put, List.getElem_toArray, List.getElem_cons_zero, List.getElem_cons_succ, List.setIfInBounds_toArray, List.set_cons_zero, List.set_cons_succ]
  refine wpAnyH_take (i := 5) (v := .agg PA) rfl (by kernel_rfl) (by kernel_rfl) (by kernel_rfl) (fun _ _ _ h => h) (y_pos3 hi72 (by rfl) _ rfl (w.heap.size + 1) rfl (fun _ h => h.ck.pa)) hHeld ?_
  simp only [Act.put, List.getElem_toArray, List.getElem_cons_zero, List.getElem_cons_succ, List.setIfInBounds_toArray, List.set_cons_zero, List.set_cons_succ]
  refine wpAnyH_ready (rs := [2]) (by kernel_rfl) (by simp) ?_
  refine AllReadyH.cons rfl (fun K hK => ?_) AllReadyH.nil
  go_simp
  refine (unhide hchk _).mono ?_
  rintro e wa ⟨rfl, hga⟩
  refine hK.out _ _ (hHeld.next hga) (fun hHeld => ?_)
  clear hK K
  refine wpAnyH_ready (rs := [6]) (by kernel_rfl) (by simp) ?_
  refine AllReadyH.cons rfl (fun K hK => ?_) AllReadyH.nil
  go_simp
  refine (setsMoves_mk PA _).mono ?_
  rintro e wb ⟨rfl, hpb, hgb⟩
  refine hK.out _ _ (hHeld.next hgb) (fun hHeld => ?_)
  clear hK K
  refine wpAnyH_ready (rs := [7]) (by kernel_rfl) (by simp) ?_
  refine AllReadyH.cons rfl (fun K hK => ?_) AllReadyH.nil
  go_simp
  refine (unhide hcount _ _ hHeld.ck.gr hpb).mono ?_
  rintro e wc ⟨rfl, hgc⟩
  refine hK.out _ _ (hHeld.next hgc) (fun hHeld => ?_)
  clear hK K
  refine wpAnyH_ready (rs := [8]) (by kernel_rfl) (by simp) ?_
  refine AllReadyH.cons rfl (fun K hK => ?_) AllReadyH.nil
  go_simp
  refine hK.out _ _ hHeld (fun hHeld => ?_)
  clear hK K
  refine wpAnyH_ready (rs := [9]) (by kernel_rfl) (by simp) ?_
  refine AllReadyH.cons rfl (fun K hK => ?_) AllReadyH.nil
  go_simp
  refine hK.out _ _ hHeld (fun hHeld => ?_)
  clear hK K
  refine wpAnyH_done (by kernel_rfl) ?_ _
  clear hHeld hcount hchk hA0 hga hgb hgc hpb
  rename_i hHeld
  go_wp2_with (first
    | (refine wpList_load_mid rfl 22 _ rfl (w.heap.size + 1) 0 rfl (PA.toList.take 64) _ (unhide hrow64 _ (by assumption)) Tryz.underlying22 rfl (unhide hi64) ?_)
    | (go_at_call 103; refine (unhide hover C L _).mono ?_; rintro e wd ⟨rfl, hgd⟩; have hd := Lk.next (by assumption) hgd)
    | (refine wpList_store_row rfl 44 _ _ rfl (w.heap.size + 2) (stateA C L (overN z C L)) rfl rfl 44 (stateA false 0 0) hd.st infoSt rfl (stateA_ones _ _ _) ?_))
  exact bodyPost_ret (v := .agg (stateA C L (overN z C L))) (results_cell_row Tryz.results46 _ _ (w.heap.size + 2) 44 _ (0, 0) _ rfl (setRow_heap _ _ _ _ _ _ hd.st) Tryz.underlying44 rfl infoSt) rfl ⟨by rw [unhide hlk], hd.ck.gr.setRow _ (by omega) _⟩

end Go.Proofs.YtnfakamfmkhlbaaGreatDoor.C

namespace Go.Proofs.YtnfakamfmkhlbaaGreatDoor.C

open Go.ChangeShapes Go.WideShapes Go.ChangeAt Go.RowKit Go.Shelf

open Go.Proofs.YtnfakamfmkhlbaaGreatDoor.P

attribute [local go_sem] setCell_drewN alloc_drewN Oper.semAt_some

def LookEnd (s : ByteArray) (e : Ending) : Prop :=
  (∃ k, BadK s k ∧ e = .returned (.tuple #[.agg (stateA false 0 0), .int .i64 k])) ∨
  (∃ p, readS s = some p ∧ posCan p = true ∧ e = .returned (.tuple #[.agg (lookV (posZ p) p.white p.castle p.behind), .int .i64 0]))

/-- what lies still in Look. -/
structure Rl (w : World) (b1 : Nat) (PA : Array Value) (W : World) : Prop where
  pa : W.heap[b1]? = some (.cells PA 25)
  st : ∃ A : Array Value, A.size = 3 ∧ W.heap[w.heap.size]? = some (.cells A 44)
  ne : b1 ≠ w.heap.size
  gr : Gr w W

theorem Rl.next {w W W' : World} {b1 : Nat} {PA : Array Value} (h : Rl w b1 PA W) (g : Gr W W') : Rl w b1 PA W' := by
  obtain ⟨A, a1, a2⟩ := h.st
  exact ⟨(Below.block g _ (Array.getElem?_eq_some_iff.1 h.pa).1).trans h.pa, ⟨A, a1, (Below.block g _ (Array.getElem?_eq_some_iff.1 a2).1).trans a2⟩, h.ne, Gr.trans h.gr g⟩

theorem Rl.put {w W : World} {b1 : Nat} {PA : Array Value} (h : Rl w b1 PA W) (A : Array Value) (ha : A.size = 3) : Rl w b1 PA (W.setRow w.heap.size A) := by
  obtain ⟨A', a1, a2⟩ := h.st
  refine ⟨?_, ⟨A, ha, setRow_heap _ _ _ _ _ _ a2⟩, h.ne, h.gr.setRow _ (Nat.le_refl _) _⟩
  rw [setRow_far h.ne]
  exact h.pa

set_option linter.unusedSimpArgs false in
set_option maxRecDepth 100000 in
set_option maxHeartbeats 4000000 in
theorem rookLook_any (s : ByteArray) (hs : s.size < 4294967281) (hK : ∀ p, readS s = some p → posCan p = true → 0 ≤ kingR (posZ p) p.white ∧ kingR (posZ p) p.white ≤ 63) (m : Int) (w : World) (hc : Ct m w) (ht : Tabs w) :
    Calls Tryz.prog 21 #[.string s] w fun e w' => LookEnd s e ∧ Gr w w' := by
  have hg0 : Gr w (w.alloc (.cells (stateA false 0 0) 44)) := (Gr.refl w).alloc _ _
  have hst0 := World.alloc_heap_new w (.cells (stateA false 0 0) 44)
  have hc1 := hc.gr hg0
  have h1 : Hid (Calls Tryz.prog 12 #[.string s] (w.alloc (.cells (stateA false 0 0) 44)) fun e w' => ParseEnd s e ∧ Gr (w.alloc (.cells (stateA false 0 0) 44)) w') := hide (parse_any s hs m _ hc1.mx hc1.ml hc1.tab hc1.homes)
  clear hc1
  rcases parse_split s with ⟨p, hr, hcan, hone⟩ | ⟨k, hk, hbad, hone⟩
  · have h2 : Hid (Calls Tryz.prog 12 #[.string s] (w.alloc (.cells (stateA false 0 0) 44)) fun e w' => e = .returned (.tuple #[.agg (posV p), .int .i64 0]) ∧ Gr (w.alloc (.cells (stateA false 0 0) 44)) w') := hide ((unhide h1).mono fun e w' h => ⟨hone e h.1, h.2⟩)
    have hrow := row_read hr
    have hz := hrow.size
    have ho := hide (row_ones hrow)
    have hb := read_beh hr
    obtain ⟨k0, k1⟩ := hK p hr hcan
    have hlook : Hid (∀ W : World, Gr w W → Calls Tryz.prog 46 #[.agg setA, .agg (posV p)] W fun e w' => e = .returned (.agg (lookV (posZ p) p.white p.castle p.behind)) ∧ Gr W w') := hide (fun W hg => lookQ_any hrow (can_lay hcan) hb.1 hb.2 k0 k1 W (hc.gr hg).tab (ht.gr hg).cas)
    have hend : Hid (LookEnd s (.returned (.tuple #[.agg (lookV (posZ p) p.white p.castle p.behind), .int .i64 0]))) := hide (.inr ⟨p, hr, hcan, rfl⟩)
    obtain ⟨LV, hLV, hLs, hLo⟩ : ∃ LV, LV = lookV (posZ p) p.white p.castle p.behind ∧ LV.size = 3 ∧ Hid (LV.all (·.oneCell') = true) := ⟨_, rfl, rfl, hide (stateA_ones _ _ _)⟩
    rw [← hLV] at hlook hend
    generalize posV p = A at h2 hz ho hlook
    clear h1 hone hrow hr hcan hb hK hc ht hs k0 k1 hLV
    have hi72 : (Tryz.prog.info? 25).map (·.size) = some A.toList.length := by rw [Array.length_toList, hz]; exact infoP72
    go_enter Tryz.func21, Tryz.ntmps21
    go_upto_region 2 with (first
      | (go_at_call 12; refine (unhide h2).mono ?_; rintro e w3 ⟨rfl, hg3⟩)
      | (refine wpList_store_row rfl 25 _ _ rfl w3.heap.size A rfl rfl 25 _ (heap_alloc_new _ _) (by rw [hz]; exact infoP) (by rw [hz]; exact zeroP.symm) (unhide ho) ?_))
    generalize hw4 : (w3.alloc (.cells Tryz.zeroCells25 25)).setRow w3.heap.size A = w4
    have hk4 : Rl w w3.heap.size A w4 := by
      have hg4 : Gr w3 w4 := by rw [← hw4]; exact ((Gr.refl w3).alloc _ _).setRow _ (Nat.le_refl _) _
      have hg04 := Gr.trans hg3 hg4
      have hsz := Below.size hg3
      rw [World.size_alloc] at hsz
      exact ⟨by rw [← hw4]; exact setRow_heap _ _ _ _ _ _ (heap_alloc_new w3 _), ⟨_, rfl, (Below.block hg04 _ (Array.getElem?_eq_some_iff.1 hst0).1).trans hst0⟩, by omega, Gr.trans hg0 hg04⟩
    generalize w3.heap.size = b1 at hk4 ⊢
    clear hw4 hg3 h2 hst0 hg0
    go_upto_region 4 with fail
    refine wp_region_held_drew (S := Rl w b1 A) (by kernel_rfl) (hk4.next (Gr.refl _).drew) (fun hHeld => ?_)
    refine wpAnyH_take (i := 1) (v := .agg A) rfl (by kernel_rfl) (by kernel_rfl) (by kernel_rfl) (fun _ _ _ h => h) (y_pos3 hi72 (by rfl) _ rfl b1 rfl (fun _ h => h.pa)) hHeld ?_
    simp only [Act.put, List.getElem_toArray, List.getElem_cons_zero, List.getElem_cons_succ, List.setIfInBounds_toArray, List.set_cons_zero, List.set_cons_succ]
    refine wpAnyH_ready (rs := [0]) (by kernel_rfl) (by simp) ?_
    refine AllReadyH.cons rfl (fun K hK => ?_) AllReadyH.nil
    go_simp
    refine (quick_any _).mono ?_
    rintro e wa ⟨rfl, hga⟩
    refine hK.out _ _ (hHeld.next hga) (fun hHeld => ?_)
    clear hK K
    refine wpAnyH_ready (rs := [2]) (by kernel_rfl) (by simp) ?_
    refine AllReadyH.cons rfl (fun K hK => ?_) AllReadyH.nil
    go_simp
    refine (unhide hlook _ hHeld.gr).mono ?_
    rintro e wb ⟨rfl, hgb⟩
    refine hK.out _ _ (hHeld.next hgb) (fun hHeld => ?_)
    clear hK K
    refine wpAnyH_ready (rs := [3]) (by kernel_rfl) (by simp) ?_
    refine AllReadyH.cons rfl (fun K hK => ?_) AllReadyH.nil
    rw [if_pos (by rfl)]
    obtain ⟨A', a1, a2⟩ := hHeld.st
    refine wp_store_row 44 _ _ rfl _ LV rfl rfl 44 A' a2 (by rw [hLs]; exact infoSt) (by rw [a1, hLs]) (unhide hLo) ?_
    refine hK.out _ _ (hHeld.put LV hLs) (fun hHeld => ?_)
    clear hK K
    simp only [Act.put, List.getElem_toArray, List.getElem_cons_zero, List.getElem_cons_succ, List.setIfInBounds_toArray, List.set_cons_zero, List.set_cons_succ]
    refine wpAnyH_ready (rs := [4]) (by kernel_rfl) (by simp) ?_
    refine AllReadyH.cons rfl (fun K hK => ?_) AllReadyH.nil
    go_simp
    refine hK.out _ _ hHeld (fun hHeld => ?_)
    clear hK K
    refine wpAnyH_done (by kernel_rfl) ?_ _
    go_wp2_with fail
    exact bodyPost_ret (v := .tuple #[.agg LV, .int .i64 0]) (results_cell_tmp Tryz.results21 _ _ w.heap.size 44 _ (0, 0) _ rfl (setRow_heap _ _ _ _ _ _ a2) Tryz.underlying44 rfl (by rw [hLs]; exact infoSt)) rfl ⟨unhide hend, hHeld.gr⟩
  · have h2 : Hid (Calls Tryz.prog 12 #[.string s] (w.alloc (.cells (stateA false 0 0) 44)) fun e w' => e = .returned (.tuple #[.agg Tryz.zeroCells25, .int .i64 k]) ∧ Gr (w.alloc (.cells (stateA false 0 0) 44)) w') := hide ((unhide h1).mono fun e w' h => ⟨hone e h.1, h.2⟩)
    have hend : Hid (LookEnd s (.returned (.tuple #[.agg (stateA false 0 0), .int .i64 k]))) := hide (.inl ⟨k, hbad, rfl⟩)
    clear h1 hone hbad hK hc ht hs
    go_enter Tryz.func21, Tryz.ntmps21
    go_upto_region 2 with (first
      | (go_at_call 12; refine (unhide h2).mono ?_; rintro e w3 ⟨rfl, hg3⟩)
      | (refine wpList_store_row rfl 25 _ _ rfl w3.heap.size Tryz.zeroCells25 rfl rfl 25 _ (heap_alloc_new _ _) (by rw [zeroP]; exact infoP) rfl zeroP_ones ?_))
    have hg4 : Gr w3 ((w3.alloc (.cells Tryz.zeroCells25 25)).setRow w3.heap.size Tryz.zeroCells25) := ((Gr.refl w3).alloc _ _).setRow _ (Nat.le_refl _) _
    have hg04 := Gr.trans hg3 hg4
    have hst4 := (Below.block hg04 _ (Array.getElem?_eq_some_iff.1 hst0).1).trans hst0
    have hgw := Gr.trans hg0 hg04
    generalize (w3.alloc (.cells Tryz.zeroCells25 25)).setRow w3.heap.size Tryz.zeroCells25 = w4 at hg4 hg04 hst4 hgw ⊢
    clear hg0 hst0 h2 hg3 hg4 hg04
    go_wp2_with (refine wpList_store_row rfl 44 _ _ rfl w.heap.size (stateA false 0 0) rfl rfl 44 (stateA false 0 0) hst4 infoSt rfl (stateA_ones _ _ _) ?_)
    exact bodyPost_ret (v := .tuple #[.agg (stateA false 0 0), .int .i64 k]) (results_cell_tmp Tryz.results21 _ _ w.heap.size 44 _ (0, 0) _ rfl (setRow_heap _ _ _ _ _ _ hst4) Tryz.underlying44 rfl infoSt) rfl ⟨unhide hend, hgw.setRow _ (Nat.le_refl _) _⟩

end Go.Proofs.YtnfakamfmkhlbaaGreatDoor.C
