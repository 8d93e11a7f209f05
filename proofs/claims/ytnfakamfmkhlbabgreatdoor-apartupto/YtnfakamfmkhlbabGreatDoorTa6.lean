import Derived.Test.YtnfakamfmkhlbabGreatDoorTa5
namespace Go.Proofs.YtnfakamfmkhlbabGreatDoor.C

open Go.ChangeShapes Go.WideShapes Go.ChangeAt Go.RowKit Go.Shelf

open Go.Proofs.YtnfakamfmkhlbabGreatDoor.P

attribute [local go_sem] setCell_drewN alloc_drewN Oper.semAt_some

/-! rook.Short -/

theorem fc_mem {s : ByteArray} {p : Pos} (hr : readS s = some p) (hc : posCan p = true) {x : Mv} (hx : x ∈ movS (posZ p) p.white p.castle p.behind) : x ∈ movS (posZ p) p.white (fcN p.castle) p.behind := by
  obtain ⟨hC, h0, h1⟩ := pos_can hr hc
  exact (mov_fc hC (Ok.of hr hc).good h0 h1 (fun i hi => (fcN_at p.castle hi).symm) x).1 hx

theorem to_split (s t : ByteArray) : (∃ p x, readS s = some p ∧ posCan p = true ∧ mvR t = some x ∧ x ∈ movS (posZ p) p.white p.castle p.behind ∧ ∀ e, ToEnd s t e → e = .returned (.tuple #[.agg (posV p), .agg (mvA x), .int .i64 0])) ∨
    (∃ k, k ≠ 0 ∧ ErrK s t k ∧ ∀ e, ToEnd s t e → e = .returned (.tuple #[.agg Tryz.zeroCells70, .agg zMv, .int .i64 k])) := by
  rcases parse_split s with ⟨p, hr, hcan, _⟩ | ⟨k, hk, hbad, _⟩
  · have nobad : ∀ k, ¬ BadK s k := fun k h => by
      rcases h with ⟨_, a⟩ | ⟨_, q, a, b⟩
      · rw [hr] at a; cases a
      · rw [hr] at a; rw [← Option.some.inj a, hcan] at b; cases b
    cases hm : mvR t with
    | none =>
      refine .inr ⟨1, by decide, .inr (.inl ⟨rfl, p, hr, hcan, hm⟩), fun e h => ?_⟩
      rcases h with ⟨k, a, _⟩ | ⟨q, _, _, _, rfl⟩ | ⟨q, x, _, _, a, _⟩ | ⟨q, x, _, _, a, _⟩
      · exact absurd a (nobad k)
      · rfl
      · rw [hm] at a; cases a
      · rw [hm] at a; cases a
    | some x =>
      by_cases hx : x ∈ movS (posZ p) p.white p.castle p.behind
      · refine .inl ⟨p, x, hr, hcan, rfl, hx, fun e h => ?_⟩
        rcases h with ⟨k, a, _⟩ | ⟨q, _, _, a, _⟩ | ⟨q, y, a, _, b, c, _⟩ | ⟨q, y, a, _, b, _, rfl⟩
        · exact absurd a (nobad k)
        · rw [hm] at a; cases a
        · rw [hr] at a
          rw [hm] at b
          rw [← Option.some.inj a, ← Option.some.inj b] at c
          exact absurd hx c
        · rw [hr] at a
          rw [hm] at b
          rw [← Option.some.inj a, ← Option.some.inj b]
      · refine .inr ⟨4, by decide, .inr (.inr ⟨rfl, p, x, hr, hcan, hm, hx⟩), fun e h => ?_⟩
        rcases h with ⟨k, a, _⟩ | ⟨q, _, _, a, _⟩ | ⟨q, y, _, _, _, _, rfl⟩ | ⟨q, y, a, _, b, c, _⟩
        · exact absurd a (nobad k)
        · rw [hm] at a; cases a
        · rfl
        · rw [hr] at a
          rw [hm] at b
          rw [← Option.some.inj a, ← Option.some.inj b] at c
          exact absurd c hx
  · refine .inr ⟨k, hk, .inl hbad, fun e h => ?_⟩
    have nogood : ∀ q, readS s = some q → posCan q = true → False := fun q a b => by
      rcases hbad with ⟨_, c⟩ | ⟨_, r, c, d⟩
      · rw [c] at a; cases a
      · rw [c] at a; rw [← Option.some.inj a, d] at b; cases b
    rcases h with ⟨k', a, rfl⟩ | ⟨q, a, b, _⟩ | ⟨q, x, a, b, _⟩ | ⟨q, x, a, b, _⟩
    · have : k' = k := by
        rcases hbad with ⟨rfl, c⟩ | ⟨rfl, r, c, d⟩ <;> rcases a with ⟨rfl, c'⟩ | ⟨rfl, r', c', d'⟩
        · rfl
        · rw [c] at c'; cases c'
        · rw [c] at c'; cases c'
        · rfl
      rw [this]
    · exact (nogood q a b).elim
    · exact (nogood q a b).elim
    · exact (nogood q a b).elim

structure Sq2 (w : World) (b1 : Nat) (A M : Array Value) (W : World) : Prop where
  pa : W.heap[b1]? = some (.cells A 70)
  mv : W.heap[b1 + 1]? = some (.cells M 87)
  gr : Gr w W

theorem Sq2.next {w W W' : World} {b1 : Nat} {A M : Array Value} (h : Sq2 w b1 A M W) (g : Gr W W') : Sq2 w b1 A M W' :=
  ⟨(Below.block g _ (Array.getElem?_eq_some_iff.1 h.pa).1).trans h.pa, (Below.block g _ (Array.getElem?_eq_some_iff.1 h.mv).1).trans h.mv, Gr.trans h.gr g⟩

def ShortEnd (s t : ByteArray) (e : Ending) : Prop :=
  (∃ k, k ≠ 0 ∧ ErrK s t k ∧ e = .returned (.tuple #[.string ⟨#[]⟩, .int .i64 k])) ∨
  (∃ p x, readS s = some p ∧ posCan p = true ∧ mvR t = some x ∧ x ∈ movS (posZ p) p.white p.castle p.behind ∧ e = .returned (.tuple #[.string (str (shS (posZ p) p.white (fcN p.castle) p.behind x)), .int .i64 0]))

set_option linter.unusedSimpArgs false in
set_option maxRecDepth 100000 in
set_option maxHeartbeats 4000000 in
theorem rookShort_any (s t : ByteArray) (hs : s.size < 4294967281) (ht : t.size < 4294967281) (m : Int) (w : World) (hc : Ct m w) (htb : Tabs w) : Calls Tryz.prog 14 #[.string s, .string t] w fun e w' => ShortEnd s t e ∧ Gr w w' := by
  have h1 := hide (toMove_any s t hs ht m w hc htb)
  rcases to_split s t with ⟨p, x, hr, hcan, hm, hx, hone⟩ | ⟨k, hk, herr, hone⟩
  · have h2 : Hid (Calls Tryz.prog 31 #[.string s, .string t] w fun e w' => e = .returned (.tuple #[.agg (posV p), .agg (mvA x), .int .i64 0]) ∧ Gr w w') := hide ((unhide h1).mono fun e w' h => ⟨hone e h.1, h.2⟩)
    have hend : Hid (ShortEnd s t (.returned (.tuple #[.string (str (shS (posZ p) p.white (fcN p.castle) p.behind x)), .int .i64 0]))) := hide (.inr ⟨p, x, hr, hcan, hm, hx, rfl⟩)
    have o := Ok.of hr hcan
    have hxf := fc_mem hr hcan hx
    have hrow := row_read hr
    have hz := hrow.size
    have ho := hide (row_ones hrow)
    obtain ⟨f, tt, u⟩ := x
    have hwr : Hid (∀ W, TabIn W → CasTab W → Homes W → Calls Tryz.prog 32 #[.agg setA, .agg (posV p), .agg #[.int .i64 (f : Int), .int .i64 (tt : Int), .int .u8 (u.toNat : Int)]] W fun e w' => e = .returned (.string (str (shS (posZ p) p.white (fcN p.castle) p.behind (f, tt, u)))) ∧ Gr W w') := hide (fun W a c d => write_any (row_fcN hrow) o f tt u hxf W a c d)
    have hqk := hide (fun W => quick_any W)
    have hmv : mvA (f, tt, u) = #[.int .i64 (f : Int), .int .i64 (tt : Int), .int .u8 (u.toNat : Int)] := rfl
    rw [hmv] at h2
    generalize str (shS (posZ p) p.white (fcN p.castle) p.behind (f, tt, u)) = S at hend hwr
    generalize posV p = A at h2 hz ho hwr
    have htb' := hide htb
    simp only [setA, wayA] at hwr hqk
    have hc' := hide hc
    clear h1 hone hr hcan hm hx hxf hrow hc htb hs ht hmv o
    go_enter Tryz.func14, Tryz.ntmps14
    go_upto_region 2 with (first
      | (go_at_call 31; refine (unhide h2).mono ?_; rintro e w3 ⟨rfl, hg3⟩)
      | (refine wpList_store_row rfl 70 _ _ rfl w3.heap.size A rfl rfl 70 _ (by first | exact heap_alloc_new _ _ | exact (heapTwo w3 _ _).1) (by rw [hz]; exact infoP) (by rw [hz]; exact zeroP.symm) (unhide ho) ?_)
      | (refine wpList_store_row rfl 87 _ _ rfl (w3.heap.size + 1) #[.int .i64 (f : Int), .int .i64 (tt : Int), .int .u8 (u.toNat : Int)] rfl rfl 87 zMv (by rw [setRow_other _ _ _ _ (by omega)]; exact (heapTwo w3 _ _).2) infoMv3 rfl (by simp [Value.oneCell']) ?_))
    obtain ⟨y1, y2⟩ := heapTwo w3 (.cells Tryz.zeroCells70 70) (.cells zMv 87)
    have hg6 : Gr w3 ((((w3.alloc (.cells Tryz.zeroCells70 70)).alloc (.cells zMv 87)).setRow w3.heap.size A).setRow (w3.heap.size + 1) #[.int .i64 (f : Int), .int .i64 (tt : Int), .int .u8 (u.toNat : Int)]) := ((((Gr.refl w3).alloc _ _).alloc _ _).setRow _ (Nat.le_refl _) _).setRow _ (by omega) _
    have hb1 : ((((w3.alloc (.cells Tryz.zeroCells70 70)).alloc (.cells zMv 87)).setRow w3.heap.size A).setRow (w3.heap.size + 1) #[.int .i64 (f : Int), .int .i64 (tt : Int), .int .u8 (u.toNat : Int)]).heap[w3.heap.size]? = some (.cells A 70) := by rw [setRow_other _ _ _ _ (by omega)]; exact setRow_heap _ _ _ _ _ _ y1
    have hb2 : ((((w3.alloc (.cells Tryz.zeroCells70 70)).alloc (.cells zMv 87)).setRow w3.heap.size A).setRow (w3.heap.size + 1) #[.int .i64 (f : Int), .int .i64 (tt : Int), .int .u8 (u.toNat : Int)]).heap[w3.heap.size + 1]? = some (.cells #[.int .i64 (f : Int), .int .i64 (tt : Int), .int .u8 (u.toNat : Int)] 87) := setRow_heap _ _ _ _ _ _ (by rw [setRow_other _ _ _ _ (by omega)]; exact y2)
    show Code.wp _ _ _ _ ((((w3.alloc (.cells Tryz.zeroCells70 70)).alloc (.cells zMv 87)).setRow w3.heap.size A).setRow (w3.heap.size + 1) #[.int .i64 (f : Int), .int .i64 (tt : Int), .int .u8 (u.toNat : Int)])
    generalize ((((w3.alloc (.cells Tryz.zeroCells70 70)).alloc (.cells zMv 87)).setRow w3.heap.size A).setRow (w3.heap.size + 1) #[.int .i64 (f : Int), .int .i64 (tt : Int), .int .u8 (u.toNat : Int)]) = w6 at hg6 hb1 hb2 ⊢
    generalize w3.heap.size = b1 at hb1 hb2 ⊢
    have m0 : w6.cell? ⟨b1 + 1, 0, none⟩ = some (.int .i64 (f : Int)) := by rw [cell_of_row _ _ _ _ _ _ hb2]; rfl
    have m1 : w6.cell? ⟨b1 + 1, 1, none⟩ = some (.int .i64 (tt : Int)) := by rw [cell_of_row _ _ _ _ _ _ hb2]; rfl
    have m2 : w6.cell? ⟨b1 + 1, 2, none⟩ = some (.int .u8 (u.toNat : Int)) := by rw [cell_of_row _ _ _ _ _ _ hb2]; rfl
    have hS6 : Hid (Sq2 w b1 A #[.int .i64 (f : Int), .int .i64 (tt : Int), .int .u8 (u.toNat : Int)] w6) := hide ⟨hb1, hb2, Gr.trans hg3 hg6⟩
    have hi72 : (Tryz.prog.info? 70).map (·.size) = some A.toList.length := by rw [Array.length_toList, hz]; exact infoP72
    clear h2 hg3 hg6 hb1 hb2 y1 y2
    go_upto_region 4 with fail
    refine wp_region_held_drew (S := Sq2 w b1 A #[.int .i64 (f : Int), .int .i64 (tt : Int), .int .u8 (u.toNat : Int)]) (by kernel_rfl) ((unhide hS6).next (Gr.refl _).drew) (fun hHeld => ?_)
    refine wpAnyH_take (i := 1) (v := .agg A) rfl (by kernel_rfl) (by kernel_rfl) (by kernel_rfl) (fun _ _ _ h => h) (y_pos3 hi72 (by rfl) _ rfl b1 rfl (fun _ h => h.pa)) hHeld ?_
    simp only [Act.put, List.getElem_toArray, List.getElem_cons_zero, List.getElem_cons_succ, List.setIfInBounds_toArray, List.set_cons_zero, List.set_cons_succ]
    refine wpAnyH_take (i := 2) (v := .agg #[.int .i64 (f : Int), .int .i64 (tt : Int), .int .u8 (u.toNat : Int)]) rfl (by kernel_rfl) (by kernel_rfl) (by kernel_rfl) (fun _ _ _ h => h) (Or.inl ⟨by rfl, fun w hw => (by obtain ⟨m0, m1, m2⟩ := mv_cells hw.mv; go_simp)⟩) hHeld ?_
    simp only [Act.put, List.getElem_toArray, List.getElem_cons_zero, List.getElem_cons_succ, List.setIfInBounds_toArray, List.set_cons_zero, List.set_cons_succ]
    refine wpAnyH_ready (rs := [0]) (by kernel_rfl) (by simp) ?_
    refine AllReadyH.cons rfl (fun K hK => ?_) AllReadyH.nil
    go_simp
    refine (unhide hqk _).mono ?_
    rintro e wc ⟨rfl, hgc⟩
    refine hK.out _ _ (hHeld.next hgc) (fun hHeld => ?_)
    clear hK K hgc
    try simp only [Act.put, List.getElem_toArray, List.getElem_cons_zero, List.getElem_cons_succ, List.setIfInBounds_toArray, List.set_cons_zero, List.set_cons_succ]
    refine wpAnyH_ready (rs := [3]) (by kernel_rfl) (by simp) ?_
    refine AllReadyH.cons rfl (fun K hK => ?_) AllReadyH.nil
    go_simp
    refine (unhide hwr _ ((unhide hc').gr hHeld.gr).tab ((unhide htb').gr hHeld.gr).cas ((unhide hc').gr hHeld.gr).homes).mono ?_
    rintro e wc ⟨rfl, hgc⟩
    refine hK.out _ _ (hHeld.next hgc) (fun hHeld => ?_)
    clear hK K hgc
    try simp only [Act.put, List.getElem_toArray, List.getElem_cons_zero, List.getElem_cons_succ, List.setIfInBounds_toArray, List.set_cons_zero, List.set_cons_succ]
    refine wpAnyH_take (i := 4) (v := .string S) rfl (by kernel_rfl) (by kernel_rfl) (by kernel_rfl) (fun _ _ _ h => h) (Or.inl ⟨by rfl, fun w hw => (by go_simp)⟩) hHeld ?_
    simp only [Act.put, List.getElem_toArray, List.getElem_cons_zero, List.getElem_cons_succ, List.setIfInBounds_toArray, List.set_cons_zero, List.set_cons_succ]
    refine wpAnyH_take (i := 5) (v := .int .i64 0) rfl (by kernel_rfl) (by kernel_rfl) (by kernel_rfl) (fun _ _ _ h => h) (Or.inl ⟨by rfl, fun w hw => (by go_simp)⟩) hHeld ?_
    simp only [Act.put, List.getElem_toArray, List.getElem_cons_zero, List.getElem_cons_succ, List.setIfInBounds_toArray, List.set_cons_zero, List.set_cons_succ]
    refine wpAnyH_done (by kernel_rfl) ?_ _
    go_wp2_with fail
    go_ret2
    exact ⟨unhide hend, hHeld.gr⟩
  · have h2 : Hid (Calls Tryz.prog 31 #[.string s, .string t] w fun e w' => e = .returned (.tuple #[.agg Tryz.zeroCells70, .agg zMv, .int .i64 k]) ∧ Gr w w') := hide ((unhide h1).mono fun e w' h => ⟨hone e h.1, h.2⟩)
    have hend : Hid (ShortEnd s t (.returned (.tuple #[.string ⟨#[]⟩, .int .i64 k]))) := hide (.inl ⟨k, hk, herr, rfl⟩)
    have k2 : (k != 0) = true := by rw [bne_iff_ne]; exact hk
    clear h1 hone hk herr hc htb hs ht
    go_enter Tryz.func14, Tryz.ntmps14
    go_upto_region 2 with (first
      | (go_at_call 31; refine (unhide h2).mono ?_; rintro e w3 ⟨rfl, hg3⟩)
      | (refine wpList_store_row rfl 70 _ _ rfl w3.heap.size Tryz.zeroCells70 rfl rfl 70 _ (by first | exact heap_alloc_new _ _ | exact (heapTwo w3 _ _).1) (by rw [zeroP]; exact infoP) rfl zeroP_ones ?_)
      | (refine wpList_store_row rfl 87 _ _ rfl (w3.heap.size + 1) zMv rfl rfl 87 zMv (by rw [setRow_other _ _ _ _ (by omega)]; exact (heapTwo w3 _ _).2) infoMv3 rfl zMv_ones ?_))
    have hg6 : Gr w3 ((((w3.alloc (.cells Tryz.zeroCells70 70)).alloc (.cells zMv 87)).setRow w3.heap.size Tryz.zeroCells70).setRow (w3.heap.size + 1) zMv) := ((((Gr.refl w3).alloc _ _).alloc _ _).setRow _ (Nat.le_refl _) _).setRow _ (by omega) _
    show Code.wp _ _ _ _ ((((w3.alloc (.cells Tryz.zeroCells70 70)).alloc (.cells zMv 87)).setRow w3.heap.size Tryz.zeroCells70).setRow (w3.heap.size + 1) zMv)
    generalize ((((w3.alloc (.cells Tryz.zeroCells70 70)).alloc (.cells zMv 87)).setRow w3.heap.size Tryz.zeroCells70).setRow (w3.heap.size + 1) zMv) = w6 at hg6 ⊢
    have hgw := hide (Gr.trans hg3 hg6)
    clear h2 hg3 hg6
    go_wp2_with fail
    go_ret2
    exact ⟨unhide hend, unhide hgw⟩

end Go.Proofs.YtnfakamfmkhlbabGreatDoor.C
