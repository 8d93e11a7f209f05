import Derived.Test.YtnfakamfmkhlbaaGreatDoorZg39
import Derived.Test.YtnfakamfmkhlbaaGreatDoorZg36
import Derived.Test.YtnfakamfmkhlbaaGreatDoorKz
namespace Go.Proofs.YtnfakamfmkhlbaaGreatDoor.C
open Go.ChangeShapes Go.WideShapes Go.ChangeAt Go.RowKit Go.Shelf
open Go.Proofs.YtnfakamfmkhlbaaGreatDoor.P
attribute [local go_sem] setCell_drewN alloc_drewN Oper.semAt_some
theorem infoMr : (Tryz.prog.info? 171).map (fun i => (i.zero, i.size, i.bytes)) = some (some (.agg #[.int .i64 0, .int .i64 0, .int .u8 0]), 3, 24) := by kernel_rfl
def Mrs (base : Nat) (v : Value) (xs : List Mv) (w : World) : Prop := w.ownsRow base 171 3 v xs.length (rowM xs)
theorem mrs_block {base : Nat} {v : Value} {l : List Mv} {w : World} (h : Mrs base v l w) : ∀ k, v.ownBlock = some k → base ≤ k := by
 intro k hk
 rcases h.2 with ⟨rfl, _⟩ | ⟨g, cap, cur, rfl, hb, _⟩
 ·simp [Value.ownBlock] at hk
 ·obtain rfl : g = k := by simpa [Value.ownBlock] using hk
  exact hb
theorem u5_at {q : Nat} (hq : q < 5) : U5.getD q 0 ∈ U5 ∧ U5.take (q + 1) = U5.take q ++ [U5.getD q 0] := by
 have : q = 0 ∨ q = 1 ∨ q = 2 ∨ q = 3 ∨ q = 4 := by omega
 rcases this with rfl | rfl | rfl | rfl | rfl <;> decide
theorem upT5_len (z : Nat → UInt8) (wh : Bool) (fc : Nat → Bool) (b : Int) (f t n : Nat) : (upT5 z wh fc b f t n).length ≤ 5 := by
 unfold upT5
 rw [List.length_map]
 refine Nat.le_trans (List.length_filter_le _ _) ?_
 rw [List.length_take]
 exact Nat.le_trans (Nat.min_le_right _ _) (Nat.le_refl 5)
theorem flat_le {α β : Type} (F : α → List β) (c : Nat) (h : ∀ a, (F a).length ≤ c) : ∀ l : List α, (l.flatMap F).length ≤ l.length * c
 | [] => by simp
 | a :: r => by
   rw [List.flatMap_cons, List.length_append, List.length_cons, Nat.add_mul]
   have := flat_le F c h r
   have := h a
   omega
theorem upK_len (z : Nat → UInt8) (wh : Bool) (fc : Nat → Bool) (b : Int) (f n : Nat) : (upK z wh fc b f n).length ≤ n * 5 := by
 have := flat_le (fun k => upT5 z wh fc b f (sqF k) (moR z f (sqF k))) 5 (fun k => upT5_len z wh fc b f _ _) (List.range n)
 rw [List.length_range] at this
 exact this
theorem upI_len (z : Nat → UInt8) (wh : Bool) (fc : Nat → Bool) (b : Int) (n : Nat) : (upI z wh fc b n).length ≤ n * 320 := by
 have := flat_le (fun i => if coc (z (sqF i)) = sdb wh then upK z wh fc b (sqF i) 64 else []) 320 (fun i => by
  split
  ·exact Nat.le_trans (upK_len z wh fc b _ 64) (by omega)
  ·simp) (List.range n)
 rw [List.length_range] at this
 exact this
theorem lastR_is (t : Nat) : lastR t = (((t : Int) / 8 == 0) || ((t : Int) / 8 == 7)) := by
 unfold lastR
 have e0 : decide (t / 8 = 0) = ((t : Int) / 8 == 0) := by
  by_cases q : t / 8 = 0
  ·rw [decide_eq_true q]; symm; rw [beq_iff_eq]; omega
  ·rw [decide_eq_false q]; symm; rw [beq_eq_false_iff_ne]; omega
 have e7 : decide (t / 8 = 7) = ((t : Int) / 8 == 7) := by
  by_cases q : t / 8 = 7
  ·rw [decide_eq_true q]; symm; rw [beq_iff_eq]; omega
  ·rw [decide_eq_false q]; symm; rw [beq_eq_false_iff_ne]; omega
 rw [e0, e7]
theorem range_flat {β : Type} (F : Nat → List β) (n : Nat) : (List.range (n + 1)).flatMap F = (List.range n).flatMap F ++ F n := by
 rw [List.range_succ, List.flatMap_append]; simp
theorem upT5_succ (z : Nat → UInt8) (wh : Bool) (fc : Nat → Bool) (b : Int) (f t q : Nat) (hq : q < 5) : upT5 z wh fc b f t (q + 1) = upT5 z wh fc b f t q ++ (if legR z wh fc b f t (U5.getD q 0) then [(f, t, U5.getD q 0)] else []) := by
 unfold upT5
 rw [(u5_at hq).2, List.filter_append, List.map_append]
 congr 1
 by_cases h : legR z wh fc b f t (U5.getD q 0) = true
 ·rw [List.filter_cons_of_pos h, if_pos h]; rfl
 ·rw [List.filter_cons_of_neg h, if_neg h]; rfl
set_option linter.unusedSimpArgs false in
set_option maxRecDepth 100000 in
set_option maxHeartbeats 4000000 in
theorem allR_any {z : Nat → UInt8} {wh : Bool} {fc : Nat → Bool} {b h g : Int} {PA : Array Value} (r : Row z wh fc b h g PA) (hC : Can z wh fc b) (hb0 : -1 ≤ b) (hb1 : b ≤ 63) (h0 : 0 ≤ h) (h1 : h ≤ 65535) (g0 : 0 ≤ g) (g1 : g ≤ 65535) (w : World) :
  Calls Tryz.prog 95 #[.agg PA] w fun e w' => ∃ v, e = .returned v ∧ Mrs w.heap.size v (allR z wh fc b) w' ∧ Gr w w' := by
 obtain ⟨i0, hi, hz0, hz1, hz2⟩ := info_parts infoMr
 have hi' := hide hi
 clear hi
 have hz := r.size
 have htu := hide (fun W => turn_any r W)
 have hsq := hide r.sq
 have hco := hide (fun (n : Nat) W => colour_any (z n) W)
 have hkd := hide (fun (n : Nat) W => kind_any (z n) W)
 have hle := hide (fun (f t : Nat) (hf : f < 64) (ht : t < 64) (u : UInt8) (hu : u ∈ U5) W => legalR_any r hC hb0 hb1 h0 h1 g0 g1 f t hf ht u hu W)
 have hbw : Hid ((w.alloc (.cells PA 25)).heap[w.heap.size]? = some (.cells PA 25) ∧ w.heap.size < (w.alloc (.cells PA 25)).heap.size) := hide ⟨heap_alloc_new _ _, by rw [World.size_alloc]; omega⟩
 have hg0 : Hid (Gr w (w.alloc (.cells PA 25))) := hide ((Gr.refl w).alloc _ _)
 clear r hC
 go_enter Tryz.func95, Tryz.ntmps95
 go_upto_region 2 with fail
 generalize hW0 : w.alloc (.cells PA 25) = w0 at hbw hg0 ⊢
 have hpa : Hid (∀ W, Gr w0 W → W.heap[w.heap.size]? = some (.cells PA 25)) := hide (fun W g => (Below.block g _ (unhide hbw).2).trans (unhide hbw).1)
 clear hW0 hbw
 go_wp2_with fail
 go_loopg [3, 4] 64 (fun gm v i wr => ∃ d : Nat, d + gm = 64 ∧ i = .int .i64 (d : Int) ∧ Mrs w0.heap.size v (upI z wh fc b d) wr ∧ Gr w0 wr)
 case atStart => exact ⟨0, by omega, rfl, ⟨rfl, .inl ⟨rfl, rfl⟩⟩, Gr.refl _⟩
 case round =>
  obtain ⟨d, d1, rfl, hst, hgr⟩ := hrel
  have hst' := hide hst
  have hgr' := hide hgr
  clear hst hgr
  obtain ⟨go1, hgo1⟩ : ∃ x, x = gk := ⟨_, rfl⟩
  subst hgo1
  by_cases hd : d < 64
  ·obtain ⟨f, hfd⟩ : ∃ f, Hid (f = sqF d) := ⟨_, hide rfl⟩
   have hf : f < 64 := by rw [unhide hfd]; exact sqF_lt d hd
   have e1 : IntKind.i64.wrap ((d : Int) % 8 * 8) = (d : Int) % 8 * 8 := by rw [IntKind.wrap_i64]; omega
   have e2 : IntKind.i64.wrap ((d : Int) % 8 * 8 + (d : Int) / 8) = (f : Int) := by
    have := unhide hfd
    unfold sqF at this
    rw [IntKind.wrap_i64]; omega
   have f0 : (0 : Int) ≤ (f : Int) := by omega
   have f1 : (f : Int) < 64 := by omega
   obtain ⟨CB, hCB⟩ : ∃ x, Hid ((coc (z f) != sdb wh) = x) := ⟨_, hide rfl⟩
   have hcb : (coc (z f) != sdb wh) = CB := unhide hCB
   go_upto_region 6 with fail
   have hHeld0 : RowAt w.heap.size PA wr.drew ∧ Gr w0 wr.drew := ⟨(rowOf (unhide hpa _ (unhide hgr'))).gr (Gr.refl _).drew, (unhide hgr').drew⟩
   refine wp_region_held_drew (S := fun W => RowAt w.heap.size PA W ∧ Gr wr W) (by kernel_rfl) ⟨hHeld0.1, (Gr.refl _).drew⟩ (fun hHeld => ?_)
   clear hHeld0
   refine tk 0 (.int .i64 (f : Int)) rfl (Or.inl ⟨by rfl, fun w hw => (by have cw := hw.1.at' (unhide hsq f hf); go_simp)⟩) hHeld ?_
   simp only [Act.put, C.p4, C.p5, C.p6]
   refine tk 1 (.pointer (some ⟨w.heap.size, 0, none⟩)) rfl (Or.inl ⟨by rfl, fun w hw => (by have cw := hw.1.at' (unhide hsq f hf); go_simp)⟩) hHeld ?_
   simp only [Act.put, C.p4, C.p5, C.p6]
   refine tk 2 (.pointer (some ⟨w.heap.size, f, none⟩)) rfl (Or.inl ⟨by rfl, fun w hw => (by have cw := hw.1.at' (unhide hsq f hf); go_simp)⟩) hHeld ?_
   simp only [Act.put, C.p4, C.p5, C.p6]
   refine tk 3 (.int .u8 ((z f).toNat : Int)) rfl (Or.inl ⟨by rfl, fun w hw => (by have cw := hw.1.at' (unhide hsq f hf); go_simp)⟩) hHeld ?_
   simp only [Act.put, C.p4, C.p5, C.p6]
   refine tk 5 (.agg PA) rfl (y_pos hz (by rfl) _ rfl w.heap.size rfl (fun _ h => h.1)) hHeld ?_
   simp only [Act.put, C.p4, C.p5, C.p6]
   refine wpAnyH_ready (rs := [4]) (by kernel_rfl) (by simp) ?_
   refine AllReadyH.cons rfl (fun K hK => ?_) AllReadyH.nil
   go_simp
   refine (unhide hco f _).mono ?_
   rintro e wa ⟨rfl, hww⟩
   subst hww
   refine hK.out _ _ hHeld (fun hHeld => ?_)
   clear hK K
   try simp only [Act.put, C.p4, C.p5, C.p6]
   refine wpAnyH_ready (rs := [6]) (by kernel_rfl) (by simp) ?_
   refine AllReadyH.cons rfl (fun K hK => ?_) AllReadyH.nil
   go_simp
   refine (unhide htu _).mono ?_
   rintro e wb ⟨rfl, hgb⟩
   refine hK.out _ _ ⟨hHeld.1.gr hgb, Gr.trans hHeld.2 hgb⟩ (fun hHeld => ?_)
   clear hK K hgb
   try simp only [Act.put, C.p4, C.p5, C.p6]
   refine tk 7 (.bool CB) rfl (Or.inl ⟨by rfl, fun w hw => (by go_simp)⟩) hHeld ?_
   simp only [Act.put, C.p4, C.p5, C.p6]
   refine wpAnyH_done (by kernel_rfl) ?_ _
   have hg6 := hide (Gr.trans (unhide hgr') hHeld.2)
   have hst6 := hide (owns_gr (unhide hst') hHeld.2)
   clear hHeld hst' hgr' hcb
   have hup : Hid (upI z wh fc b (d + 1) = upI z wh fc b d ++ (if coc (z f) = sdb wh then upK z wh fc b f 64 else [])) := hide (by unfold upI; rw [range_flat, unhide hfd])
   clear hfd e1 e2
   cases CB
   ·have hcm : coc (z f) = sdb wh := by simpa using unhide hCB
    have hup2 : Hid (upI z wh fc b (d + 1) = upI z wh fc b d ++ upK z wh fc b f 64) := hide (by rw [unhide hup, if_pos hcm])
    clear hup hcm hCB
    obtain ⟨X, hX⟩ : ∃ x, Hid (upI z wh fc b d = x) := ⟨_, hide rfl⟩
    have hXl : X.length ≤ d * 320 := by rw [← unhide hX]; exact upI_len z wh fc b d
    rw [unhide hX] at hst6 hup2
    clear hX
    go_wp2_with fail
    go_loopg [3, 6] 64 (fun gm v kk wr => ∃ e : Nat, e + gm = 64 ∧ kk = .int .i64 (e : Int) ∧ Mrs w0.heap.size v (X ++ upK z wh fc b f e) wr ∧ Gr w0 wr)
    case atStart => exact ⟨0, by omega, rfl, by rw [show upK z wh fc b f 0 = [] from rfl, List.append_nil]; exact unhide hst6, unhide hg6⟩
    case round =>
     clear hst6 hg6
     obtain ⟨e, k1, rfl, hst, hgr⟩ := hrel
     have hst' := hide hst
     have hgr' := hide hgr
     clear hst hgr
     obtain ⟨go2, hgo2⟩ : ∃ x, x = gk := ⟨_, rfl⟩
     subst hgo2
     by_cases he : e < 64
     ·obtain ⟨t, htd⟩ : ∃ t, Hid (t = sqF e) := ⟨_, hide rfl⟩
      have ht : t < 64 := by rw [unhide htd]; exact sqF_lt e he
      have e1 : IntKind.i64.wrap ((e : Int) % 8 * 8) = (e : Int) % 8 * 8 := by rw [IntKind.wrap_i64]; omega
      have e2 : IntKind.i64.wrap ((e : Int) % 8 * 8 + (e : Int) / 8) = (t : Int) := by
       have := unhide htd
       unfold sqF at this
       rw [IntKind.wrap_i64]; omega
      obtain ⟨MO, hMO⟩ : ∃ x, Hid (moR z f t = x) := ⟨_, hide rfl⟩
      have hMO5 : MO ≤ 5 := by rw [← unhide hMO]; unfold moR; split <;> omega
      have hup3 : Hid (upK z wh fc b f (e + 1) = upK z wh fc b f e ++ upT5 z wh fc b f t MO) := hide (by unfold upK; rw [range_flat, ← unhide hMO, unhide htd])
      obtain ⟨Y, hY⟩ : ∃ x, Hid (upK z wh fc b f e = x) := ⟨_, hide rfl⟩
      have hYl : Y.length ≤ e * 5 := by rw [← unhide hY]; exact upK_len z wh fc b f e
      rw [unhide hY] at hst' hup3
      clear hY htd
      obtain ⟨MB, hMB⟩ : ∃ x, Hid ((decide (kdc (z f) = 0) && lastR t) = x) := ⟨_, hide rfl⟩
      have cf : wr.cell? ⟨w.heap.size, f, none⟩ = some (.int .u8 ((z f).toNat : Int)) := by rw [cells_at (unhide hpa _ (unhide hgr'))]; exact unhide hsq f hf
      obtain ⟨KD, hKD⟩ : ∃ x, Hid (kdc (z f) = x) := ⟨_, hide rfl⟩
      have hkf := hide (unhide hkd f)
      rw [unhide hKD] at hkf hMB
      have hl0 : Hid (lastR t = (((t : Int) / 8 == 0) || ((t : Int) / 8 == 7))) := hide (lastR_is t)
      go_upto_region 12 with fail
      clear e1 e2
      go_cut [55] from 30 to 73 (fun s55 wx => s55 = .bool MB ∧ wx = wr)
      case first =>
       obtain ⟨y1, q1⟩ : ∃ x, ((t : Int) / 8 == 0) = x := ⟨_, rfl⟩
       obtain ⟨y2, q2⟩ : ∃ x, ((t : Int) / 8 == 7) = x := ⟨_, rfl⟩
       rw [q1, q2] at hl0
       by_cases k0 : KD = 0
       ·have hk6 : (KD == 0) = true := beq_iff_eq.2 k0
        have hx : Hid (MB = (y1 || y2)) := hide (by rw [← unhide hMB, decide_eq_true k0, unhide hl0, Bool.true_and])
        clear k0 hMB hl0 hle hco htu hkd
        cases y1
        ·go_wp2_with (go_at_call 86; refine (unhide hkf _).mono ?_; rintro e w' ⟨rfl, hww⟩; have hww' := hww.symm; subst hww'; clear hww)
         go_meet
         case rel => exact ⟨by rw [unhide hx]; rfl, rfl⟩
        ·go_wp2_with (go_at_call 86; refine (unhide hkf _).mono ?_; rintro e w' ⟨rfl, hww⟩; have hww' := hww.symm; subst hww'; clear hww)
         go_meet
         case rel => exact ⟨by rw [unhide hx]; rfl, rfl⟩
       ·have hk6 : (KD == 0) = false := by rw [beq_eq_false_iff_ne]; exact k0
        have hx : Hid (MB = false) := hide (by rw [← unhide hMB, decide_eq_false k0]; rfl)
        clear k0 hMB hl0 hle hco htu hkd
        go_wp2_with (go_at_call 86; refine (unhide hkf _).mono ?_; rintro e w' ⟨rfl, hww⟩; have hww' := hww.symm; subst hww'; clear hww)
        go_meet
        case rel => exact ⟨by rw [unhide hx], rfl⟩
      case rest =>
       obtain ⟨rfl, hww⟩ := hcut
       subst hww
       clear cf hkf hl0
       go_upto_if 55 with fail
       go_cut [8] from 56 to 73 (fun s8 wx => s8 = .int .i64 (MO : Int) ∧ wx = wc)
       case first =>
        cases MB
        ·have hx : Hid (MO = 1) := hide (by
          rw [← unhide hMO]; unfold moR; rw [unhide hKD, if_neg]
          rintro ⟨p1, p2⟩
          have := unhide hMB
          rw [decide_eq_true p1, p2] at this
          cases this)
         go_wp2_with fail
         go_meet
         case rel => exact ⟨by rw [unhide hx]; rfl, rfl⟩
        ·have hx : Hid (MO = 5) := hide (by
          rw [← unhide hMO]; unfold moR; rw [unhide hKD, if_pos]
          have := unhide hMB
          rw [Bool.and_eq_true, decide_eq_true_eq] at this
          exact this)
         go_wp2_with fail
         go_meet
         case rel => exact ⟨by rw [unhide hx]; rfl, rfl⟩
       case rest =>
        obtain ⟨rfl, hww⟩ := hcut
        subst hww
        clear hMB hMO hKD
        go_wp2_with fail
        go_loopg [3, 9] MO (fun gm v qq wr => ∃ n : Nat, n + gm = MO ∧ qq = .int .i64 (n : Int) ∧ Mrs w0.heap.size v (X ++ Y ++ upT5 z wh fc b f t n) wr ∧ Gr w0 wr)
        case atStart => exact ⟨0, by omega, rfl, by rw [show upT5 z wh fc b f t 0 = [] from rfl, List.append_nil]; exact unhide hst', unhide hgr'⟩
        case round =>
         clear hst' hgr'
         obtain ⟨n, n1, rfl, hst, hgr⟩ := hrel
         have hst' := hide hst
         have hgr' := hide hgr
         clear hst hgr
         by_cases hn : n < MO
         ·obtain ⟨u, hud⟩ : ∃ u, Hid (u = U5.getD n 0) := ⟨_, hide rfl⟩
          have hu5 : u ∈ U5 := by rw [unhide hud]; exact (u5_at (by omega)).1
          obtain ⟨LG, hLG⟩ : ∃ x, Hid (legR z wh fc b f t u = x) := ⟨_, hide rfl⟩
          have hup4 : Hid (upT5 z wh fc b f t (n + 1) = upT5 z wh fc b f t n ++ (if LG then [(f, t, u)] else [])) := hide (by rw [upT5_succ z wh fc b f t n (by omega), ← unhide hLG, unhide hud])
          have hlg : Hid (∀ W, Calls Tryz.prog 157 #[.agg PA, .agg #[.int .i64 (f : Int), .int .i64 (t : Int), .int .u8 (u.toNat : Int)]] W fun e w' => e = .returned (.bool LG) ∧ Gr W w') := hide (fun W => by rw [← unhide hLG]; exact unhide hle f t hf ht u hu5 W)
          have hix : ∀ W : World, (Instr.index 9 (.string ⟨#[0, 98, 110, 113, 114]⟩) (.int .i64 (n : Int))).run Tryz.prog W = .ok (.int .u8 (u.toNat : Int)) W := by
           have hn5 : n = 0 ∨ n = 1 ∨ n = 2 ∨ n = 3 ∨ n = 4 := by omega
           have hh := unhide hud
           intro W
           rcases hn5 with rfl | rfl | rfl | rfl | rfl <;> (rw [hh]; rfl)
          have nl : (n : Int) < (MO : Int) := by omega
          have hZl : (upT5 z wh fc b f t n).length ≤ 5 := upT5_len z wh fc b f t n
          obtain ⟨Z, hZ⟩ : ∃ x, Hid (upT5 z wh fc b f t n = x) := ⟨_, hide rfl⟩
          rw [unhide hZ] at hst' hup4 hZl
          clear hud hLG hZ
          have hga : Hid (Gr wr (wr.alloc (.cells #[.int .i64 (f : Int), .int .i64 (t : Int), .int .u8 (u.toNat : Int)] 171))) := hide ((Gr.refl _).alloc _ _)
          go_upto_region 18 with fail
          show Code.wp _ _ _ _ (wr.alloc (.cells #[.int .i64 (f : Int), .int .i64 (t : Int), .int .u8 (u.toNat : Int)] 171))
          have hx := World.alloc_heap_new wr (.cells #[.int .i64 (f : Int), .int .i64 (t : Int), .int .u8 (u.toNat : Int)] 171)
          generalize (wr.alloc (.cells #[.int .i64 (f : Int), .int .i64 (t : Int), .int .u8 (u.toNat : Int)] 171)) = wm at hga hx ⊢
          generalize wr.heap.size = Bm at hx ⊢
          have y0 : wm.cell? ⟨Bm, 0, none⟩ = some (.int .i64 (f : Int)) := by rw [cells_at hx]; rfl
          have y1 : wm.cell? ⟨Bm, 1, none⟩ = some (.int .i64 (t : Int)) := by rw [cells_at hx]; rfl
          have y2 : wm.cell? ⟨Bm, 2, none⟩ = some (.int .u8 (u.toNat : Int)) := by rw [cells_at hx]; rfl
          have hbl : Bm < wm.heap.size := World.block_lt_of_cell? _ _ y0
          have hga0 := hide (Gr.trans (unhide hgr') (unhide hga))
          have hrow := hide (rowOf (unhide hpa _ (unhide hga0)))
          clear hx hix hle hco hkd htu hsq
          go_upto_if 69 with (first
           | (go_at_call 157; refine (unhide hlg _).mono ?_; rintro e w2 ⟨rfl, hg2⟩)
           | (refine wpList_load_pos (by rfl) _ rfl w.heap.size rfl hz (unhide hrow) ?_))
          have hg3 := Gr.trans (unhide hga0) hg2
          have hst2 := hide (owns_gr (unhide hst') (Gr.trans (unhide hga) hg2))
          have y0 := (Below.cell hg2 (p := ⟨Bm, 0, none⟩) hbl).trans y0
          have y1 := (Below.cell hg2 (p := ⟨Bm, 1, none⟩) hbl).trans y1
          have y2 := (Below.cell hg2 (p := ⟨Bm, 2, none⟩) hbl).trans y2
          have hs3 := Below.size hg3
          have hg3' := hide hg3
          clear hg2 hga hga0 hgr' hst' hrow hlg hbl hg3
          cases LG
          ·have hst4 : Hid (Mrs w0.heap.size u3 (X ++ Y ++ upT5 z wh fc b f t (n + 1)) w2) := hide (by rw [unhide hup4, if_neg (by simp), List.append_nil]; exact unhide hst2)
           clear hst2
           go_wp2_with fail
           go_roundg (gk - 1)
           case measure => omega
           case rel => exact ⟨n + 1, by omega, by go_num, unhide hst4, unhide hg3'⟩
          ·have hcl : ∀ j u', [Value.int .i64 (f : Int), .int .i64 (t : Int), .int .u8 (u.toNat : Int)][j]? = some u' → (w2.alloc (.cells #[.int .i64 (f : Int), .int .i64 (t : Int), .int .u8 (u.toNat : Int)] 171)).cell? ((⟨w2.heap.size, 0, none⟩ : Addr).add j) = some u' := fun j u' hu => by
            rw [Addr.add_lit, Nat.zero_add, World.cell?_alloc_at _ _ _ _ rfl, ← Array.getElem?_toList]; exact hu
           have hlen : (X ++ Y ++ Z).length ≤ 20805 := by rw [List.length_append, List.length_append]; omega
           obtain ⟨XX, hXX⟩ : ∃ x, Hid (X ++ Y ++ Z = x) := ⟨_, hide rfl⟩
           rw [unhide hXX] at hst2 hlen
           have hup5 : Hid (X ++ Y ++ upT5 z wh fc b f t (n + 1) = XX ++ [(f, t, u)]) := hide (by rw [unhide hup4, if_pos rfl, ← List.append_assoc, unhide hXX])
           clear hup4 hXX
           go_wp2_with (at_builtin; refine wpList_append_own _ rfl (.tmp 70) (.tmp 72) 169 rfl w0.heap.size 171 i0 (.agg #[.int .i64 0, .int .i64 0, .int .u8 0]) 3 24 Tryz.underlying169 (unhide hi') hz0 hz1 hz2 rfl (by decide) u3 XX.length (rowM XX) rfl ((unhide hst2).alloc _) ⟨w2.heap.size, 0, none⟩ 1 1 [.int .i64 (f : Int), .int .i64 (t : Int), .int .u8 (u.toNat : Int)] rfl rfl hcl (by simp [Value.oneCell']) (by unfold maxLen; omega) (by omega) (by simp; omega) ?_; intro v' w3 hown' hgrow hnil)
           go_roundg (gk - 1)
           case measure => omega
           case rel =>
            refine ⟨n + 1, by omega, by go_num, ?_, ?_⟩
            ·unfold Mrs
             rw [unhide hup5, rowM_snoc, List.length_append]
             exact hown'
            ·exact ((unhide hg3').alloc _ _).grown hgrow (by simp; omega) (mrs_block (unhide hst2))
         ·have en : n = MO := by omega
          subst en
          have hst8 : Hid (Mrs w0.heap.size u3 (X ++ upK z wh fc b f (e + 1)) wr) := hide (by rw [unhide hup3, ← List.append_assoc]; exact unhide hst')
          have hnn : ¬ ((n : Int) < (n : Int)) := by omega
          clear hst' hup3
          go_wp2_with fail
          go_roundg (go2 - 1)
          case measure => omega
          case rel => exact ⟨e + 1, by omega, by go_num, unhide hst8, unhide hgr'⟩
     ·have ee : e = 64 := by omega
      subst ee
      have hst9 : Hid (Mrs w0.heap.size u3 (upI z wh fc b (d + 1)) wr) := hide (by rw [unhide hup2]; exact unhide hst')
      clear hst' hup2
      go_wp2_with fail
      go_roundg (go1 - 1)
      case measure => omega
      case rel => exact ⟨d + 1, by omega, by go_num, unhide hst9, unhide hgr'⟩
   ·have hcm : ¬ coc (z f) = sdb wh := by simpa using unhide hCB
    have hst7 : Hid (Mrs w0.heap.size u3 (upI z wh fc b (d + 1)) wb) := hide (by rw [unhide hup, if_neg hcm, List.append_nil]; exact unhide hst6)
    clear hcm hCB hup hst6
    go_wp2_with fail
    go_roundg (go1 - 1)
    case measure => omega
    case rel => exact ⟨d + 1, by omega, by go_num, unhide hst7, unhide hg6⟩
  ·have ed : d = 64 := by omega
   subst ed
   go_wp2_with fail
   go_ret
   exact ⟨u3, rfl, owns_mono (unhide hst') (Below.size (unhide hg0)), Gr.trans (unhide hg0) (unhide hgr')⟩
theorem can_clk {p : Pos} (h : posCan p = true) : 0 ≤ p.half ∧ p.half ≤ 65535 ∧ 0 ≤ p.full ∧ p.full ≤ 65535 := by
 unfold posCan canS canM at h
 simp only [Bool.and_eq_true] at h
 obtain ⟨_, ⟨⟨⟨⟨_, _⟩, _⟩, _⟩, h5⟩, _⟩ := h
 unfold clkOk at h5
 simp only [Bool.and_eq_true, decide_eq_true_eq] at h5
 omega
theorem mrs_form {w : World} {base : Nat} {v : Value} {ys : List Mv} (h : Mrs base v ys w) : ∃ p cap, v = .slice p ys.length cap ∧ ys.length ≤ cap ∧ ∀ i (hy : i < ys.length), ∃ g, p = some ⟨g, 0, none⟩ ∧ w.cell? ⟨g, i * 3, none⟩ = some (.int .i64 (ys[i].1 : Int)) ∧ w.cell? ⟨g, i * 3 + 1, none⟩ = some (.int .i64 (ys[i].2.1 : Int)) ∧ w.cell? ⟨g, i * 3 + 2, none⟩ = some (.int .u8 (ys[i].2.2.toNat : Int)) := by
 rcases h.2 with ⟨rfl, h0⟩ | ⟨g, cap, cur, rfl, hb, hg, hn, hm, hcs, htk⟩
 ·have e0 : ys.length = 0 := h0
  exact ⟨none, 0, by rw [e0], by omega, fun i hi => absurd hi (by omega)⟩
 ·refine ⟨_, _, rfl, hn, fun i hy => ⟨g, rfl, ?_⟩⟩
  have hj : ∀ c, c < 3 → w.cell? ⟨g, i * 3 + c, none⟩ = (mvC ys[i]).toList[c]? := fun c hc => by
   have h1 : i * 3 + c < ys.length * 3 := by omega
   simp only [World.cell?]
   rw [hg]
   show cur[i * 3 + c]? = _
   rw [← Array.getElem?_toList, ← List.getElem?_take_of_lt h1, htk, flat_get, show (i * 3 + c) / 3 = i by omega, show (i * 3 + c) % 3 = c by omega, List.getElem?_eq_getElem hy]
   rfl
  exact ⟨hj 0 (by decide), hj 1 (by decide), hj 2 (by decide)⟩
theorem all_ways {s : ByteArray} {p : Pos} (hr : readS s = some p) (hc : posCan p = true) (n : Int) (hn : n = 1 ∨ n = 2) : allR (posZ p) p.white p.castle p.behind = sortM (waL p n) := by
 obtain ⟨hC, hb0, hb1⟩ := pos_can hr hc
 obtain ⟨t1, _⟩ := pos_twin hr hc
 rw [all_same hC hb0 hb1]
 rcases hn with rfl | rfl
 ·rw [t1]; rfl
 ·rfl
theorem all_ok {s : ByteArray} {p : Pos} (hr : readS s = some p) (hc : posCan p = true) : (∀ x ∈ allR (posZ p) p.white p.castle p.behind, okM x) ∧ (allR (posZ p) p.white p.castle p.behind).length ≤ 20480 := by
 obtain ⟨hC, hb0, hb1⟩ := pos_can hr hc
 refine ⟨fun x hx => ?_, upI_len _ _ _ _ 64⟩
 rw [all_same hC hb0 hb1, (sortM_perm _).mem_iff] at hx
 exact movS_ok _ _ _ _ x hx
set_option linter.unusedSimpArgs false in
set_option maxRecDepth 100000 in
set_option maxHeartbeats 4000000 in
theorem movesR_any (s : ByteArray) (hs : s.size < 4294967281) (n : Int) (w : World) :
  Calls Tryz.prog 43 #[.string s, .int .i64 n] w fun e w' => MovesEnd s n w.heap.size e w' ∧ Gr w w' := by
 have h1 : Hid (Calls Tryz.prog 38 #[.string s] w fun e w' => ParseEnd s e ∧ Gr w w') := hide (parseR_any s hs w)
 rcases parse_split s with ⟨p, hr, hcan, hone⟩ | ⟨k, hk, hbad, hone⟩
 ·have h2 : Hid (Calls Tryz.prog 38 #[.string s] w fun e w' => e = .returned (.tuple #[.agg (posV p), .int .i64 0]) ∧ Gr w w') := hide ((unhide h1).mono fun e w' h => ⟨hone e h.1, h.2⟩)
  have hrow := row_read hr
  have hz := hrow.size
  have ho := hide (row_ones hrow)
  by_cases hn : n = 1 ∨ n = 2
  ·obtain ⟨i0, hi, hz0, hz1, hz2⟩ := info_parts infoS
   have hi' := hide hi
   clear hi
   obtain ⟨hC, hb0, hb1⟩ := pos_can hr hcan
   obtain ⟨c0, c1, c2, c3⟩ := can_clk hcan
   have hall : Hid (∀ W : World, Calls Tryz.prog 95 #[.agg (posV p)] W fun e w' => ∃ v, e = .returned v ∧ Mrs W.heap.size v (allR (posZ p) p.white p.castle p.behind) w' ∧ Gr W w') := hide fun W => allR_any hrow hC hb0 hb1 c0 c1 c2 c3 W
   obtain ⟨hok, hlen⟩ := all_ok hr hcan
   have hend : Hid (∀ base v w', Strs base v (txts (allR (posZ p) p.white p.castle p.behind)) w' → MovesEnd s n base (.returned (.tuple #[v, .int .i64 0])) w') := hide fun base v w' hv => .inr (.inr (.inr ⟨p, v, hr, hcan, hn, rfl, by rw [← all_ways hr hcan n hn]; exact hv⟩))
   generalize allR (posZ p) p.white p.castle p.behind = ys at hall hok hlen hend
   generalize posV p = A at h2 hz ho hall
   clear h1 hone hrow hr hcan hC hb0 hb1 c0 c1 c2 c3 hs
   go_enter Tryz.func43, Tryz.ntmps43
   go_upto_region 2 with (first
    | (go_at_call 38; refine (unhide h2).mono ?_; rintro e w3 ⟨rfl, hg3⟩)
    | (refine wpList_store_row rfl 25 _ _ rfl w3.heap.size A rfl rfl 25 _ (heap_alloc_new _ _) (by rw [hz]; exact infoP) (by rw [hz]; exact zeroP.symm) (unhide ho) ?_))
   generalize hw4 : (w3.alloc (.cells Tryz.zeroCells25 25)).setRow w3.heap.size A = w4
   have hk4 : Tb w w3.heap.size A w4 := ⟨Gr.trans hg3 (by rw [← hw4]; exact ((Gr.refl w3).alloc _ _).setRow _ (Nat.le_refl _) _), by rw [← hw4]; exact setRow_heap _ _ _ _ _ _ (heap_alloc_new w3 _), by rw [← hw4, size_setRow, World.size_alloc]; omega⟩
   generalize w3.heap.size = b1 at hk4 ⊢
   clear hw4 hg3 h2 ho
   go_cut [25] from 16 (fun s25 wx => s25 = .bool false ∧ wx = w4)
   case first =>
    rcases hn with rfl | rfl
    ·go_wp2_with fail
     go_meet
     case rel => exact ⟨rfl, rfl⟩
    ·go_wp2_with fail
     go_meet
     case rel => exact ⟨rfl, rfl⟩
   case rest =>
    obtain ⟨rfl, hww⟩ := hcut
    subst hww
    have hrw := hide (rowAt_of hk4.p)
    go_upto_region 8 with (first
     | (go_at_call 95; refine (unhide hall _).mono ?_; rintro e w1 ⟨v, rfl, hv, hg1⟩; obtain ⟨pp, cap, rfl, hcap, hel⟩ := mrs_form hv)
     | (refine wpList_load_pos (by rfl) _ rfl b1 rfl hz (unhide hrw) ?_))
    have hgw := hide (Gr.trans hk4.gr hg1)
    have hel' := hide hel
    clear hall hv hg1 hk4 hrw hel hn
    go_wp2_with fail
    go_loopg [8, 10] ys.length (fun g v i wr => ∃ k : Nat, k + g = ys.length ∧ i = .int .i64 (k : Int) ∧ Strs w1.heap.size v (txts (ys.take k)) wr ∧ Gr w1 wr)
    case atStart => exact ⟨0, by omega, rfl, ⟨rfl, .inl ⟨rfl, rfl⟩⟩, Gr.refl _⟩
    case round =>
     obtain ⟨k, k1, rfl, hst, hgr⟩ := hrel
     by_cases hlt : k < ys.length
     ·obtain ⟨g, rfl, x0, x1, x2⟩ := unhide hel' k hlt
      have hblt : g < w1.heap.size := World.block_lt_of_cell? _ _ x0
      have x0 := (Below.cell hgr hblt).trans x0
      have x1 := (Below.cell hgr hblt).trans x1
      have x2 := (Below.cell hgr hblt).trans x2
      have hyk : okM ys[k] := hok _ (List.getElem_mem _)
      have htk : Hid (ys.take (k + 1) = ys.take k ++ [ys[k]]) := hide (List.take_succ_eq_append_getElem hlt)
      generalize ys[k] = y at x0 x1 x2 hyk htk
      obtain ⟨f, t, u⟩ := y
      have hst' := hide hst
      have hgr' := hide hgr
      have hwz := Below.size hgr
      obtain ⟨S, hS⟩ : ∃ S, Hid (S = str (txt (f, t, u))) := ⟨_, hide rfl⟩
      have hN : Hid (∀ W, Calls Tryz.prog 96 #[.agg #[.int .i64 (f : Int), .int .i64 (t : Int), .int .u8 (u.toNat : Int)]] W fun e w' => e = .returned (.string S) ∧ Gr W w') := hide (fun W => by rw [unhide hS]; exact moveR_any f t hyk.1 hyk.2 u W)
      clear hst hgr hok hyk
      go_upto_region 10 with (first
       | (go_at_call 96; refine (unhide hN _).mono ?_; rintro e w2 ⟨rfl, hg2⟩; have hg3 := Gr.trans (unhide hgr') hg2; have hs3 := Below.size hg3; have hst2 := hide (owns_gr (unhide hst') hg2))
       | (at_builtin; refine wpList_append_own _ rfl (.tmp 37) (.tmp 43) 37 rfl w1.heap.size 9 i0 (.string ⟨#[]⟩) 1 16 Tryz.underlying37 (unhide hi') hz0 hz1 hz2 rfl (by decide) u8 (txts (ys.take k)).length ((txts (ys.take k)).map Value.string) rfl ((unhide hst2).alloc _) ⟨w2.heap.size, 0, none⟩ 1 1 [.string S] rfl rfl (cell_one_new _ _ _) (by simp [Value.oneCell']) (by unfold maxLen; rw [txts, List.length_map, List.length_take]; omega) (by rw [txts, List.length_map, List.length_take]; omega) (by simp; omega) ?_; intro v' w3 hown' hgrow hnil))
      go_wp2_with fail
      go_roundg (gk - 1)
      case measure => omega
      case rel =>
       refine ⟨k + 1, by omega, by go_num, ?_, ?_⟩
       ·unfold Strs
        rw [unhide htk, txts, List.map_append, List.map_append, List.length_append]
        rw [unhide hS] at hown'
        exact hown'
       ·exact (hg3.alloc _ _).grown hgrow (by simp; omega) (strs_block (unhide hst2))
     ·have ek : k = ys.length := by omega
      rw [ek, List.take_length] at hst
      have hst' := hide hst
      have hgr' := hide hgr
      clear hst hgr hok hel'
      subst ek
      go_wp2_with fail
      go_ret2
      exact ⟨unhide hend _ _ _ (owns_mono (unhide hst') (Below.size (unhide hgw))), Gr.trans (unhide hgw) (unhide hgr')⟩
  ·have hend3 : Hid (∀ base w', MovesEnd s n base (.returned (.tuple #[nilS, .int .i64 3])) w') := hide fun base w' => .inr (.inr (.inl ⟨p, hr, hcan, hn, rfl⟩))
   have n1 : (n != 1) = true := by rw [bne_iff_ne]; exact fun e => hn (.inl e)
   have n2 : (n != 2) = true := by rw [bne_iff_ne]; exact fun e => hn (.inr e)
   have n3 : (n == 1) = false := by rw [beq_eq_false_iff_ne]; exact fun e => hn (.inl e)
   have n4 : (n == 2) = false := by rw [beq_eq_false_iff_ne]; exact fun e => hn (.inr e)
   generalize posV p = A at h2 hz ho
   clear h1 hone hrow hr hcan hs hn
   go_enter Tryz.func43, Tryz.ntmps43
   go_wp2_with (first
    | (go_at_call 38; refine (unhide h2).mono ?_; rintro e w3 ⟨rfl, hg3⟩)
    | (refine wpList_store_row rfl 25 _ _ rfl w3.heap.size A rfl rfl 25 _ (heap_alloc_new _ _) (by rw [hz]; exact infoP) (by rw [hz]; exact zeroP.symm) (unhide ho) ?_))
   go_ret2
   exact ⟨unhide hend3 _ _, Gr.trans hg3 (((Gr.refl w3).alloc _ _).setRow _ (Nat.le_refl _) _)⟩
 ·have h2 : Hid (Calls Tryz.prog 38 #[.string s] w fun e w' => e = .returned (.tuple #[.agg Tryz.zeroCells25, .int .i64 k]) ∧ Gr w w') := hide ((unhide h1).mono fun e w' h => ⟨hone e h.1, h.2⟩)
  have hend : Hid (∀ base w', MovesEnd s n base (.returned (.tuple #[nilS, .int .i64 k])) w') := hide fun base w' => bad_moves hbad
  have k1 : (k == 0) = false := by rw [beq_eq_false_iff_ne]; exact hk
  have k2 : (k != 0) = true := by rw [bne_iff_ne]; exact hk
  clear h1 hone hbad hs hk
  go_enter Tryz.func43, Tryz.ntmps43
  go_wp2_with (first
   | (go_at_call 38; refine (unhide h2).mono ?_; rintro e w3 ⟨rfl, hg3⟩)
   | (refine wpList_store_row rfl 25 _ _ rfl w3.heap.size Tryz.zeroCells25 rfl rfl 25 _ (heap_alloc_new _ _) (by rw [zeroP]; exact infoP) rfl zeroP_ones ?_))
  go_ret2
  exact ⟨unhide hend _ _, Gr.trans hg3 (((Gr.refl w3).alloc _ _).setRow _ (Nat.le_refl _) _)⟩
theorem moves_one (s : ByteArray) (n : Int) : ∃ (T : List ByteArray) (k : Int), T.length ≤ 1000000 ∧ ∀ base e w', MovesEnd s n base e w' → MoEnd T k e w' := by
 have nil : ∀ (k : Int) (w' : World), MoEnd [] k (.returned (.tuple #[nilS, .int .i64 k])) w' := fun k w' => ⟨none, 0, rfl, Nat.le_refl _, fun i hi => absurd hi (Nat.not_lt_zero i)⟩
 rcases parse_split s with ⟨p, hr, hcan, _⟩ | ⟨k, hk, hbad, _⟩
 ·by_cases hn : n = 1 ∨ n = 2
  ·refine ⟨txts (sortM (waL p n)), 0, ?_, fun base e w' h => ?_⟩
   ·obtain ⟨_, hl⟩ := all_ok hr hcan
    rw [all_ways hr hcan n hn] at hl
    unfold txts
    rw [List.length_map]; omega
   ·rcases h with ⟨a, _⟩ | ⟨q, a, b, _⟩ | ⟨q, _, _, a, _⟩ | ⟨q, v, a, _, _, rfl, hv⟩
    ·rw [hr] at a; cases a
    ·rw [hr] at a; rw [← Option.some.inj a, hcan] at b; cases b
    ·exact absurd hn a
    ·rw [hr] at a
     rw [← Option.some.inj a] at hv
     obtain ⟨pp, cap, rfl, hcap, hel⟩ := strs_form hv
     exact ⟨pp, cap, rfl, hcap, hel⟩
  ·refine ⟨[], 3, by simp, fun base e w' h => ?_⟩
   rcases h with ⟨a, _⟩ | ⟨q, a, b, _⟩ | ⟨q, _, _, a, rfl⟩ | ⟨q, v, a, _, b, _⟩
   ·rw [hr] at a; cases a
   ·rw [hr] at a; rw [← Option.some.inj a, hcan] at b; cases b
   ·exact nil 3 w'
   ·exact absurd b hn
 ·refine ⟨[], k, by simp, fun base e w' h => ?_⟩
  rcases hbad with ⟨rfl, hr⟩ | ⟨rfl, p, hr, hcan⟩
  ·rcases h with ⟨a, rfl⟩ | ⟨q, a, b, _⟩ | ⟨q, a, _⟩ | ⟨q, v, a, _⟩
   ·exact nil 1 w'
   ·rw [hr] at a; cases a
   ·rw [hr] at a; cases a
   ·rw [hr] at a; cases a
  ·rcases h with ⟨a, _⟩ | ⟨q, a, b, rfl⟩ | ⟨q, a, b, _⟩ | ⟨q, v, a, b, _⟩
   ·rw [hr] at a; cases a
   ·exact nil 2 w'
   ·rw [hr] at a; rw [← Option.some.inj a, hcan] at b; cases b
   ·rw [hr] at a; rw [← Option.some.inj a, hcan] at b; cases b
set_option maxRecDepth 100000 in
set_option maxHeartbeats 2000000 in
theorem movesL_any (s : ByteArray) (hs : s.size < 4294967281) (n : Int) (m : Int) (w : World) (hc : Ct m w) (ht : Tabs w) : Calls Tryz.prog 18 #[.string s, .int .i64 n] w fun e w' => (∃ v, e = .returned (.tuple #[v, .bool true])) ∧ Gr w w' := by
 obtain ⟨T, k, hlen, hone⟩ := moves_one s n
 have h1 : Hid (Calls Tryz.prog 20 #[.string s, .int .i64 n] w fun e w' => MoEnd T k e w' ∧ Gr w w') := hide ((rookMoves_any s hs n (fun q a b => pos_let a b) m w hc ht).mono fun e w' h => ⟨hone _ _ _ h.1, h.2⟩)
 have h2 : Hid (∀ W, Calls Tryz.prog 43 #[.string s, .int .i64 n] W fun e w' => MoEnd T k e w' ∧ Gr W w') := hide (fun W => (movesR_any s hs n W).mono fun e w' h => ⟨hone _ _ _ h.1, h.2⟩)
 have h3 : Hid (∀ (p1 p2 : Option Addr) (c1 c2 : Nat) (W : World), El p1 T W → El p2 T W → Calls Tryz.prog 42 #[.slice p1 T.length c1, .slice p2 T.length c2] W fun e w' => e = .returned (.bool true) ∧ Gr W w') := hide (fun p1 p2 c1 c2 W a b => sameTexts_any T hlen p1 p2 c1 c2 W a b)
 clear hc ht hone hs
 go_enter Tryz.func18, Tryz.ntmps18
 go_upto_region 2 with (go_at_call 20; refine (unhide h1).mono ?_; rintro e w1 ⟨⟨p1, cap1, rfl, hcap1, hel1⟩, hg1⟩)
 have hel1' : Hid (El p1 T w1) := hide hel1
 clear hel1 h1
 go_upto_region 3 with (go_at_call 43; refine (unhide h2 _).mono ?_; rintro e w2 ⟨⟨p2, cap2, rfl, hcap2, hel2⟩, hg2⟩)
 have hel1'' := hide ((unhide hel1').gr hg2)
 have hel2' : Hid (El p2 T w2) := hide hel2
 have hg12 := Gr.trans hg1 hg2
 clear hel2 hel1' h2 hg1 hg2
 go_upto_region 4 with (go_at_call 42; refine (unhide h3 _ _ _ _ _ (unhide hel1'') (unhide hel2')).mono ?_; rintro e w3 ⟨rfl, hg3⟩)
 have hg := hide (Gr.trans hg12 hg3)
 clear hg12 hg3 hel1'' hel2' h3
 go_wp2_with (go_at_call 16; refine (num_any _ _).mono ?_; rintro e w' ⟨rfl, hww⟩; have hww' := hww.symm; subst hww'; clear hww)
 go_ret2
 exact ⟨⟨.slice p1 T.length cap1, rfl⟩, unhide hg⟩
set_option maxRecDepth 100000 in
set_option maxHeartbeats 2000000 in
theorem sure_any (m : Int) (w : World) (hc : Ct m w) (ht : Tabs w) : Calls Tryz.prog 17 #[] w fun e w' => e = .returned (.bool true) ∧ Gr w w' := by
 have h1 : Hid (∀ n : Int, (n = 1 ∨ n = 2) → ∀ W, Gr w W → Calls Tryz.prog 20 #[.string kingsB, .int .i64 n] W fun e w' => MoEnd kingsT 0 e w' ∧ Gr W w') := hide fun n hn W hg => kingsMoves n hn m W (hc.gr hg) (ht.gr hg)
 have h3 : Hid (∀ (p1 p2 : Option Addr) (c1 c2 : Nat) (W : World), El p1 kingsT W → El p2 kingsT W → Calls Tryz.prog 42 #[.slice p1 kingsT.length c1, .slice p2 5 c2] W fun e w' => e = .returned (.bool true) ∧ Gr W w') := hide (fun p1 p2 c1 c2 W a b => sameTexts_any kingsT (by decide) p1 p2 c1 c2 W a b)
 clear hc ht
 go_enter Tryz.func17, Tryz.ntmps17
 generalize hF : (⟨#[52, 107, 51, 47, 56, 47, 56, 47, 56, 47, 56, 47, 56, 47, 56, 47, 52, 75, 51, 32, 119, 32, 45, 32, 45, 32, 48, 32, 49]⟩ : ByteArray) = F
 rw [show kingsB = F from hF] at h1
 clear hF
 go_upto_region 2 with (go_at_call 20; refine (unhide h1 1 (.inl rfl) _ (Gr.refl _)).mono ?_; rintro e w1 ⟨⟨p1, cap1, rfl, hcap1, hel1⟩, hg1⟩)
 have hel1' : Hid (El p1 kingsT w1) := hide hel1
 clear hel1
 go_upto_region 3 with (go_at_call 20; refine (unhide h1 2 (.inr rfl) _ hg1).mono ?_; rintro e w2 ⟨⟨p2, cap2, rfl, hcap2, hel2⟩, hg2⟩)
 have hg12 := Gr.trans hg1 hg2
 have hel1'' := hide ((unhide hel1').gr hg2)
 have hel2' : Hid (El p2 kingsT w2) := hide hel2
 clear hel2 hel1' h1 hg1 hg2
 go_upto_region 4 with fail
 have hx := World.alloc_heap_new w2 (.cells #[.string ⟨#[101, 49, 100, 49]⟩, .string ⟨#[101, 49, 100, 50]⟩, .string ⟨#[101, 49, 101, 50]⟩, .string ⟨#[101, 49, 102, 49]⟩, .string ⟨#[101, 49, 102, 50]⟩] 9)
 have hga := (Gr.refl w2).alloc #[.string ⟨#[101, 49, 100, 49]⟩, .string ⟨#[101, 49, 100, 50]⟩, .string ⟨#[101, 49, 101, 50]⟩, .string ⟨#[101, 49, 102, 49]⟩, .string ⟨#[101, 49, 102, 50]⟩] 9
 show Code.wp _ _ _ _ (w2.alloc (.cells #[.string ⟨#[101, 49, 100, 49]⟩, .string ⟨#[101, 49, 100, 50]⟩, .string ⟨#[101, 49, 101, 50]⟩, .string ⟨#[101, 49, 102, 49]⟩, .string ⟨#[101, 49, 102, 50]⟩] 9))
 have hel3 : Hid (El (some ⟨w2.heap.size, 0, none⟩) kingsT (w2.alloc (.cells #[.string ⟨#[101, 49, 100, 49]⟩, .string ⟨#[101, 49, 100, 50]⟩, .string ⟨#[101, 49, 101, 50]⟩, .string ⟨#[101, 49, 102, 49]⟩, .string ⟨#[101, 49, 102, 50]⟩] 9))) := hide (fun i hi => ⟨_, rfl, by
  rw [cells_at hx]
  have h5 : i < 5 := hi
  have : i = 0 ∨ i = 1 ∨ i = 2 ∨ i = 3 ∨ i = 4 := by omega
  rcases this with rfl | rfl | rfl | rfl | rfl <;> rfl⟩)
 generalize (w2.alloc (.cells #[.string ⟨#[101, 49, 100, 49]⟩, .string ⟨#[101, 49, 100, 50]⟩, .string ⟨#[101, 49, 101, 50]⟩, .string ⟨#[101, 49, 102, 49]⟩, .string ⟨#[101, 49, 102, 50]⟩] 9)) = w3 at hga hel3 ⊢
 generalize w2.heap.size = b3 at hel3 ⊢
 have hg13 := Gr.trans hg12 hga
 have ha3 := hide ((unhide hel1'').gr hga)
 have hb3 := hide ((unhide hel2').gr hga)
 clear hx hg12 hga hel1'' hel2'
 go_upto_region 5 with (go_at_call 42; refine (unhide h3 _ _ _ _ _ (unhide ha3) (unhide hel3)).mono ?_; rintro e w4 ⟨rfl, hg4⟩)
 have hg14 := Gr.trans hg13 hg4
 have hb4 := hide ((unhide hb3).gr hg4)
 have hel4 := hide ((unhide hel3).gr hg4)
 clear hg13 hg4 ha3 hb3 hel3
 go_upto_region 6 with (go_at_call 42; refine (unhide h3 _ _ _ _ _ (unhide hb4) (unhide hel4)).mono ?_; rintro e w5 ⟨rfl, hg5⟩)
 have hg := hide (Gr.trans hg14 hg5)
 clear hg14 hg5 hb4 hel4 h3
 go_wp2_with fail
 go_ret
 exact ⟨rfl, unhide hg⟩
set_option maxRecDepth 100000 in
set_option maxHeartbeats 2000000 in
theorem finds_any (s : ByteArray) (hs : s.size < 4294967281) (n : Int) (m : Int) (w : World) (hc : Ct m w) (ht : Tabs w) : Calls Tryz.prog 4 #[.string s, .int .i64 n] w fun e w' => e = .returned (.bool true) ∧ Gr w w' := by
 have h0 := hide (sure_any m w hc ht)
 have h1 : Hid (∀ (n : Int) W, Gr w W → Calls Tryz.prog 18 #[.string s, .int .i64 n] W fun e w' => (∃ v, e = .returned (.tuple #[v, .bool true])) ∧ Gr W w') := hide fun n W hg => movesL_any s hs n m W (hc.gr hg) (ht.gr hg)
 clear hc ht hs
 go_enter Tryz.func4, Tryz.ntmps4
 go_upto_region 2 with (go_at_call 17; refine (unhide h0).mono ?_; rintro e w1 ⟨rfl, hg1⟩)
 go_upto_region 3 with (go_at_call 18; refine (unhide h1 _ _ hg1).mono ?_; rintro e w2 ⟨⟨v2, rfl⟩, hg2⟩)
 have hg12 := Gr.trans hg1 hg2
 clear hg1 hg2 h0
 go_upto_region 4 with (go_at_call 18; refine (unhide h1 _ _ hg12).mono ?_; rintro e w3 ⟨⟨v3, rfl⟩, hg3⟩)
 have hg13 := Gr.trans hg12 hg3
 clear hg12 hg3
 go_upto_region 5 with (go_at_call 18; refine (unhide h1 _ _ hg13).mono ?_; rintro e w4 ⟨⟨v4, rfl⟩, hg4⟩)
 have hg := hide (Gr.trans hg13 hg4)
 clear hg13 hg4 h1
 go_wp2_with fail
 go_ret
 exact ⟨rfl, unhide hg⟩
end Go.Proofs.YtnfakamfmkhlbaaGreatDoor.C
