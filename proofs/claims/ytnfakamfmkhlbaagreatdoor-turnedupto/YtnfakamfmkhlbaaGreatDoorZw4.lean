import Derived.Test.YtnfakamfmkhlbaaGreatDoorZw3
namespace Go.Proofs.YtnfakamfmkhlbaaGreatDoor.C
open Go.ChangeShapes Go.WideShapes Go.ChangeAt Go.RowKit Go.Shelf
open Go.Proofs.YtnfakamfmkhlbaaGreatDoor.P
attribute [local go_sem] qb qd Oper.semAt_some
set_option linter.unusedSimpArgs false in
set_option maxRecDepth 100000 in
set_option maxHeartbeats 4000000 in
theorem turned_bad (s : ByteArray) (k : Int) (hk : k ≠ 0) (w : World) (h0 : Calls Tryz.prog 19 #[] w fun e w' => e = .returned (.bool true) ∧ Gr w w')
    (hP : ∀ W, Gr w W → Calls Tryz.prog 12 #[.string s] W fun e w' => e = .returned (.tuple #[.agg Tryz.zeroCells25, .int .i64 k]) ∧ Gr W w') :
    Calls Tryz.prog 8 #[.string s] w fun e w' => e = .returned (.bool true) ∧ Gr w w' := by
  have h0 := hide h0
  have hP := hide hP
  have k2 : (k != 0) = true := by rw [bne_iff_ne]; exact hk
  clear hk
  go_enter Tryz.func8, Tryz.ntmps8
  go_upto_region 4 with (go_at_call 19; refine (qa h0).mono ?_; rintro e w1 ⟨rfl, hg1⟩)
  go_upto_region 5 with (first
    | (go_at_call 12; refine (qa hP _ hg1).mono ?_; rintro e w3 ⟨rfl, hg3⟩; have y1 := heap_alloc_new w3 (.cells Tryz.zeroCells25 25))
    | (refine wpList_store_row rfl 25 _ _ rfl w3.heap.size Tryz.zeroCells25 rfl rfl 25 Tryz.zeroCells25 (by with_reducible exact y1) (by rw [zeroP]; exact infoP) rfl zeroP_ones ?_))
  have hg4 : Gr w3 ((w3.alloc (.cells Tryz.zeroCells25 25)).setRow w3.heap.size Tryz.zeroCells25) := ((Gr.refl w3).alloc _ _).setRow _ (Nat.le_refl _) _
  generalize (w3.alloc (.cells Tryz.zeroCells25 25)).setRow w3.heap.size Tryz.zeroCells25 = w4 at hg4 ⊢
  have hgC := hide (Gr.trans hg1 (Gr.trans hg3 hg4))
  clear hg1 hg3 hg4 y1 h0 hP
  go_wp2_with fail
  go_ret
  exact ⟨rfl, qa hgC⟩
/-- the texts of the one are those of the other, turned over. -/
structure Ovs (T T' : List ByteArray) : Prop where
  len : T'.length = T.length
  four : ∀ j (h : j < T.length), 4 ≤ T[j].size
  has : ∀ j (h : j < T.length), hasT T' ⟨(ovL T[j].data.toList).toArray⟩ = true
set_option linter.unusedSimpArgs false in
set_option maxRecDepth 100000 in
set_option maxHeartbeats 8000000 in
theorem turned_good (s S : ByteArray) (A : Array Value) (hz : A.size = 72) (ho : A.all (·.oneCell') = true) (T T' : List ByteArray) (hO : Ovs T T') (hTl : T.length ≤ 1000000) (c : Bool) (n o : Int) (RQ : Array Value → Prop) (w : World)
    (h0 : Calls Tryz.prog 19 #[] w fun e w' => e = .returned (.bool true) ∧ Gr w w')
    (hP : ∀ W, Gr w W → Calls Tryz.prog 12 #[.string s] W fun e w' => e = .returned (.tuple #[.agg A, .int .i64 0]) ∧ Gr W w')
    (hT : ∀ W, Calls Tryz.prog 28 #[.agg A] W fun e w' => ∃ Q, e = .returned (.agg Q) ∧ RQ Q ∧ Gr W w')
    (hF : ∀ Q W, RQ Q → Gr w W → Calls Tryz.prog 14 #[.agg Q] W fun e w' => e = .returned (.tuple #[.string S, .int .i64 0]) ∧ Gr W w')
    (hM : ∀ W, Gr w W → Calls Tryz.prog 20 #[.string s, .int .i64 1] W fun e w' => MoEnd T 0 e w' ∧ Gr W w')
    (hN : ∀ W, Gr w W → Calls Tryz.prog 20 #[.string S, .int .i64 1] W fun e w' => MoEnd T' 0 e w' ∧ Gr W w')
    (hL : ∀ W, Gr w W → Calls Tryz.prog 21 #[.string s] W fun e w' => e = .returned (.tuple #[.agg #[.bool c, .int .i64 n, .int .i64 o], .int .i64 0]) ∧ Gr W w')
    (hK : ∀ W, Gr w W → Calls Tryz.prog 21 #[.string S] W fun e w' => e = .returned (.tuple #[.agg #[.bool c, .int .i64 n, .int .i64 o], .int .i64 0]) ∧ Gr W w') :
    Calls Tryz.prog 8 #[.string s] w fun e w' => e = .returned (.bool true) ∧ Gr w w' := by
  have h0 := hide h0
  have hP := hide hP
  have hT := hide hT
  have hF := hide hF
  have hM := hide hM
  have hN := hide hN
  have hL := hide hL
  have hK := hide hK
  have ho := hide ho
  go_enter Tryz.func8, Tryz.ntmps8
  go_upto_region 4 with (go_at_call 19; refine (qa h0).mono ?_; rintro e w1 ⟨rfl, hg1⟩)
  go_upto_region 5 with (first
    | (go_at_call 12; refine (qa hP _ hg1).mono ?_; rintro e w3 ⟨rfl, hg3⟩; have y1 := heap_alloc_new w3 (.cells Tryz.zeroCells25 25))
    | (refine wpList_store_row rfl 25 _ _ rfl w3.heap.size A rfl rfl 25 Tryz.zeroCells25 (by with_reducible exact y1) (by rw [hz]; exact infoP) (by rw [hz]; exact zeroP.symm) (qa ho) ?_))
  have hg4 : Gr w3 ((w3.alloc (.cells Tryz.zeroCells25 25)).setRow w3.heap.size A) := ((Gr.refl w3).alloc _ _).setRow _ (Nat.le_refl _) _
  have hb6 : ((w3.alloc (.cells Tryz.zeroCells25 25)).setRow w3.heap.size A).heap[w3.heap.size]? = some (.cells A 25) := setRow_heap _ _ _ _ _ _ y1
  generalize (w3.alloc (.cells Tryz.zeroCells25 25)).setRow w3.heap.size A = w4 at hg4 hb6 ⊢
  generalize w3.heap.size = b6 at hb6 ⊢
  have hS : Sd w b6 A w4 := ⟨hb6, Gr.trans hg1 (Gr.trans hg3 hg4)⟩
  clear hg1 hg3 hg4 y1 h0 hP hb6
  have hrow := hide (xv hS.p)
  go_upto_region 8 with (first
    | (go_at_call 28; refine (qa hT _).mono ?_; rintro e w5 ⟨Q, rfl, hQ, hg5⟩)
    | (go_at_call 14; refine (qa hF Q _ hQ (Gr.trans hS.gr hg5)).mono ?_; rintro e w6 ⟨rfl, hg6⟩)
    | (refine qj (by rfl) _ rfl b6 rfl hz (qa hrow) ?_))
  have hg := Gr.trans (Gr.trans hS.gr hg5) hg6
  clear hS hg5 hg6 hrow hT hF hQ
  go_upto_region 9 with (go_at_call 20; refine (qa hM _ hg).mono ?_; rintro e w7 ⟨⟨p1, cap1, rfl, hcap1, hel1⟩, hg7⟩)
  have hgA := Gr.trans hg hg7
  have hel : Hid (El p1 T w7) := hide hel1
  clear hg hg7 hM hel1
  go_upto_region 10 with (go_at_call 20; refine (qa hN _ hgA).mono ?_; rintro e w8 ⟨⟨p2, cap2, rfl, hcap2, hel2⟩, hg8⟩)
  have hgB := Gr.trans hgA hg8
  have hel := hide ((qa hel).gr hg8)
  have hfl : Hid (El p2 T' w8) := hide hel2
  clear hgA hg8 hN hel2
  go_upto_region 11 with (go_at_call 21; refine (qa hL _ hgB).mono ?_; rintro e w9 ⟨rfl, hg9⟩)
  have hg10 : Gr w9 (w9.alloc (.cells #[.bool c, .int .i64 n, .int .i64 o] 44)) := (Gr.refl w9).alloc _ _
  have hb10 := heap_alloc_new w9 (.cells #[.bool c, .int .i64 n, .int .i64 o] 44)
  show Code.wp _ _ _ _ (w9.alloc (.cells #[.bool c, .int .i64 n, .int .i64 o] 44))
  generalize w9.alloc (.cells #[.bool c, .int .i64 n, .int .i64 o] 44) = w10 at hg10 hb10 ⊢
  generalize w9.heap.size = b10 at hb10 ⊢
  have hgC := Gr.trans hgB (Gr.trans hg9 hg10)
  have hel := hide ((qa hel).gr (Gr.trans hg9 hg10))
  have hfl := hide ((qa hfl).gr (Gr.trans hg9 hg10))
  clear hgB hg9 hg10 hL
  go_upto_region 12 with (go_at_call 21; refine (qa hK _ hgC).mono ?_; rintro e w11 ⟨rfl, hg11⟩)
  have hg12 : Gr w11 (w11.alloc (.cells #[.bool c, .int .i64 n, .int .i64 o] 44)) := (Gr.refl w11).alloc _ _
  have hb12 := heap_alloc_new w11 (.cells #[.bool c, .int .i64 n, .int .i64 o] 44)
  show Code.wp _ _ _ _ (w11.alloc (.cells #[.bool c, .int .i64 n, .int .i64 o] 44))
  have hb10 := (Below.block (Gr.trans hg11 hg12) _ (qze hb10)).trans hb10
  generalize w11.alloc (.cells #[.bool c, .int .i64 n, .int .i64 o] 44) = w12 at hg12 hb12 hb10 ⊢
  generalize w11.heap.size = b12 at hb12 ⊢
  have hgD := hide (Gr.trans hgC (Gr.trans hg11 hg12))
  have hel := hide ((qa hel).gr (Gr.trans hg11 hg12))
  have hfl := hide ((qa hfl).gr (Gr.trans hg11 hg12))
  clear hgC hg11 hg12 hK
  have a0 : w12.cell? ⟨b10, 0, none⟩ = some (.bool c) := by rw [ql hb10]; rfl
  have a1 : w12.cell? ⟨b10, 1, none⟩ = some (.int .i64 n) := by rw [ql hb10]; rfl
  have a2 : w12.cell? ⟨b10, 2, none⟩ = some (.int .i64 o) := by rw [ql hb10]; rfl
  have d0 : w12.cell? ⟨b12, 0, none⟩ = some (.bool c) := by rw [ql hb12]; rfl
  have d1 : w12.cell? ⟨b12, 1, none⟩ = some (.int .i64 n) := by rw [ql hb12]; rfl
  have d2 : w12.cell? ⟨b12, 2, none⟩ = some (.int .i64 o) := by rw [ql hb12]; rfl
  have hlen := hO.len
  rw [hlen]
  have hO := hide hO
  clear hb10 hb12 hlen
  obtain ⟨N, hNN⟩ : ∃ N, Hid (N = T.length) := ⟨_, hide rfl⟩
  rw [← qa hNN] at hTl ⊢
  go_upto_region 15 with fail
  clear a0 a1 a2 d0 d1 d2
  go_loopg [16] N (fun g v wr => ∃ (j : Nat), j + g = N ∧ v = .int .i64 (j : Int) ∧ El p1 T wr ∧ El p2 T' wr ∧ Gr w wr)
  case atStart => exact ⟨0, by omega, rfl, qa hel, qa hfl, qa hgD⟩
  case round =>
    obtain ⟨j, k1, rfl, k3, k4, k5⟩ := hrel
    have k3' := hide k3
    have k4' := hide k4
    have k5' := hide k5
    clear k3 k4 k5 hel hfl hgD
    by_cases hlt : j < N
    · have hjT : j < T.length := by have := qa hNN; omega
      obtain ⟨g1, e1, x1⟩ := qa k3' j hjT
      have hj0 : (0 : Int) ≤ (j : Int) := by omega
      have hjN : (j : Int) < (N : Int) := by omega
      have h4 := (qa hO).four j hjT
      have hhas := hide ((qa hO).has j hjT)
      have hov : Hid (∀ W, Calls Tryz.prog 29 #[.string T[j]] W fun e w' => e = .returned (.string ⟨(ovL T[j].data.toList).toArray⟩) ∧ Gr W w') := hide fun W => ovr_any _ h4 W
      have h4b : (4 : Int) ≤ (T[j].size : Int) := by omega
      have hha : Hid (∀ p2 cap2 W, El p2 T' W → Calls Tryz.prog 25 #[.slice p2 N cap2, .string ⟨(ovL T[j].data.toList).toArray⟩] W fun e w' => e = .returned (.bool true) ∧ w' = W) := hide fun p2 cap2 W hel => by
        have := hasK_any T' (by rw [(qa hO).len, ← qa hNN]; exact hTl) p2 cap2 ⟨(ovL T[j].data.toList).toArray⟩ W hel
        rw [(qa hO).len, ← qa hNN, qa hhas] at this
        exact this
      clear hhas h4
      generalize (⟨(ovL T[j].data.toList).toArray⟩ : ByteArray) = Y at hov hha
      generalize T[j] = X at x1 hov h4b
      subst e1
      go_wp2_with (first
        | (go_at_call 29; refine (qa hov _).mono ?_; rintro e wo ⟨rfl, hgo⟩)
        | (go_at_call 25; refine (qa hha _ _ _ ((qa k4').gr hgo)).mono ?_; rintro e wh' ⟨rfl, hww⟩; have hww' := hww.symm; subst hww'; clear hww))
      go_roundg (gk - 1)
      case measure => omega
      case rel => exact ⟨j + 1, by omega, by go_num, (qa k3').gr hgo, (qa k4').gr hgo, Gr.trans (qa k5') hgo⟩
    · have ej : j = N := by omega
      go_wp2_with fail
      go_ret
      exact ⟨rfl, qa k5'⟩
end Go.Proofs.YtnfakamfmkhlbaaGreatDoor.C
namespace Go.Proofs.YtnfakamfmkhlbaaGreatDoor.C
open Go.RowKit
open Go.Proofs.YtnfakamfmkhlbaaGreatDoor.P
theorem mo_let {s : ByteArray} {p : Pos} (hr : readS s = some p) (hcan : posCan p = true) : ∀ base e w', MovesEnd s 1 base e w' → MoEnd (txts (sortM (movS (posZ p) p.white p.castle p.behind))) 0 e w' := fun base e w' h => by
  rcases h with ⟨a, _⟩ | ⟨q, a, b, _⟩ | ⟨q, _, _, a, _⟩ | ⟨q, v, a, _, _, rfl, hv⟩
  · rw [hr] at a; cases a
  · rw [hr] at a; rw [← Option.some.inj a, hcan] at b; cases b
  · exact absurd (.inl rfl) a
  · rw [hr] at a
    rw [← Option.some.inj a, (pos_twin hr hcan).1] at hv
    obtain ⟨pp, cap, rfl, hcap, hel⟩ := strs_form hv
    exact ⟨pp, cap, rfl, hcap, hel⟩
theorem tx_four {x : Mv} : 4 ≤ (str (txt x)).size := by
  show 4 ≤ (txt x).toArray.size
  rw [List.size_toArray]
  unfold txt mvS nameS
  simp only [List.length_append, List.length_cons, List.length_nil]
  omega
theorem tx_len (z : Nat → UInt8) (wh : Bool) (fc : Nat → Bool) (b : Int) : (txts (sortM (movS z wh fc b))).length = (movS z wh fc b).length := by
  unfold txts
  rw [List.length_map, qxp]
/-- the texts of a position turned over are its texts, turned over. -/
theorem ovs_of {z : Nat → UInt8} {wh : Bool} {fc fd : Nat → Bool} {b h g : Int} (hcan : canS z wh fc b h g = true) (h0 : -1 ≤ b) (h1 : b ≤ 63) (hD : Can (mZ z) (!wh) fd (bm b)) (hf : ∀ i, i < 4 → fd i = fcm fc i) : Ovs (txts (sortM (movS z wh fc b))) (txts (sortM (movS (mZ z) (!wh) fd (bm b)))) := by
  have hC' := qzl (can_mr hcan)
  obtain ⟨b0, b1⟩ := bm_bd h0 h1
  refine ⟨?_, fun j hj => ?_, fun j hj => ?_⟩
  · rw [tx_len, tx_len, movlen_fc hD hC' b0 b1 hf, len_mr hcan h0 h1]
  · have : (txts (sortM (movS z wh fc b)))[j] = str (txt ((sortM (movS z wh fc b))[j]'(by simpa [txts] using hj))) := by simp [txts]
    rw [this]; exact tx_four
  · have hj' : j < (sortM (movS z wh fc b)).length := by simpa [txts] using hj
    have e : (txts (sortM (movS z wh fc b)))[j] = str (txt ((sortM (movS z wh fc b))[j]'hj')) := by simp [txts]
    have hx : (sortM (movS z wh fc b))[j]'hj' ∈ movS z wh fc b := (qp _).mem_iff.1 (List.getElem_mem hj')
    generalize (sortM (movS z wh fc b))[j]'hj' = x at e hx
    have hok := zr _ _ _ _ x hx
    have hm := (mov_fc hD hC' b0 b1 hf (mm x)).2 ((mov_mr hcan h0 h1 hok).2 hx)
    rw [e]
    unfold hasT
    refine List.any_eq_true.2 ⟨str (txt (mm x)), List.mem_map.2 ⟨mm x, (qp _).mem_iff.2 hm, rfl⟩, ?_⟩
    rw [ov_txt hok]
    exact beq_self_eq_true _
/-- THE LAW'S WALK. -/
theorem turnedL_any (s : ByteArray) (hs : s.size < 4294967281) (m : Int) (w : World) (hc : Ct m w) (htb : Tabs w) (hpw : Tab w) : Calls Tryz.prog 8 #[.string s] w fun e w' => e = .returned (.bool true) ∧ Gr w w' := by
  have h0 := begin_tw m w hc htb
  have hP : ∀ W, Gr w W → Calls Tryz.prog 12 #[.string s] W fun e w' => ParseEnd s e ∧ Gr W w' := fun W g => qqf s hs m W (hc.gr g).mx (hc.gr g).ml (hc.gr g).tab (hc.gr g).homes
  rcases xq s with ⟨p, hr, hcan, hone⟩ | ⟨k, hk, hbad, hone⟩
  · obtain ⟨hC, hb0, hb1⟩ := jt hr hcan
    have hrow := jp hr
    have hcm := can_mr hcan
    have hzB := zB_of (Z := mZ (posZ p)) fun n hn => if_neg (by omega)
    have hlen : ((List.range 64).map (mZ (posZ p))).length = 64 := by simp
    have hcm2 := hcm
    rw [hzB] at hcm2
    obtain ⟨p', hr', hcan', ez, ew, ec, eb⟩ := read_written hlen hcm2
    rw [← hzB] at hr' ez
    have hsS := qjz hcm
    obtain ⟨hD, _, _⟩ := jt hr' hcan'
    have hL' := (sd_good hr' hcan').2
    have hM' := mo_let hr' hcan'
    rw [ez, ew, eb] at hD hL' hM'
    obtain ⟨b0, b1⟩ := bm_bd hb0 hb1
    have hC' := qzl hcm
    have hlk : lookV (mZ (posZ p)) (!p.white) p'.castle (bm p.behind) = lookV (posZ p) p.white p.castle p.behind := by
      rw [← look_mr hcan hb0 hb1]
      unfold lookV
      rw [movlen_fc hD hC' b0 b1 ec]
    rw [hlk] at hL'
    refine turned_good s ⟨(writeS (mZ (posZ p)) (!p.white) (fcm p.castle) (bm p.behind) p.half p.full).toArray⟩ (posV p) hrow.size (jq hrow) _ _ (ovs_of hcan hb0 hb1 hD ec) (by rw [tx_len]; exact movS_len _ _ _ _) (chkS (posZ p) p.white) ((movS (posZ p) p.white p.castle p.behind).length : Int) (overN (posZ p) (chkS (posZ p) p.white) ((movS (posZ p) p.white p.castle p.behind).length : Int))
      (Row (mZ (posZ p)) (!p.white) (fcm p.castle) (bm p.behind) p.half p.full) w h0 (fun W g => (hP W g).mono fun e w' h => ⟨hone e h.1, h.2⟩) (fun W => trd_any hrow hb0 hb1 W) (fun Q W hQ g => ?_)
      (fun W g => (qqa s hs 1 (fun q a b => pos_let a b) m W (hc.gr g) (htb.gr g)).mono fun e w' h => ⟨mo_let hr hcan _ e w' h.1, h.2⟩)
      (fun W g => (qqa _ hsS 1 (fun q a b => pos_let a b) m W (hc.gr g) (htb.gr g)).mono fun e w' h => ⟨hM' _ e w' h.1, h.2⟩)
      (fun W g => (qq5 s hs (fun q a b => qj3 a b) m W (hc.gr g) (htb.gr g)).mono fun e w' h => ⟨(sd_good hr hcan).2 e h.1, h.2⟩)
      (fun W g => (qq5 _ hsS (fun q a b => qj3 a b) m W (hc.gr g) (htb.gr g)).mono fun e w' h => ⟨hL' e h.1, h.2⟩)
    refine (format_any hQ W (hc.gr g).tab (hc.gr g).homes (hpw.gr g)).mono fun e w' h => ⟨?_, h.2⟩
    rw [h.1]
    unfold formatS
    rw [if_pos hcm]
  · exact turned_bad s k hk w h0 (fun W g => (hP W g).mono fun e w' h => ⟨hone e h.1, h.2⟩)
end Go.Proofs.YtnfakamfmkhlbaaGreatDoor.C
