import Derived.Test.YtnfakamfmkhlbabGreatDoorTa7
namespace Go.Proofs.YtnfakamfmkhlbabGreatDoor.C

open Go.Proofs.YtnfakamfmkhlbabGreatDoor.P

set_option maxRecDepth 100000

/-! what the calls of Apart answer -/

theorem nf3_is : (readS firstB).map (fun p => posCan p && p.white && (movS (posZ p) true p.castle p.behind).contains (6, 21, 0) && (shS (posZ p) true (fcN p.castle) p.behind (6, 21, 0) == [78, 102, 51])) = some true := by decide +kernel

theorem g1f3_is : mvR ⟨#[103, 49, 102, 51]⟩ = some (6, 21, 0) := by decide +kernel

theorem short_one {s t : ByteArray} {p : Pos} {x : Mv} {e : Ending} (hr : readS s = some p) (hc : posCan p = true) (hm : mvR t = some x) (hx : x ∈ movS (posZ p) p.white p.castle p.behind) (h : ShortEnd s t e) : e = .returned (.tuple #[.string (str (shS (posZ p) p.white (fcN p.castle) p.behind x)), .int .i64 0]) := by
  rcases h with ⟨k, _, (a | ⟨_, q, _, _, a⟩ | ⟨_, q, y, a, _, b, c⟩), _⟩ | ⟨q, y, a, _, b, _, rfl⟩
  · exact (bad_no a hr hc).elim
  · rw [hm] at a; cases a
  · rw [hr] at a
    rw [hm] at b
    rw [← Option.some.inj a, ← Option.some.inj b] at c
    exact (c hx).elim
  · rw [hr] at a
    rw [hm] at b
    rw [← Option.some.inj a, ← Option.some.inj b]

theorem first_short {e : Ending} (h : ShortEnd firstB ⟨#[103, 49, 102, 51]⟩ e) : e = .returned (.tuple #[.string ⟨#[78, 102, 51]⟩, .int .i64 0]) := by
  obtain ⟨p, hr, hp⟩ := Option.map_eq_some_iff.1 nf3_is
  simp only [Bool.and_eq_true, beq_iff_eq] at hp
  obtain ⟨⟨⟨hc, hw⟩, hx⟩, hs⟩ := hp
  have hx' : (6, 21, 0) ∈ movS (posZ p) p.white p.castle p.behind := by rw [hw]; exact List.contains_iff_mem.1 hx
  have := short_one hr hc g1f3_is hx' h
  rw [hw, hs] at this
  exact this

theorem sh_ne {z : Nat → UInt8} {wh : Bool} {fc : Nat → Bool} {b h g : Int} (o : Ok z wh fc b h g) {x : Mv} (hx : x ∈ movS z wh fc b) : shS z wh fc b x ≠ [] := by
  obtain ⟨f, t, u⟩ := x
  obtain ⟨i, lx⟩ := lg_of o.good o.b0 o.b1 hx
  obtain ⟨l, c, e, _⟩ := body_last (movS z wh fc b) lx
  unfold shS
  rw [e]
  simp

theorem str_inj' {a c : List UInt8} (h : str a = str c) : a = c := by
  have : (str a).data.toList = (str c).data.toList := by rw [h]
  exact this

theorem shF_one {z : Nat → UInt8} {wh : Bool} {fc : Nat → Bool} {b h g : Int} (o : Ok z wh fc b h g) {x y : Mv} (hx : x ∈ movS z wh fc b) (hy : y ∈ shF z wh fc b (str (shS z wh fc b x))) : y = x := by
  obtain ⟨a, c⟩ := List.mem_filter.1 hy
  exact sh_inj o a hx (str_inj' (of_decide_eq_true c))

theorem long_one {s : ByteArray} {p : Pos} {x : Mv} {e : Ending} (hr : readS s = some p) (hc : posCan p = true) (hx : x ∈ movS (posZ p) p.white (fcN p.castle) p.behind) (h : LongEnd s (str (shS (posZ p) p.white (fcN p.castle) p.behind x)) e) : e = .returned (.tuple #[.string (str (txt x)), .int .i64 0]) := by
  have o := Ok.of hr hc
  have hin : x ∈ shF (posZ p) p.white (fcN p.castle) p.behind (str (shS (posZ p) p.white (fcN p.castle) p.behind x)) := List.mem_filter.2 ⟨hx, by simp⟩
  rcases h with ⟨k, a, _⟩ | ⟨q, a, _, b, _⟩ | ⟨q, y, a, _, b, rfl⟩
  · exact (bad_no a hr hc).elim
  · rw [hr] at a
    rw [← Option.some.inj a] at b
    rw [b] at hin
    cases hin
  · rw [hr] at a
    rw [← Option.some.inj a] at b
    rw [shF_one o hx b]

theorem moves_two {s : ByteArray} {p : Pos} {base : Nat} {e : Ending} {w' : World} (hr : readS s = some p) (hc : posCan p = true) (h : MovesEnd s 2 base e w') : ∃ v, e = .returned (.tuple #[v, .int .i64 0]) ∧ Strs base v (txts (sortM (movS (posZ p) p.white p.castle p.behind))) w' := by
  rcases h with ⟨a, _⟩ | ⟨q, a, b, _⟩ | ⟨q, _, _, a, _⟩ | ⟨q, v, a, _, _, rfl, hv⟩
  · rw [hr] at a; cases a
  · rw [hr] at a; rw [← Option.some.inj a, hc] at b; cases b
  · exact (a (.inr rfl)).elim
  · rw [hr] at a
    rw [← Option.some.inj a] at hv
    exact ⟨v, rfl, hv⟩

theorem moves_no {s : ByteArray} {k : Int} {base : Nat} {e : Ending} {w' : World} (hb : BadK s k) (h : MovesEnd s 2 base e w') : e = .returned (.tuple #[nilS, .int .i64 k]) := by
  rcases h with ⟨a, rfl⟩ | ⟨q, a, b, rfl⟩ | ⟨q, a, b, _⟩ | ⟨q, v, a, b, _⟩
  · rcases hb with ⟨rfl, _⟩ | ⟨_, r, c, _⟩
    · rfl
    · rw [a] at c; cases c
  · rcases hb with ⟨_, c⟩ | ⟨rfl, _⟩
    · rw [a] at c; cases c
    · rfl
  · exact (bad_no hb a b).elim
  · exact (bad_no hb a b).elim

theorem has_no {z : Nat → UInt8} {wh : Bool} {fc : Nat → Bool} {b h g : Int} (o : Ok z wh fc b h g) {ys : List Mv} (hys : ys.Nodup) (hin : ∀ y ∈ ys, y ∈ movS z wh fc b) {k : Nat} (hk : k < ys.length) : hasT ((ys.take k).map fun y => str (shS z wh fc b y)) (str (shS z wh fc b ys[k])) = false := by
  unfold hasT
  rw [List.any_eq_false]
  intro x hx
  obtain ⟨y, hy, rfl⟩ := List.mem_map.1 hx
  rw [beq_str]
  intro q
  have e := sh_inj o (hin _ (List.mem_of_mem_take hy)) (hin _ (List.getElem_mem hk)) (str_inj' (of_decide_eq_true q))
  rw [e] at hy
  obtain ⟨j, hj, ej⟩ := List.getElem_of_mem hy
  rw [List.length_take] at hj
  rw [List.getElem_take] at ej
  exact List.pairwise_iff_getElem.1 hys j k (by omega) hk (by omega) ej

end Go.Proofs.YtnfakamfmkhlbabGreatDoor.C

namespace Go.Proofs.YtnfakamfmkhlbabGreatDoor.C

open Go.ChangeShapes Go.WideShapes Go.ChangeAt Go.RowKit Go.Shelf

open Go.Proofs.YtnfakamfmkhlbabGreatDoor.P

attribute [local go_sem] setCell_drewN alloc_drewN Oper.semAt_some

theorem txt_small (x : Mv) : (str (txt x)).size < 4294967281 := by
  have h : (txt x).length ≤ 5 := by
    unfold txt mvS
    rw [List.length_append, List.length_append]
    have : ∀ n, (nameS n).length = 2 := fun n => by unfold nameS; rfl
    rw [this, this]
    split <;> simp
  show (txt x).toArray.size < _
  rw [List.size_toArray]
  omega

set_option linter.unusedSimpArgs false in
set_option maxRecDepth 100000 in
set_option maxHeartbeats 2000000 in
theorem apart_any (s : ByteArray) (hs : s.size < 4294967281) (m : Int) (w : World) (hc : Ct m w) (htb : Tabs w) :
    Calls Tryz.prog 5 #[.string s] w fun e w' => e = .returned (.bool true) ∧ Gr w w' := by
  obtain ⟨i0, hi, hz0, hz1, hz2⟩ := info_parts infoS
  have hi' := hide hi
  clear hi
  have hS0 : Hid (Calls Tryz.prog 14 #[.string firstB, .string ⟨#[103, 49, 102, 51]⟩] w fun e w' => e = .returned (.tuple #[.string ⟨#[78, 102, 51]⟩, .int .i64 0]) ∧ Gr w w') := hide ((rookShort_any firstB ⟨#[103, 49, 102, 51]⟩ (by decide +kernel) (by decide +kernel) m w hc htb).mono fun e w' k => ⟨first_short k.1, k.2⟩)
  rcases parse_split s with ⟨p, hr, hcan, _⟩ | ⟨k, hk, hbad, _⟩
  · have o := Ok.of hr hcan
    have hmv : Hid (∀ W, Gr w W → Calls Tryz.prog 15 #[.string s, .int .i64 2] W fun e w' => (∃ v, e = .returned (.tuple #[v, .int .i64 0]) ∧ Strs W.heap.size v (txts (sortM (movS (posZ p) p.white p.castle p.behind))) w') ∧ Gr W w') := hide fun W gW => (rookMoves_any s hs 2 (fun q a b => pos_let a b) m W (hc.gr gW) (htb.gr gW)).mono fun e w' k => ⟨moves_two hr hcan k.1, k.2⟩
    have hin : ∀ y ∈ sortM (movS (posZ p) p.white p.castle p.behind), y ∈ movS (posZ p) p.white (fcN p.castle) p.behind := fun y hy => fc_mem hr hcan ((sortM_perm _).mem_iff.1 hy)
    have hnd : (sortM (movS (posZ p) p.white p.castle p.behind)).Nodup := (sortM_perm _).nodup_iff.2 (movS_nodup _ _ _ _)
    have hsh : Hid (∀ y ∈ sortM (movS (posZ p) p.white p.castle p.behind), ∀ W, Gr w W → Calls Tryz.prog 14 #[.string s, .string (str (txt y))] W fun e w' => e = .returned (.tuple #[.string (str (shS (posZ p) p.white (fcN p.castle) p.behind y)), .int .i64 0]) ∧ Gr W w') := hide fun y hy W gW => by
      have hy' := (sortM_perm _).mem_iff.1 hy
      obtain ⟨f, t, u⟩ := y
      obtain ⟨hf, ht, hu, _⟩ := o.mv (hin _ hy)
      exact (rookShort_any s _ hs (txt_small _) m W (hc.gr gW) (htb.gr gW)).mono fun e w' k => ⟨short_one hr hcan (mv_read hf ht hu) hy' k.1, k.2⟩
    have hlo : Hid (∀ y ∈ sortM (movS (posZ p) p.white p.castle p.behind), ∀ W, Gr w W → Calls Tryz.prog 16 #[.string s, .string (str (shS (posZ p) p.white (fcN p.castle) p.behind y))] W fun e w' => e = .returned (.tuple #[.string (str (txt y)), .int .i64 0]) ∧ Gr W w') := hide fun y hy W gW => (rookLong_any s _ hs m W (hc.gr gW) (htb.gr gW)).mono fun e w' k => ⟨long_one hr hcan (hin y hy) k.1, k.2⟩
    have hno : Hid (∀ k (hk : k < (sortM (movS (posZ p) p.white p.castle p.behind)).length), hasT (((sortM (movS (posZ p) p.white p.castle p.behind)).take k).map fun y => str (shS (posZ p) p.white (fcN p.castle) p.behind y)) (str (shS (posZ p) p.white (fcN p.castle) p.behind (sortM (movS (posZ p) p.white p.castle p.behind))[k])) = false) := hide fun k hk => has_no o hnd hin hk
    have hne : Hid (∀ y ∈ sortM (movS (posZ p) p.white p.castle p.behind), str (shS (posZ p) p.white (fcN p.castle) p.behind y) ≠ ⟨#[]⟩) := hide fun y hy e => sh_ne o (hin y hy) (str_inj' (a := shS (posZ p) p.white (fcN p.castle) p.behind y) (c := []) e)
    have hlen : (sortM (movS (posZ p) p.white p.castle p.behind)).length ≤ 1000000 := by rw [sortM_len]; exact movS_len _ _ _ _
    generalize sortM (movS (posZ p) p.white p.castle p.behind) = ys at hmv hsh hlo hno hne hlen
    generalize hval : (fun y => str (shS (posZ p) p.white (fcN p.castle) p.behind y)) = val at hno
    have hsh' : Hid (∀ y ∈ ys, ∀ W, Gr w W → Calls Tryz.prog 14 #[.string s, .string (str (txt y))] W fun e w' => e = .returned (.tuple #[.string (val y), .int .i64 0]) ∧ Gr W w') := hide (by rw [← hval]; exact unhide hsh)
    have hlo' : Hid (∀ y ∈ ys, ∀ W, Gr w W → Calls Tryz.prog 16 #[.string s, .string (val y)] W fun e w' => e = .returned (.tuple #[.string (str (txt y)), .int .i64 0]) ∧ Gr W w') := hide (by rw [← hval]; exact unhide hlo)
    have hne' : Hid (∀ y ∈ ys, val y ≠ ⟨#[]⟩) := hide (by rw [← hval]; exact unhide hne)
    have hno' : Hid (∀ k (hk : k < ys.length), hasT ((ys.take k).map val) (val ys[k]) = false) := hide (fun k hk => by have := unhide hno k hk; rw [← hval] at this ⊢; exact this)
    clear hsh hlo hne hno hval hin hnd o hr hcan hc htb hs
    go_enter Tryz.func5, Tryz.ntmps5
    generalize hF : (⟨#[114, 110, 98, 113, 107, 98, 110, 114, 47, 112, 112, 112, 112, 112, 112, 112, 112, 47, 56, 47, 56, 47, 56, 47, 56, 47, 80, 80, 80, 80, 80, 80, 80, 80, 47, 82, 78, 66, 81, 75, 66, 78, 82, 32, 119, 32, 75, 81, 107, 113, 32, 45, 32, 48, 32, 49]⟩ : ByteArray) = F
    rw [show firstB = F from hF] at hS0
    clear hF
    go_upto_region 2 with (go_at_call 14; refine (unhide hS0).mono ?_; rintro e w1 ⟨rfl, hg1⟩)
    clear hS0
    go_upto_region 4 with fail
    obtain ⟨N, hN⟩ : ∃ N, Hid (N = ys.length) := ⟨_, hide rfl⟩
    go_upto_region 5 with (go_at_call 15; refine (unhide hmv _ hg1).mono ?_; rintro e w2 ⟨⟨v2, rfl, hv2⟩, hg2⟩; obtain ⟨p2, c2, rfl, hcap2, hel2⟩ := strs_form hv2; rw [show (txts ys).length = N by rw [unhide hN]; unfold txts; rw [List.length_map]])
    have hel' := hide hel2
    have hgw2 := hide (Gr.trans hg1 hg2)
    clear hmv hv2 hg1 hg2 hel2 hcap2
    go_upto_region 8 with fail
    go_wp2_with fail
    go_loopg [7, 8, 9, 10, 11, 12, 13] N (fun gk v i _ _ _ _ _ wr => ∃ k : Nat, k + gk = N ∧ i = .int .i64 (k : Int) ∧ Strs w2.heap.size v ((ys.take k).map val) wr ∧ Gr w2 wr)
    case atStart => exact ⟨0, by omega, rfl, ⟨rfl, .inl ⟨rfl, rfl⟩⟩, Gr.refl _⟩
    case round =>
      obtain ⟨k, k1, rfl, hst, hgr⟩ := hrel
      by_cases hlt : k < N
      · have hky : k < ys.length := by rw [← unhide hN]; exact hlt
        obtain ⟨b2, e2, y0⟩ := unhide hel' k (by unfold txts; rw [List.length_map]; exact hky)
        unfold txts at y0
        rw [List.getElem_map] at y0
        have y0 := (Below.cell hgr (World.block_lt_of_cell? _ _ y0)).trans y0
        subst e2
        have hmem : ys[k] ∈ ys := List.getElem_mem _
        have htk : Hid ((ys.take (k + 1)).map val = (ys.take k).map val ++ [val ys[k]]) := hide (by rw [List.take_succ_eq_append_getElem hky, List.map_append]; rfl)
        have hnok := hide (unhide hno' k hky)
        have hA := hide (unhide hsh' _ hmem)
        have hB := hide (unhide hlo' _ hmem)
        have hD := hide (unhide hne' _ hmem)
        generalize ys[k] = y at y0 htk hnok hA hB hD
        generalize str (txt y) = X at y0 hA hB
        generalize val y = V at htk hnok hA hB hD
        have hll : Hid (((ys.take k).map val).length = k) := hide (by rw [List.length_map, List.length_take]; omega)
        have hky : Hid (k < ys.length) := hide hky
        generalize (ys.take k).map val = T at htk hnok hll hst
        have f1 := neq_run X
        have f2 : V.toList.isEmpty = false := by
          rw [Lib.toList_data]
          cases hl : V.data.toList with
          | nil => exact absurd (bytes_inj (b := ⟨#[]⟩) hl) (unhide hD)
          | cons a l => rfl
        have k0 : (0 : Int) ≤ (k : Int) := by omega
        have kl : (k : Int) < (N : Int) := by omega
        have hst' := hide hst
        have hgr' := hide hgr
        have hwg := hide (Gr.trans (unhide hgw2) hgr)
        clear hst hgr hmem hsh' hlo' hne' hno' hel' hN hD
        go_upto_region 12 with (go_at_call 14; refine (unhide hA _ (unhide hwg)).mono ?_; rintro e w5 ⟨rfl, hg5⟩)
        have y0 := (Below.cell hg5 (World.block_lt_of_cell? _ _ y0)).trans y0
        have hst5 := hide (owns_gr (unhide hst') hg5)
        have hgr5 := hide (Gr.trans (unhide hgr') hg5)
        have hwg5 := hide (Gr.trans (unhide hwg) hg5)
        clear hA hst' hgr' hwg hg5
        go_upto_region 13 with (go_at_call 16; refine (unhide hB _ (unhide hwg5)).mono ?_; rintro e w6 ⟨rfl, hg6⟩)
        have y0 := (Below.cell hg6 (World.block_lt_of_cell? _ _ y0)).trans y0
        have hst6 := hide (owns_gr (unhide hst5) hg6)
        have hgr6 := hide (Gr.trans (unhide hgr5) hg6)
        clear hB hst5 hgr5 hwg5 hg6
        obtain ⟨p7, c7, hv7, hcap7, hel7⟩ := strs_form (unhide hst6)
        subst hv7
        have hhk := hide (hasK_any T (by have := unhide hll; omega) p7 c7 V w6 hel7)
        rw [unhide hnok] at hhk
        go_upto_region 14 with (go_at_call 17; refine (unhide hhk).mono ?_; rintro e w7 ⟨rfl, rfl⟩)
        have hs6 := Below.size (unhide hgr6)
        go_upto_region 16 with fail
        go_wp2_with (at_builtin; refine wpList_append_own _ rfl (.tmp 76) (.tmp 78) 43 rfl w2.heap.size 9 i0 (.string ⟨#[]⟩) 1 16 Tryz.underlying43 (unhide hi') hz0 hz1 hz2 rfl (by decide) (.slice p7 T.length c7) T.length (T.map Value.string) rfl ((unhide hst6).alloc _) ⟨_, 0, none⟩ 1 1 [.string V] rfl rfl (cell_one_new _ _ _) (by simp [Value.oneCell']) (by have := unhide hll; unfold maxLen; omega) (by have := unhide hll; omega) (by simp; omega) ?_; intro v' w8 hown' hgrow hnil)
        go_roundg (gk - 1)
        case measure => omega
        case rel =>
          refine ⟨k + 1, by omega, by go_num, ?_, ?_⟩
          · unfold Strs
            rw [unhide htk, List.map_append, List.length_append]
            exact hown'
          · exact ((unhide hgr6).alloc _ _).grown hgrow (by simp; omega) (strs_block (unhide hst6))
      · have hge := hide (Gr.trans (unhide hgw2) hgr)
        clear hst hgr hsh' hlo' hne' hno' hel' hN
        go_wp2_with fail
        go_ret
        exact ⟨rfl, unhide hge⟩
  · have hmv : Hid (∀ W, Gr w W → Calls Tryz.prog 15 #[.string s, .int .i64 2] W fun e w' => e = .returned (.tuple #[.slice none 0 0, .int .i64 k]) ∧ Gr W w') := hide fun W gW => (rookMoves_any s hs 2 (fun q a b => pos_let a b) m W (hc.gr gW) (htb.gr gW)).mono fun e w' q => ⟨moves_no hbad q.1, q.2⟩
    have k2 : (k != 0) = true := by rw [bne_iff_ne]; exact hk
    clear hc htb hs hbad hk
    go_enter Tryz.func5, Tryz.ntmps5
    generalize hF : (⟨#[114, 110, 98, 113, 107, 98, 110, 114, 47, 112, 112, 112, 112, 112, 112, 112, 112, 47, 56, 47, 56, 47, 56, 47, 56, 47, 80, 80, 80, 80, 80, 80, 80, 80, 47, 82, 78, 66, 81, 75, 66, 78, 82, 32, 119, 32, 75, 81, 107, 113, 32, 45, 32, 48, 32, 49]⟩ : ByteArray) = F
    rw [show firstB = F from hF] at hS0
    clear hF
    go_upto_region 2 with (go_at_call 14; refine (unhide hS0).mono ?_; rintro e w1 ⟨rfl, hg1⟩)
    clear hS0
    go_upto_region 4 with fail
    go_upto_region 5 with (go_at_call 15; refine (unhide hmv _ hg1).mono ?_; rintro e w2 ⟨rfl, hg2⟩)
    have hge := hide (Gr.trans hg1 hg2)
    clear hmv hg1 hg2
    go_wp2_with fail
    go_ret
    exact ⟨rfl, unhide hge⟩

end Go.Proofs.YtnfakamfmkhlbabGreatDoor.C
