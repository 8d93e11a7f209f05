import Derived.Test.YtnfakamfmkhlbaaGreatDoorZh1
namespace Go.Proofs.YtnfakamfmkhlbaaGreatDoor.C
open Go.ChangeShapes Go.WideShapes Go.ChangeAt Go.RowKit Go.Shelf
open Go.Proofs.YtnfakamfmkhlbaaGreatDoor.P
attribute [local go_sem] qb qd Oper.semAt_some
theorem txt_small (x : Mv) : (str (txt x)).size < 4294967281 := by
  have h : (txt x).length ≤ 5 := by
    unfold txt mvS
    rw [List.length_append, List.length_append]
    have : ∀ n, (nameS n).length = 2 := fun n => by unfold nameS; rfl
    rw [this, this]
    split <;> simp
  show (txt x).toArray.size < _
  rw [List.size_toArray]
  omega
theorem first_400 {e : Ending} (h : PrfEnd firstB 2 1 e) : e = .returned (.tuple #[.int .u64 400, .int .i64 0]) := by
  obtain ⟨p, hr, hc, _⟩ := start_is
  have h4 := start_400
  rw [hr] at h4
  have h5 : pathsN 2 (posZ p) p.white (fcN p.castle) p.behind = 400 := Option.some.inj h4
  have := prf_is (m := 2) hr hc (by decide) (.inl rfl) h
  rw [h5] at this
  exact this
set_option linter.unusedSimpArgs false in
set_option maxRecDepth 100000 in
set_option maxHeartbeats 4000000 in
theorem counted_any (s o : ByteArray) (hs : s.size < 4294967281) (ho : o.size < 4294967281) (dep sl : Int) (m : Int) (w : World) (hc : Ct m w) (htb : Tabs w) (hpw : Tab w) :
    Calls Tryz.prog 11 #[.string s, .string o, .int .i64 dep, .int .i64 sl] w fun e w' => e = .returned (.bool true) ∧ Gr w w' := by
  obtain ⟨n, hn, hsl⟩ : ∃ n : Nat, n ≤ 4096 ∧ bits .and .i64 sl 4095 = (n : Int) := ⟨(sl % 4096).toNat, by omega, by rw [i64_and4095]; omega⟩
  obtain ⟨x, hx2, hdep⟩ : ∃ x : Nat, x < 2 ∧ bits .and .i64 dep 1 = (x : Int) := ⟨(dep % 2).toNat, by omega, by rw [i64_and1]; omega⟩
  obtain ⟨DD, hDD⟩ : ∃ D : Int, Hid (D = ((x + 1 : Nat) : Int)) := ⟨_, hide rfl⟩
  have e13 : IntKind.i64.wrap (1 + (x : Int)) = DD := by rw [qa hDD, IntKind.wrap_i64]; omega
  have ed1 : IntKind.i64.wrap (DD - 1) = (x : Int) := by rw [qa hDD, IntKind.wrap_i64]; omega
  have hwt := tabs_wt hc htb
  have hnew := hide (newC_any n hn w hwt)
  have hprf : Hid (∀ bc g, w.heap.size ≤ bc → w.heap.size ≤ g → ∀ t : ByteArray, t.size < 4294967281 → ∀ (D wn : Int) W, CacI bc g n W → Gr w W → Calls Tryz.prog 34 #[.pointer (some ⟨bc, 0, none⟩), .string t, .int .i64 D, .int .i64 wn] W fun e w' => PrfEnd t D wn e ∧ Fx g W w' ∧ CacI bc g n w' ∧ Gr w w') := hide fun bc g h1 h2 t ht D wn W hC hg => (perft_any bc g n t ht D wn m W (hc.gr hg) (htb.gr hg) hC (hwt.lt h1)).mono fun e w' k => ⟨k.1, k.2.1, k.2.2, (Fx.trans (Fx.of hg) k.2.1).gr h2⟩
  have hfst : Hid (∀ bc g, w.heap.size ≤ bc → w.heap.size ≤ g → ∀ W, CacI bc g n W → Gr w W → Calls Tryz.prog 34 #[.pointer (some ⟨bc, 0, none⟩), .string firstB, .int .i64 2, .int .i64 1] W fun e w' => e = .returned (.tuple #[.int .u64 400, .int .i64 0]) ∧ CacI bc g n w' ∧ Gr w w') := hide fun bc g h1 h2 W hC hg => (qa hprf bc g h1 h2 firstB (by decide +kernel) 2 1 W hC hg).mono fun e w' k => ⟨first_400 k.1, k.2.2⟩
  have hoth : Hid (∀ bc g, w.heap.size ≤ bc → w.heap.size ≤ g → ∀ W, CacI bc g n W → Gr w W → Calls Tryz.prog 34 #[.pointer (some ⟨bc, 0, none⟩), .string o, .int .i64 DD, .int .i64 2] W fun e w' => (∃ v, e = .returned v) ∧ CacI bc g n w' ∧ Gr w w') := hide fun bc g h1 h2 W hC hg => (qa hprf bc g h1 h2 o ho DD 2 W hC hg).mono fun e w' k => ⟨prf_ret k.1, k.2.2⟩
  have hdiv : Hid (∀ W, Gr w W → Calls Tryz.prog 35 #[.string s, .int .i64 DD, .int .i64 2] W fun e w' => DivEnd s DD 2 W.heap.size e w' ∧ Gr W w') := hide fun W g => rookDivide_any s hs DD 2 m W (hc.gr g) (htb.gr g)
  have hmov : Hid (∀ W, Gr w W → Calls Tryz.prog 20 #[.string s, .int .i64 1] W fun e w' => MovesEnd s 1 W.heap.size e w' ∧ Gr W w') := hide fun W g => rookMoves_any s hs 1 (fun q a b => pos_let a b) m W (hc.gr g) (htb.gr g)
  have hply : Hid (∀ t : ByteArray, t.size < 4294967281 → ∀ W, Gr w W → Calls Tryz.prog 24 #[.string s, .string t] W fun e w' => PlayEnd s t e ∧ Gr W w') := hide fun t ht W g => rookPlay_any s t hs ht m W (hc.gr g) (htb.gr g) (hpw.gr g)
  clear hc htb hpw hwt ho
  rcases xo s with ⟨p, hr, hcan, _⟩ | ⟨k, hk, hbad, _⟩
  · have hend : Hid (∀ bc g, w.heap.size ≤ bc → w.heap.size ≤ g → ∀ wn, (wn = 1 ∨ wn = 2) → ∀ W, CacI bc g n W → Gr w W → Calls Tryz.prog 34 #[.pointer (some ⟨bc, 0, none⟩), .string s, .int .i64 DD, .int .i64 wn] W fun e w' => e = .returned (.tuple #[.int .u64 ((pathsN (x + 1) (posZ p) p.white (fcN p.castle) p.behind : Nat) : Int), .int .i64 0]) ∧ CacI bc g n w' ∧ Gr w w') := hide fun bc g h1 h2 wn hn W hC hg => (qa hprf bc g h1 h2 s hs DD wn W hC hg).mono fun e w' k => ⟨prf_is hr hcan (by omega) hn (by rw [← qa hDD]; exact k.1), k.2.2⟩
    have hdv : Hid (∀ W, Gr w W → Calls Tryz.prog 35 #[.string s, .int .i64 DD, .int .i64 2] W fun e w' => (∃ v, e = .returned (.tuple #[v, .int .i64 0]) ∧ Cts W.heap.size v (divL x (posZ p) p.white (fcN p.castle) p.behind (sortM (movS (posZ p) p.white (fcN p.castle) p.behind))) w') ∧ Gr W w') := hide fun W g => (qa hdiv W g).mono fun e w' k => ⟨div_is hr hcan (by omega) (.inr rfl) (by rw [← qa hDD]; exact k.1), k.2⟩
    have hmv : Hid (∀ W, Gr w W → Calls Tryz.prog 20 #[.string s, .int .i64 1] W fun e w' => (∃ v, e = .returned (.tuple #[v, .int .i64 0]) ∧ Strs W.heap.size v (txts (sortM (movS (posZ p) p.white (fcN p.castle) p.behind))) w') ∧ Gr W w') := hide fun W g => (qa hmov W g).mono fun e w' k => ⟨mov_is hr hcan k.1, k.2⟩
    have hstep : Hid (∀ y, y ∈ sortM (movS (posZ p) p.white (fcN p.castle) p.behind) → ∃ TX : ByteArray, (∀ W, Gr w W → Calls Tryz.prog 24 #[.string s, .string (str (txt y))] W fun e w' => e = .returned (.tuple #[.string TX, .int .i64 0]) ∧ Gr W w') ∧ ∀ bc g, w.heap.size ≤ bc → w.heap.size ≤ g → ∀ W, CacI bc g n W → Gr w W → Calls Tryz.prog 34 #[.pointer (some ⟨bc, 0, none⟩), .string TX, .int .i64 (x : Int), .int .i64 1] W fun e w' => e = .returned (.tuple #[.int .u64 ((behN x (posZ p) p.white (fcN p.castle) p.behind y : Nat) : Int), .int .i64 0]) ∧ Fx g W w' ∧ CacI bc g n w' ∧ Gr w w') := hide fun y hy => by
      have hy' := (xn _).mem_iff.1 hy
      obtain ⟨hsz, p', hr', hc', hpp⟩ := aft_read hr hcan hy'
      refine ⟨⟨(afW p y).toArray⟩, fun W g => (qa hply _ (txt_small y) W g).mono fun e w' k => ⟨ply_is hr hcan hy' k.1, k.2⟩, fun bc g h1 h2 W hC hg => (qa hprf bc g h1 h2 _ hsz (x : Int) 1 W hC hg).mono fun e w' k => ⟨?_, k.2⟩⟩
      have := prf_is hr' hc' (by omega) (.inl rfl) k.1
      rw [hpp x] at this
      exact this
    have htot : Hid (((sortM (movS (posZ p) p.white (fcN p.castle) p.behind)).map (behN x (posZ p) p.white (fcN p.castle) p.behind)).sum = pathsN (x + 1) (posZ p) p.white (fcN p.castle) p.behind) := hide (qj9 (xn _) x)
    have htl : pathsN (x + 1) (posZ p) p.white (fcN p.castle) p.behind ≤ 1000000000000000000 := paths_lt (by omega) _ _ _ _
    have hlen : (sortM (movS (posZ p) p.white (fcN p.castle) p.behind)).length ≤ 1000000 := by rw [jn]; exact zw _ _ _ _
    have hdl : Hid (∀ l, divL x (posZ p) p.white (fcN p.castle) p.behind l = l.map fun y => (str (txt y), behN x (posZ p) p.white (fcN p.castle) p.behind y)) := hide fun _ => rfl
    rw [qa hdl] at hdv
    generalize pathsN (x + 1) (posZ p) p.white (fcN p.castle) p.behind = R at hend htot htl
    generalize behN x (posZ p) p.white (fcN p.castle) p.behind = val at hdv hstep htot
    generalize sortM (movS (posZ p) p.white (fcN p.castle) p.behind) = ys at hdv hmv hstep htot hlen
    clear hdl hr hcan hdiv hmov hply hs hDD hprf
    go_enter Tryz.func11, Tryz.ntmps11
    generalize hF : (⟨#[114, 110, 98, 113, 107, 98, 110, 114, 47, 112, 112, 112, 112, 112, 112, 112, 112, 47, 56, 47, 56, 47, 56, 47, 56, 47, 80, 80, 80, 80, 80, 80, 80, 80, 47, 82, 78, 66, 81, 75, 66, 78, 82, 32, 119, 32, 75, 81, 107, 113, 32, 45, 32, 48, 32, 49]⟩ : ByteArray) = F
    rw [show firstB = F from hF] at hfst
    clear hF
    go_upto_region 4 with (go_at_call 33; refine (qa hnew).mono ?_; rintro e w1 ⟨⟨bc, g, rfl, hC1, hb1, hb2⟩, hg1⟩)
    go_upto_region 7 with (go_at_call 34; refine (qa hfst bc g hb1 hb2 _ hC1 hg1).mono ?_; rintro e w2 ⟨rfl, hC2, hg2⟩)
    clear hnew hfst hC1 hg1
    go_upto_region 9 with (go_at_call 34; refine (qa hoth bc g hb1 hb2 _ hC2 hg2).mono ?_; rintro e w3 ⟨⟨v3, rfl⟩, hC3, hg3⟩)
    clear hoth hC2 hg2
    go_upto_region 10 with (go_at_call 34; refine (qa hend bc g hb1 hb2 1 (.inl rfl) _ hC3 hg3).mono ?_; rintro e w4 ⟨rfl, hC4, hg4⟩)
    clear hC3 hg3
    go_upto_region 11 with (go_at_call 34; refine (qa hend bc g hb1 hb2 2 (.inr rfl) _ hC4 hg4).mono ?_; rintro e w5 ⟨rfl, hC5, hg5⟩)
    clear hC4 hg4 hend
    have hgl5 : g < w5.heap.size := by
      obtain ⟨S, fr, e⟩ := (memA g n hn).ob _ hC5.m
      exact qz4 e
    obtain ⟨N, hN⟩ : ∃ N, Hid (N = ys.length) := ⟨_, hide rfl⟩
    go_upto_region 12 with (go_at_call 35; refine (qa hdv _ hg5).mono ?_; rintro e w6 ⟨⟨v6, rfl, hv6⟩, hg6⟩; obtain ⟨p1, c1, rfl, hcap1, hel1⟩ := cts_form hv6; rw [List.length_map, ← qa hN])
    have hC6 := hC5.gr hg6
    have hgw6 := Gr.trans hg5 hg6
    have hbs1 : ∀ b, p1 = some ⟨b, 0, none⟩ → b ≠ g := fun b e => by
      have := own_base hv6 b _ c1 (by rw [e])
      omega
    have hl6 : ∀ i (hi : i < (ys.map fun y => (str (txt y), val y)).length), ∃ b, p1 = some ⟨b, 0, none⟩ ∧ b ≠ g ∧ w6.cell? ⟨b, i * 2, none⟩ = some (.string ((ys.map fun y => (str (txt y), val y))[i]).1) ∧ w6.cell? ⟨b, i * 2 + 1, none⟩ = some (.int .u64 (((ys.map fun y => (str (txt y), val y))[i]).2 : Int)) := fun i hi => by
      obtain ⟨b, e, a1, a2⟩ := hel1 i hi
      exact ⟨b, e, hbs1 b e, a1, a2⟩
    have hl6' := hide hl6
    have hgl6 : g < w6.heap.size := Nat.lt_of_lt_of_le hgl5 (Below.size hg6)
    clear hC5 hg5 hg6 hdv hv6 hel1 hcap1 hbs1 hl6 hgl5
    go_upto_region 16 with fail
    go_upto_region 17 with (go_at_call 20; refine (qa hmv _ hgw6).mono ?_; rintro e w7 ⟨⟨v7, rfl, hv7⟩, hg7⟩; obtain ⟨p2, c2, rfl, hcap2, hel2⟩ := strs_form hv7; rw [show (txts ys).length = N by rw [qa hN]; unfold txts; rw [List.length_map]])
    have hC7 := hC6.gr hg7
    have hgw7 := Gr.trans hgw6 hg7
    have hbs2 : ∀ b, p2 = some ⟨b, 0, none⟩ → b ≠ g := fun b e => by
      have := own_base hv7 b _ c2 (by rw [e])
      omega
    have hCl : Cl g p1 p2 (ys.map fun y => (str (txt y), val y)) (txts ys) w7 := ⟨fun i hi => by
      obtain ⟨b, e, hb, a1, a2⟩ := qa hl6' i hi
      exact ⟨b, e, hb, (Below.cell hg7 (World.block_lt_of_cell? _ _ a1)).trans a1, (Below.cell hg7 (World.block_lt_of_cell? _ _ a2)).trans a2⟩, fun i hi => by
      obtain ⟨b, e, a1⟩ := hel2 i hi
      exact ⟨b, e, hbs2 b e, a1⟩⟩
    clear hC6 hgw6 hg7 hmv hv7 hel2 hcap2 hbs2 hl6' hgl6
    have hCl' := hide hCl
    have hC7' := hide hC7
    have hgw7' := hide hgw7
    clear hCl hC7 hgw7
    go_upto_region 20 with fail
    go_wp2_with fail
    go_loopg [22, 23, 24, 25, 26, 27] N (fun gk sm i _ _ _ _ wr => ∃ k : Nat, k + gk = N ∧ i = .int .i64 (k : Int) ∧ sm = .int .u64 ((((ys.take k).map val).sum : Nat) : Int) ∧ Cl g p1 p2 (ys.map fun y => (str (txt y), val y)) (txts ys) wr ∧ CacI bc g n wr ∧ Gr w wr)
    case atStart => exact ⟨0, by omega, rfl, rfl, qa hCl', qa hC7', qa hgw7'⟩
    case round =>
      clear hCl' hC7' hgw7'
      obtain ⟨k, k1, rfl, rfl, hCk, hCk2, hgk⟩ := hrel
      by_cases hlt : k < N
      · have hky : k < ys.length := by rw [← qa hN]; exact hlt
        obtain ⟨b1, e1, hb1g, x0, x1⟩ := hCk.a k (by rw [List.length_map]; exact hky)
        obtain ⟨b2, e2, hb2g, y0⟩ := hCk.b k (by unfold txts; rw [List.length_map]; exact hky)
        have hmem : ys[k] ∈ ys := List.getElem_mem _
        have htk : ys.take (k + 1) = ys.take k ++ [ys[k]] := List.take_succ_eq_append_getElem hky
        have hpre : ys.take k ++ [ys[k]] <+: ys := by rw [← htk]; exact List.take_prefix _ _
        have hsb := sum_pre (f := val) hpre
        have hst : Hid (((ys.take (k + 1)).map val).sum = ((ys.take k).map val).sum + val ys[k]) := hide (by rw [htk, List.map_append, List.sum_append, List.map_cons, List.map_nil, List.sum_cons, List.sum_nil, Nat.add_zero])
        rw [qa htot] at hsb
        rw [List.getElem_map] at x0 x1
        unfold txts at y0
        rw [List.getElem_map] at y0
        subst e1 e2
        clear htk hpre
        generalize ys[k] = y at x0 x1 y0 hmem hsb hst
        obtain ⟨TX, hP, hQ⟩ := qa hstep y hmem
        have hP' := hide hP
        have hQ' := hide (hQ bc g hb1 hb2)
        generalize str (txt y) = X at x0 y0 hP'
        generalize val y = xv at x1 hsb hst hQ'
        generalize ((ys.take k).map val).sum = sv at hsb hst ⊢
        have hwr : IntKind.u64.wrap ((sv : Int) + (xv : Int)) = ((sv + xv : Nat) : Int) := by rw [IntKind.wrap_u64]; omega
        have f1 := neq_run X
        have k0 : (0 : Int) ≤ (k : Int) := by omega
        have kl : (k : Int) < (N : Int) := by omega
        have hCk' := hide hCk
        have hCk2' := hide hCk2
        have hgk' := hide hgk
        clear hP hQ hmem hstep htot hCk hCk2 hgk hN
        go_upto_region 24 with (go_at_call 24; refine (qa hP' _ (qa hgk')).mono ?_; rintro e w8 ⟨rfl, hg8⟩)
        have hg8w := Gr.trans (qa hgk') hg8
        have hC8 := (qa hCk2').gr hg8
        have hCl8 := (qa hCk').fx (Fx.of hg8)
        have z0 := (Below.cell hg8 (World.block_lt_of_cell? _ _ x0)).trans x0
        have z1 := (Below.cell hg8 (World.block_lt_of_cell? _ _ x1)).trans x1
        have z2 := (Below.cell hg8 (World.block_lt_of_cell? _ _ y0)).trans y0
        clear hg8 hP' x0 x1 y0
        go_upto_region 25 with (go_at_call 34; refine (qa hQ' _ hC8 hg8w).mono ?_; rintro e w9 ⟨rfl, hf9, hC9, hg9⟩)
        have hCl9 := hide (hCl8.fx hf9)
        have z0 := Fr.cell hf9 z0 (fun _ _ => hb1g)
        have z1 := Fr.cell hf9 z1 (fun _ _ => hb1g)
        have z2 := Fr.cell hf9 z2 (fun _ _ => hb2g)
        have hC9' := hide hC9
        have hg9' := hide hg9
        clear hC8 hg8w hCl8 hf9 hQ' hC9 hg9
        go_quiet (fail)
        have hgq : Hid (Gr w9 (w9.drewN nq)) := hide ((Gr.refl w9).drewN _)
        all_goals
          go_wp2_with fail
          go_roundg (gk - 1)
          case measure => omega
          case rel => exact ⟨k + 1, by omega, by go_num, by rw [qa hst, Int.natCast_add], (qa hCl9).fx (Fx.of (qa hgq)), (qa hC9').gr (qa hgq), Gr.trans (qa hg9') (qa hgq)⟩
      · have ek : k = N := by omega
        have hsum : ((ys.take k).map val).sum = R := by rw [ek, qa hN, List.take_length]; exact qa htot
        rw [hsum]
        have hgk' := hide hgk
        clear hsum hstep htot hCk hCk2 hgk hN
        go_wp2_with fail
        go_ret
        exact ⟨rfl, qa hgk'⟩
  · have hend : Hid (∀ bc g, w.heap.size ≤ bc → w.heap.size ≤ g → ∀ wn, (wn = 1 ∨ wn = 2) → ∀ W, CacI bc g n W → Gr w W → Calls Tryz.prog 34 #[.pointer (some ⟨bc, 0, none⟩), .string s, .int .i64 DD, .int .i64 wn] W fun e w' => e = .returned (.tuple #[.int .u64 0, .int .i64 k]) ∧ CacI bc g n w' ∧ Gr w w') := hide fun bc g h1 h2 wn hn W hC hg => (qa hprf bc g h1 h2 s hs DD wn W hC hg).mono fun e w' q => ⟨prf_bad hbad (by rw [qa hDD]; omega) hn q.1, q.2.2⟩
    have hdv : Hid (∀ W, Gr w W → Calls Tryz.prog 35 #[.string s, .int .i64 DD, .int .i64 2] W fun e w' => e = .returned (.tuple #[.slice none 0 0, .int .i64 k]) ∧ Gr W w') := hide fun W g => (qa hdiv W g).mono fun e w' q => ⟨div_bad hbad q.1 (by rw [qa hDD]; omega) (.inr rfl), q.2⟩
    have k2 : (k != 0) = true := by rw [bne_iff_ne]; exact hk
    clear hdiv hmov hply hs hDD hprf hbad hk
    go_enter Tryz.func11, Tryz.ntmps11
    generalize hF : (⟨#[114, 110, 98, 113, 107, 98, 110, 114, 47, 112, 112, 112, 112, 112, 112, 112, 112, 47, 56, 47, 56, 47, 56, 47, 56, 47, 80, 80, 80, 80, 80, 80, 80, 80, 47, 82, 78, 66, 81, 75, 66, 78, 82, 32, 119, 32, 75, 81, 107, 113, 32, 45, 32, 48, 32, 49]⟩ : ByteArray) = F
    rw [show firstB = F from hF] at hfst
    clear hF
    go_upto_region 4 with (go_at_call 33; refine (qa hnew).mono ?_; rintro e w1 ⟨⟨bc, g, rfl, hC1, hb1, hb2⟩, hg1⟩)
    go_upto_region 7 with (go_at_call 34; refine (qa hfst bc g hb1 hb2 _ hC1 hg1).mono ?_; rintro e w2 ⟨rfl, hC2, hg2⟩)
    clear hnew hfst hC1 hg1
    go_upto_region 9 with (go_at_call 34; refine (qa hoth bc g hb1 hb2 _ hC2 hg2).mono ?_; rintro e w3 ⟨⟨v3, rfl⟩, hC3, hg3⟩)
    clear hoth hC2 hg2
    go_upto_region 10 with (go_at_call 34; refine (qa hend bc g hb1 hb2 1 (.inl rfl) _ hC3 hg3).mono ?_; rintro e w4 ⟨rfl, hC4, hg4⟩)
    clear hC3 hg3
    go_upto_region 11 with (go_at_call 34; refine (qa hend bc g hb1 hb2 2 (.inr rfl) _ hC4 hg4).mono ?_; rintro e w5 ⟨rfl, hC5, hg5⟩)
    clear hC4 hg4 hend
    go_upto_region 12 with (go_at_call 35; refine (qa hdv _ hg5).mono ?_; rintro e w6 ⟨rfl, hg6⟩)
    have hgf := hide (Gr.trans hg5 hg6)
    clear hg5 hg6 hdv hC5
    go_wp2_with fail
    go_ret
    exact ⟨rfl, qa hgf⟩
end Go.Proofs.YtnfakamfmkhlbaaGreatDoor.C
