import Derived.Test.YtnfakamfmkhlbabGreatDoorKb4
namespace Go.Proofs.YtnfakamfmkhlbabGreatDoor.C
open Go.ChangeShapes Go.WideShapes Go.ChangeAt Go.RowKit Go.Shelf
open Go.Proofs.YtnfakamfmkhlbabGreatDoor.P
attribute [local go_sem] setCell_drewN alloc_drewN Oper.semAt_some

/-! rookkeep.Known, over what its calls answer -/
def pkN (c : Int) (n : Nat) : Nat := (if c < 0 then -(c + 1) else c).toNat % n
theorem pickK_any (c : Int) (hc1 : -9223372036854775808 ≤ c) (hc2 : c ≤ 9223372036854775807) (n : Nat) (hn : 0 < n) (w : World) : Calls Tryz.prog 8 #[.int .i64 c, .int .i64 (n : Int)] w fun e w' => e = .returned (.int .i64 ((pkN c n : Nat) : Int)) ∧ w' = w := by
  have hnz : ((n : Int) == 0) = false := by rw [beq_eq_false_iff_ne]; omega
  have hnz2 : ¬ ((n : Int) = 0) := by omega
  have hnz3 : ¬ (n = 0) := by omega
  obtain ⟨j, hj⟩ : ∃ j, Hid (j = pkN c n) := ⟨_, hide rfl⟩
  rw [← unhide hj]
  by_cases h : c < 0
  · have e1 : IntKind.i64.wrap (c + 1) = c + 1 := by rw [IntKind.wrap_i64]; omega
    have e2 : IntKind.i64.wrap (-(c + 1)) = -(c + 1) := by rw [IntKind.wrap_i64]; omega
    obtain ⟨m, hm⟩ : ∃ m : Nat, -(c + 1) = (m : Int) := ⟨(-(c + 1)).toNat, by omega⟩
    have hjm : j = m % n := by rw [unhide hj, pkN, if_pos h, hm]; rfl
    rw [hm] at e2
    have e3 : (m : Int).tmod (n : Int) = (j : Int) := by rw [hjm, Int.tmod_eq_emod_of_nonneg (by omega)]; omega
    have e4 : IntKind.i64.wrap (j : Int) = (j : Int) := by
      have : m % n ≤ m := Nat.mod_le _ _
      rw [IntKind.wrap_i64, hjm]; omega
    clear hjm hj
    go_enter Tryz.func8, Tryz.ntmps8
    go_wp2_with fail
    go_ret
    exact ⟨rfl, rfl⟩
  · obtain ⟨m, rfl⟩ := Int.eq_ofNat_of_zero_le (show 0 ≤ c by omega)
    have hjm : j = m % n := by rw [unhide hj, pkN, if_neg h]; rfl
    have e3 : (m : Int).tmod (n : Int) = (j : Int) := by rw [hjm, Int.tmod_eq_emod_of_nonneg (by omega)]; omega
    have e4 : IntKind.i64.wrap (j : Int) = (j : Int) := by
      have : m % n ≤ m := Nat.mod_le _ _
      rw [IntKind.wrap_i64, hjm]; omega
    clear hjm hj
    go_enter Tryz.func8, Tryz.ntmps8
    go_wp2_with fail
    go_ret
    exact ⟨rfl, rfl⟩
theorem pkN_lt (c : Int) {n : Nat} (hn : 0 < n) : pkN c n < n := Nat.mod_lt _ hn
def wantM : List Nat := [1, 20, 400, 8902, 1, 48, 2039, 97862, 1, 14, 191, 2812, 1, 6, 264, 9467, 1, 44, 1486, 62379, 1, 46, 2079, 89890]
def fenM : List ByteArray := [⟨#[114, 110, 98, 113, 107, 98, 110, 114, 47, 112, 112, 112, 112, 112, 112, 112, 112, 47, 56, 47, 56, 47, 56, 47, 56, 47, 80, 80, 80, 80, 80, 80, 80, 80, 47, 82, 78, 66, 81, 75, 66, 78, 82, 32, 119, 32, 75, 81, 107, 113, 32, 45, 32, 48, 32, 49]⟩, ⟨#[114, 51, 107, 50, 114, 47, 112, 49, 112, 112, 113, 112, 98, 49, 47, 98, 110, 50, 112, 110, 112, 49, 47, 51, 80, 78, 51, 47, 49, 112, 50, 80, 51, 47, 50, 78, 50, 81, 49, 112, 47, 80, 80, 80, 66, 66, 80, 80, 80, 47, 82, 51, 75, 50, 82, 32, 119, 32, 75, 81, 107, 113, 32, 45, 32, 48, 32, 49]⟩, ⟨#[56, 47, 50, 112, 53, 47, 51, 112, 52, 47, 75, 80, 53, 114, 47, 49, 82, 51, 112, 49, 107, 47, 56, 47, 52, 80, 49, 80, 49, 47, 56, 32, 119, 32, 45, 32, 45, 32, 48, 32, 49]⟩, ⟨#[114, 51, 107, 50, 114, 47, 80, 112, 112, 112, 49, 112, 112, 112, 47, 49, 98, 51, 110, 98, 78, 47, 110, 80, 54, 47, 66, 66, 80, 49, 80, 51, 47, 113, 52, 78, 50, 47, 80, 112, 49, 80, 50, 80, 80, 47, 82, 50, 81, 49, 82, 75, 49, 32, 119, 32, 107, 113, 32, 45, 32, 48, 32, 49]⟩, ⟨#[114, 110, 98, 113, 49, 107, 49, 114, 47, 112, 112, 49, 80, 98, 112, 112, 112, 47, 50, 112, 53, 47, 56, 47, 50, 66, 53, 47, 56, 47, 80, 80, 80, 49, 78, 110, 80, 80, 47, 82, 78, 66, 81, 75, 50, 82, 32, 119, 32, 75, 81, 32, 45, 32, 49, 32, 56]⟩, ⟨#[114, 52, 114, 107, 49, 47, 49, 112, 112, 49, 113, 112, 112, 112, 47, 112, 49, 110, 112, 49, 110, 50, 47, 50, 98, 49, 112, 49, 66, 49, 47, 50, 66, 49, 80, 49, 98, 49, 47, 80, 49, 78, 80, 49, 78, 50, 47, 49, 80, 80, 49, 81, 80, 80, 80, 47, 82, 52, 82, 75, 49, 32, 119, 32, 45, 32, 45, 32, 48, 32, 49, 48]⟩]
def fenZ : Array Value := #[.string ⟨#[]⟩, .string ⟨#[]⟩, .string ⟨#[]⟩, .string ⟨#[]⟩, .string ⟨#[]⟩, .string ⟨#[]⟩]
def wantZ : Array Value := #[.int .u64 0, .int .u64 0, .int .u64 0, .int .u64 0, .int .u64 0, .int .u64 0, .int .u64 0, .int .u64 0, .int .u64 0, .int .u64 0, .int .u64 0, .int .u64 0, .int .u64 0, .int .u64 0, .int .u64 0, .int .u64 0, .int .u64 0, .int .u64 0, .int .u64 0, .int .u64 0, .int .u64 0, .int .u64 0, .int .u64 0, .int .u64 0]
def fenA : Array Value := (fenM.map Value.string).toArray
def wantA : Array Value := (wantM.map fun (n : Nat) => Value.int .u64 (n : Int)).toArray
theorem fen_at {i : Nat} {s : ByteArray} (h : fenM[i]? = some s) : fenA[i]? = some (.string s) := by
  unfold fenA
  rw [List.getElem?_toArray, List.getElem?_map, h]; rfl
theorem want_at {j n : Nat} (h : wantM[j]? = some n) : wantA[j]? = some (.int .u64 (n : Int)) := by
  unfold wantA
  rw [List.getElem?_toArray, List.getElem?_map, h]; rfl
theorem kn_info6 : (Tryz.prog.info? 22).map (·.size) = some fenA.size := by kernel_rfl
theorem info24 : (Tryz.prog.info? 25).map (·.size) = some wantA.size := by kernel_rfl
theorem fen_ones : fenA.all (·.oneCell') = true := by kernel_rfl
theorem want_ones : wantA.all (·.oneCell') = true := by kernel_rfl
def w4 (a b c d : Int) : Array Value := #[.int .u64 a, .int .u64 b, .int .u64 c, .int .u64 d]
/-- what the calls answer: the cache (Pn w0 bc W: it lies at bc, beyond w0), the number of ways, the ways move by move. -/
structure KnC (w : World) (Pn : World → Nat → World → Prop) (s : ByteArray) (d R R1 : Nat) (X : Int) : Prop where
  new : ∀ w0, Gr w w0 → Calls Tryz.prog 9 #[.int .i64 1000] w0 fun e w' => (∃ bc, e = .returned (.tuple #[.pointer (some ⟨bc, 0, none⟩), .int .i64 0]) ∧ Pn w0 bc w') ∧ Gr w0 w'
  prf : ∀ w0 bc W, Gr w w0 → Pn w0 bc W → Gr w0 W → Calls Tryz.prog 10 #[.pointer (some ⟨bc, 0, none⟩), .string s, .int .i64 (d : Int), .int .i64 X] W fun e w' => e = .returned (.tuple #[.int .u64 (R : Int), .int .i64 0]) ∧ Gr w0 w'
  div0 : d = 0 → ∀ W, Gr w W → Calls Tryz.prog 11 #[.string s, .int .i64 (d : Int), .int .i64 X] W fun e w' => e = .returned (.tuple #[.slice none 0 0, .int .i64 5]) ∧ Gr W w'
  div : d ≠ 0 → ∀ W, Gr w W → Calls Tryz.prog 11 #[.string s, .int .i64 (d : Int), .int .i64 X] W fun e w' => (∃ (p : Option Addr) (c : Nat) (L : List (ByteArray × Nat)), e = .returned (.tuple #[.slice p R1 c, .int .i64 0]) ∧ L.length = R1 ∧ (L.map (·.2)).sum = R ∧ ∀ i (hi : i < L.length), ∃ g, p = some ⟨g, 0, none⟩ ∧ w'.cell? ⟨g, i * 2 + 1, none⟩ = some (.int .u64 (L[i].2 : Int))) ∧ Gr W w'

set_option linter.unusedSimpArgs false in
set_option maxRecDepth 100000 in
set_option maxHeartbeats 4000000 in
theorem known_walk (which depth way : Int) (w : World) (i d x : Nat) (hi : i < 6) (hd : d < 4) (hx : x < 2) (hp1 : ∀ W, Calls Tryz.prog 8 #[.int .i64 which, .int .i64 6] W fun e w' => e = .returned (.int .i64 (i : Int)) ∧ w' = W)
    (hp2 : ∀ W, Calls Tryz.prog 8 #[.int .i64 depth, .int .i64 4] W fun e w' => e = .returned (.int .i64 (d : Int)) ∧ w' = W) (hp3 : ∀ W, Calls Tryz.prog 8 #[.int .i64 way, .int .i64 2] W fun e w' => e = .returned (.int .i64 (x : Int)) ∧ w' = W)
    (s : ByteArray) (hs : fenM[i]? = some s) (R R1 : Nat) (hR : wantM[4 * i + d]? = some R) (hR1 : wantM[4 * i + 1]? = some R1) (hb : R ≤ 1000000 ∧ R1 ≤ 1000000) (Pn : World → Nat → World → Prop) (K : KnC w Pn s d R R1 (1 + (x : Int))) :
    Calls Tryz.prog 3 #[.int .i64 which, .int .i64 depth, .int .i64 way] w fun e w' => e = .returned (.bool true) ∧ Gr w w' := by
  have hK := hide K
  have hq1 := hide hp1
  have hq2 := hide hp2
  have hq3 := hide hp3
  have hF := hide (fen_at hs)
  have hW := hide (want_at hR)
  have hW1 := hide (want_at hR1)
  obtain ⟨X, hX⟩ : ∃ X : Int, Hid (X = 1 + (x : Int)) := ⟨_, hide rfl⟩
  have ex : IntKind.i64.wrap (1 + (x : Int)) = X := by rw [unhide hX, IntKind.wrap_i64]; omega
  clear K hp1 hp2 hp3 hs hR hR1 hx
  rw [← unhide hX] at hK
  go_enter Tryz.func3, Tryz.ntmps3
  go_upto_region 2 with (first
    | (refine wpList_built rfl 22 _ rfl fenA ?_ ?_; focus (first | kernel_rfl | (go_simp; kernel_rfl)))
    | (refine wpList_store_row rfl 22 _ _ rfl w.heap.size fenA rfl rfl 22 fenZ (heap_alloc_new _ _) kn_info6 rfl fen_ones ?_))
  have hw1 : ((w.alloc (.cells fenZ 22)).setRow w.heap.size fenA).heap[w.heap.size]? = some (.cells fenA 22) := setRow_heap _ _ _ _ _ _ (heap_alloc_new w _)
  have hg1 : Gr w ((w.alloc (.cells fenZ 22)).setRow w.heap.size fenA) := ((Gr.refl w).alloc fenZ 22).setRow w.heap.size (Nat.le_refl _) fenA
  show Code.wp _ _ _ _ ((w.alloc (.cells fenZ 22)).setRow w.heap.size fenA)
  generalize (w.alloc (.cells fenZ 22)).setRow w.heap.size fenA = w1 at hw1 hg1 ⊢
  generalize w.heap.size = b1 at hw1 ⊢
  have hw1' := hide hw1
  have hg1' := hide hg1
  clear hw1 hg1
  go_upto_region 3 with (first
    | (refine wpList_built rfl 25 _ rfl wantA ?_ ?_; focus (first | kernel_rfl | (go_simp; kernel_rfl)))
    | (refine wpList_store_row rfl 25 _ _ rfl w1.heap.size wantA rfl rfl 25 wantZ (heap_alloc_new _ _) info24 rfl want_ones ?_))
  have hw2 : ((w1.alloc (.cells wantZ 25)).setRow w1.heap.size wantA).heap[w1.heap.size]? = some (.cells wantA 25) := setRow_heap _ _ _ _ _ _ (heap_alloc_new w1 _)
  have hg2 : Gr w1 ((w1.alloc (.cells wantZ 25)).setRow w1.heap.size wantA) := ((Gr.refl w1).alloc wantZ 25).setRow w1.heap.size (Nat.le_refl _) wantA
  show Code.wp _ _ _ _ ((w1.alloc (.cells wantZ 25)).setRow w1.heap.size wantA)
  generalize (w1.alloc (.cells wantZ 25)).setRow w1.heap.size wantA = w2 at hw2 hg2 ⊢
  have hfe : Hid (∀ W, Gr w2 W → W.cell? ⟨b1, i, none⟩ = some (.string s)) := hide fun W g => by
    have h1 := (cell_of_row w1 b1 i fenA _ _ (unhide hw1')).trans (unhide hF)
    have h2 := (Below.cell hg2 (World.block_lt_of_cell? _ _ h1)).trans h1
    exact (Below.cell g (World.block_lt_of_cell? _ _ h2)).trans h2
  have hwa : Hid (∀ W, Gr w2 W → W.cell? ⟨w1.heap.size, i * 4 + d, none⟩ = some (.int .u64 (R : Int))) := hide fun W g => by
    have h1 := (cell_of_row w2 w1.heap.size (4 * i + d) wantA _ _ hw2).trans (unhide hW)
    rw [Nat.mul_comm 4 i] at h1
    exact (Below.cell g (World.block_lt_of_cell? _ _ h1)).trans h1
  have hwb : Hid (∀ W, Gr w2 W → W.cell? ⟨w1.heap.size, i * 4 + 1, none⟩ = some (.int .u64 (R1 : Int))) := hide fun W g => by
    have h1 := (cell_of_row w2 w1.heap.size (4 * i + 1) wantA _ _ hw2).trans (unhide hW1)
    rw [Nat.mul_comm 4 i] at h1
    exact (Below.cell g (World.block_lt_of_cell? _ _ h1)).trans h1
  have hgw : Hid (Gr w w2) := hide (Gr.trans (unhide hg1') hg2)
  generalize w1.heap.size = b2 at hwa hwb ⊢
  clear hw2 hg2 hg1' hw1' hF hW hW1
  go_upto_region 4 with (go_at_call 8; refine (unhide hq1 _).mono ?_; rintro e w' ⟨rfl, rfl⟩)
  go_upto_region 5 with (go_at_call 8; refine (unhide hq2 _).mono ?_; rintro e w' ⟨rfl, rfl⟩)
  go_upto_region 6 with (go_at_call 8; refine (unhide hq3 _).mono ?_; rintro e w' ⟨rfl, rfl⟩)
  clear hq1 hq2 hq3
  go_upto_region 7 with (go_at_call 9; refine ((unhide hK).new _ (unhide hgw)).mono ?_; rintro e w3 ⟨⟨bc, rfl, hP⟩, hg3⟩)
  have hP' := hide hP
  have hg3' := hide hg3
  clear hP hg3
  have z3 := unhide hfe _ (unhide hg3')
  go_upto_region 10 with (go_at_call 10; refine ((unhide hK).prf _ bc _ (unhide hgw) (unhide hP') (unhide hg3')).mono ?_; rintro e w4 ⟨rfl, hg4⟩)
  have hg4' := hide hg4
  clear hP' hg3' z3 hg4
  have y4 := unhide hwa _ (unhide hg4')
  go_upto_region 12 with fail
  have z4 := unhide hfe _ (unhide hg4')
  have hgw4 := hide (Gr.trans (unhide hgw) (unhide hg4'))
  by_cases hz : d = 0
  · have hdv : Hid (∀ W, Gr w W → Calls Tryz.prog 11 #[.string s, .int .i64 0, .int .i64 X] W fun e w' => e = .returned (.tuple #[.slice none 0 0, .int .i64 5]) ∧ Gr W w') := hide (by
      have h := (unhide hK).div0 hz
      rw [hz] at h
      exact h)
    have ez : (d : Int) = 0 := by omega
    clear hK hwb hwa hfe y4
    go_upto_region 13 with (go_at_call 11; refine (unhide hdv _ (unhide hgw4)).mono ?_; rintro e w5 ⟨rfl, hg5⟩)
    have hgf := hide (Gr.trans (unhide hgw4) hg5)
    clear hg5 hgw4 hdv z4 hg4' hgw
    go_wp2_with fail
    go_ret
    exact ⟨rfl, unhide hgf⟩
  · have hdv := hide ((unhide hK).div hz)
    have ez : ¬ (d : Int) = 0 := by omega
    clear hK hfe y4
    go_upto_region 13 with (go_at_call 11; refine (unhide hdv _ (unhide hgw4)).mono ?_; rintro e w5 ⟨⟨p, c, L, rfl, hL1, hL2, hL3⟩, hg5⟩)
    have hgf := hide (Gr.trans (unhide hgw4) hg5)
    have y5 := unhide hwa _ (Gr.trans (unhide hg4') hg5)
    have x5 := unhide hwb _ (Gr.trans (unhide hg4') hg5)
    have hL2' := hide hL2
    have hL3' := hide hL3
    have hL1' := hide hL1
    clear hg5 hgw4 hdv z4 hg4' hgw hwa hwb hL2 hL3 hL1
    go_upto_region 17 with fail
    go_loopg [18, 19] R1 (fun gk sm i wr => ∃ k : Nat, k + gk = R1 ∧ i = .int .i64 (k : Int) ∧ sm = .int .u64 ((((L.map (·.2)).take k).sum : Nat) : Int) ∧ Gr w5 wr)
    case atStart => exact ⟨0, by omega, rfl, rfl, Gr.refl _⟩
    case round =>
      obtain ⟨k, k1, rfl, rfl, hgk⟩ := hrel
      by_cases hlt : k < R1
      · have hkl : k < L.length := by rw [unhide hL1']; exact hlt
        obtain ⟨g, e1, x1⟩ := unhide hL3' k hkl
        have x2 := (Below.cell hgk (World.block_lt_of_cell? _ _ x1)).trans x1
        have hst : Hid (((L.map (·.2)).take (k + 1)).sum = ((L.map (·.2)).take k).sum + L[k].2) := hide (by
          rw [List.take_succ_eq_append_getElem (by rw [List.length_map]; exact hkl), List.sum_append, List.sum_cons, List.sum_nil, Nat.add_zero, List.getElem_map])
        have hsb : ((L.map (·.2)).take (k + 1)).sum ≤ R := by
          rw [← unhide hL2']
          conv => rhs; rw [← List.take_append_drop (k + 1) (L.map (·.2)), List.sum_append]
          omega
        rw [unhide hst] at hsb
        generalize L[k].2 = xv at x2 hst hsb
        generalize ((L.map (·.2)).take k).sum = sv at hst hsb ⊢
        have hwr : IntKind.u64.wrap ((sv : Int) + (xv : Int)) = ((sv + xv : Nat) : Int) := by rw [IntKind.wrap_u64]; omega
        subst e1
        have k0 : (0 : Int) ≤ (k : Int) := by omega
        have kl : (k : Int) < (R1 : Int) := by omega
        have hgk' := hide hgk
        clear x1 hgk hL1' hL2' hL3' hgf y5 x5
        go_wp2_with fail
        go_roundg (gk - 1)
        case measure => omega
        case rel => exact ⟨k + 1, by omega, by go_num, by rw [unhide hst, Int.natCast_add], unhide hgk'⟩
      · have ek : k = R1 := by omega
        have hsum : ((L.map (·.2)).take k).sum = R := by rw [ek, ← unhide hL1', ← List.length_map (f := fun x : ByteArray × Nat => x.2), List.take_length]; exact unhide hL2'
        rw [hsum]
        have y6 := (Below.cell hgk (World.block_lt_of_cell? _ _ y5)).trans y5
        have x6 := (Below.cell hgk (World.block_lt_of_cell? _ _ x5)).trans x5
        have hge := hide (Gr.trans (unhide hgf) hgk)
        have hc1 : IntKind.u64.wrap (R1 : Int) = (R1 : Int) := by rw [IntKind.wrap_u64]; omega
        clear hsum hL1' hL2' hL3' hgf y5 x5 hgk
        go_wp2_with fail
        go_ret
        exact ⟨rfl, unhide hge⟩
end Go.Proofs.YtnfakamfmkhlbabGreatDoor.C
