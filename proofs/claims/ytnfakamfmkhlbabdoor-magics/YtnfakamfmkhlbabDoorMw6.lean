import Derived.Test.YtnfakamfmkhlbabDoorMw5
namespace Go.Proofs.YtnfakamfmkhlbabDoor.C
open Go.ChangeShapes Go.WideShapes Go.ChangeAt Go.RowKit Go.Shelf
open Go.Proofs.YtnfakamfmkhlbabDoor.P
attribute [local go_sem] setCell_drewN alloc_drewN

def facN (s : BitVec 64) (m : Nat) : BitVec 64 := facB s (BitVec.ofNat 64 m)
theorem facN_is (s : BitVec 64) (m : Nat) (hm : m < 18446744073709551616) : facI (U s) (m : Int) = U (facN s m) := by
  have : (m : Int) = U (BitVec.ofNat 64 m) := by
    unfold U
    rw [BitVec.toNat_ofNat, Nat.mod_eq_of_lt (by simpa using hm)]
  unfold facN
  rw [this, fac_U]
/-- the list and the table lie there, apart. -/
structure Fm (w : World) (l : List (BitVec 64 × BitVec 64)) (g tb n : Nat) (W : World) : Prop where
  gr : Gr w W
  lst : Lst g l W
  tbl : ∃ T, Tbl tb n T W
  gl : g < W.heap.size
  tl : tb < W.heap.size
  ne : g ≠ tb
  new : w.heap.size ≤ tb
theorem Fm.next {w W W' : World} {l : List (BitVec 64 × BitVec 64)} {g tb n : Nat} (h : Fm w l g tb n W) (hF : Ft W tb W') (hT : ∃ T, Tbl tb n T W') : Fm w l g tb n W' :=
  ⟨Below.trans h.gr (hF.low _ h.new (Nat.le_of_lt (Nat.lt_of_le_of_lt h.new h.tl))), hF.lst h.lst h.gl h.ne, hT, Nat.lt_of_lt_of_le h.gl hF.size, Nat.lt_of_lt_of_le h.tl hF.size, h.ne, h.new⟩
/-- what Find answers. -/
def FindEnd (k x : Nat) (s : BitVec 64) (n : Nat) (e : Ending) : Prop :=
  (∃ m, 1 ≤ m ∧ m ≤ n ∧ fits (vws k x) (facN s m) (sqs (mtr k x)).length = true ∧ (∀ i, 1 ≤ i → i < m → fits (vws k x) (facN s i) (sqs (mtr k x)).length = false) ∧ e = .returned (.tuple #[.int .u64 (U (facN s m)), .int .i64 (m : Int)])) ∨
  ((∀ i, 1 ≤ i → i ≤ n → fits (vws k x) (facN s i) (sqs (mtr k x)).length = false) ∧ e = .returned (.tuple #[.int .u64 0, .int .i64 0]))

set_option linter.unusedSimpArgs false in
set_option maxRecDepth 100000 in
set_option maxHeartbeats 8000000 in
theorem find_any (k x : Nat) (hk : k = 4 ∨ k = 5) (hx : x < 64) (s : BitVec 64) (n : Nat) (hn : n ≤ 10000) (w : World) (ht0 : 0 < w.heap.size) (hT : BTab w) :
    Calls Tryd.prog 16 #[.int .i64 (k : Int), .int .i64 (x : Int), .int .u64 (U s), .int .i64 (n : Int)] w fun e w' => FindEnd k x s n e ∧ Gr w w' := by
  obtain ⟨hb1, hb2⟩ := bits_le k x hk hx
  have hmt := hide (matter_any k x hk hx w ht0 hT)
  have hct : Hid (∀ W : World, Gr w W → Calls Tryd.prog 25 #[.func (.func 41) #[] #[.pointer (some ⟨W.heap.size, 0, none⟩)]] (W.alloc (.cells #[.int .u64 (U (mtr k x))] 46)) fun e w' => e = .returned (.int .i64 (sqs (mtr k x)).length) ∧ Gr (W.alloc (.cells #[.int .u64 (U (mtr k x))] 46)) w') := hide (fun W h => by
    have hs := Below.size h
    exact count_any (mtr k x) W.heap.size _ (by rw [World.size_alloc]; omega) (by rw [World.size_alloc]; omega) (cell_new_l W _ _).1 (hT.gr (Gr.trans h ((Gr.refl W).alloc _ _))))
  have hfe : Hid (∀ e, FindEnd k x s n e ↔ FindEnd k x s n e) := hide (fun _ => Iff.rfl)
  clear hfe
  have hend : Hid (∀ b, (sqs (mtr k x)).length = b → ∀ e, ((∃ m, 1 ≤ m ∧ m ≤ n ∧ fits (vws k x) (facN s m) b = true ∧ (∀ i, 1 ≤ i → i < m → fits (vws k x) (facN s i) b = false) ∧ e = .returned (.tuple #[.int .u64 (U (facN s m)), .int .i64 (m : Int)])) ∨ ((∀ i, 1 ≤ i → i ≤ n → fits (vws k x) (facN s i) b = false) ∧ e = .returned (.tuple #[.int .u64 0, .int .i64 0]))) → FindEnd k x s n e) := hide (fun b hb e h => by subst hb; exact h)
  go_enter Tryd.func16, Tryd.ntmps16
  go_upto_region 2 with (first
    | (go_at_call 26; refine (unhide hmt).mono ?_; rintro e w2 ⟨rfl, hg2⟩)
    | (go_at_call 27; refine (squares_any _ _).mono ?_; rintro e w' ⟨rfl, rfl⟩)
    | (go_at_call 25; refine (unhide hct _ hg2).mono ?_; rintro e w4 ⟨rfl, hg4⟩))
  have hgr4 : Gr w w4 := Gr.trans hg2 (Gr.trans ((Gr.refl w2).alloc _ _) hg4)
  clear hmt hct hg2 hg4
  have hend' := hide (unhide hend _ rfl)
  clear hend
  generalize (sqs (mtr k x)).length = b at hb1 hb2 hend' ⊢
  have hpw2 : 2 ^ b ≤ 4096 := Nat.pow_le_pow_right (by decide) hb2
  have hpos := hide (vws_pos k x)
  have hlen := hide (vws_len k x hk hx)
  have hvw := hide (fun W h1 h2 => views_any k x hk hx W h1 h2)
  have hs4 := Below.size hgr4
  have ht4 : Hid (0 < w4.drew.heap.size ∧ BTab w4.drew) := hide ⟨show 0 < w4.heap.size by omega, hT.gr (show Gr w w4.drew from Below.drew hgr4)⟩
  have hgA : Hid (Gr w (w4.drew.alloc (.cells (madeCells #[.int .u64 0] (2 ^ b)) 46))) := hide ((Below.drew hgr4).alloc (show w.heap.size ≤ w4.heap.size from hs4) _)
  have hw2 : Hid (0 < (w4.drew.alloc (.cells (madeCells #[.int .u64 0] (2 ^ b)) 46)).heap.size ∧ BTab (w4.drew.alloc (.cells (madeCells #[.int .u64 0] (2 ^ b)) 46))) := hide ⟨by rw [World.size_alloc]; show 0 < w4.heap.size + 1; omega, hT.gr (unhide hgA)⟩
  have hfA : Hid (∀ w1 g, Gr w4.drew w1 → g < w1.heap.size → Lst g (vws k x) w1 → Fm w (vws k x) g w1.heap.size (2 ^ b) (w1.alloc (.cells (madeCells #[.int .u64 0] (2 ^ b)) 46))) := hide (fun w1 g h1 h2 h3 => by
    have hs1 := Below.size h1
    have hs1' : w4.heap.size ≤ w1.heap.size := hs1
    exact ⟨(Gr.trans (show Gr w w4.drew from Below.drew hgr4) h1).alloc _ _, (fun i hi => ⟨(World.cell?_of_block (blk_old w1 _ g h2)).trans (h3 i hi).1, (World.cell?_of_block (blk_old w1 _ g h2)).trans (h3 i hi).2⟩), ⟨_, tbl_new _ w1⟩, by rw [World.size_alloc]; omega, by rw [World.size_alloc]; omega, by omega, by omega⟩)
  have hfB : Hid (∀ w1 g, Gr (w4.drew.alloc (.cells (madeCells #[.int .u64 0] (2 ^ b)) 46)) w1 → (w4.drew.alloc (.cells (madeCells #[.int .u64 0] (2 ^ b)) 46)).heap.size ≤ g → g < w1.heap.size → Lst g (vws k x) w1 → Fm w (vws k x) g w4.heap.size (2 ^ b) w1) := hide (fun w1 g h1 h4 h2 h3 => by
    have hs1 := Below.size h1
    rw [World.size_alloc] at hs1 h4
    have hs1' : w4.heap.size + 1 ≤ w1.heap.size := hs1
    have h4' : w4.heap.size + 1 ≤ g := h4
    exact ⟨Gr.trans (unhide hgA) h1, h3, ⟨_, (tbl_new (2 ^ b) w4.drew).far (Below.block h1 _ (by rw [World.size_alloc]; exact Nat.lt_succ_self _))⟩, h2, by omega, by omega, hs4⟩)
  have hcst : ((2 ^ b : Nat) : Int) = (2 : Int) ^ b := by rw [Int.natCast_pow]; rfl
  have hsh : Hid (IntKind.i64.wrap (2 ^ b) = 2 ^ b) := hide (by
    rw [IntKind.wrap_i64, ← hcst]
    have z1 : (0 : Int) ≤ ((2 ^ b : Nat) : Int) := Int.natCast_nonneg _
    have z2 : ((2 ^ b : Nat) : Int) ≤ ((4096 : Nat) : Int) := Int.ofNat_le.2 hpw2
    generalize ((2 ^ b : Nat) : Int) = z at z1 z2
    omega)
  have hmk : ∀ W, (Instr.makeSlice 51 (.int .i64 ((2 : Int) ^ b)) (.int .i64 ((2 : Int) ^ b))).run Tryd.prog W = .ok (.slice (some ⟨W.heap.size, 0, none⟩) (2 ^ b) (2 ^ b)) (W.alloc (.cells (madeCells #[.int .u64 0] (2 ^ b)) 46)) := fun W => by rw [← hcst]; exact mk_any (2 ^ b) hpw2 W
  clear hcst
  refine Code.wp_mono (Q := fun e a' w' => e = Exit.normal ∧ ∃ g cap tb : Nat, a' = { tmps := #[.int .i64 (k : Int), .int .i64 (x : Int), .int .u64 (U s), .int .i64 (n : Int), undef, undef, undef, undef, .int .u64 0, .int .i64 0, .int .i64 (b : Int), .slice (some ⟨g, 0, none⟩) (vws k x).length cap, .slice (some ⟨tb, 0, none⟩) (2 ^ b) (2 ^ b), undef, undef, .int .i64 (k : Int), .int .i64 (x : Int), .int .u64 (U (mtr k x)), .func (.func 41) #[] #[.pointer (some ⟨w2.heap.size, 0, none⟩)], .int .i64 (b : Int), .int .i64 (k : Int), .int .i64 (x : Int), .slice (some ⟨g, 0, none⟩) (vws k x).length cap, .int .i64 (b : Int), .int .i64 ((2 : Int) ^ b), .slice (some ⟨tb, 0, none⟩) (2 ^ b) (2 ^ b), undef, undef, undef, undef, undef, undef, undef, undef, undef, undef, undef, undef, undef, undef, undef, undef], defers := [] } ∧ Fm w (vws k x) g tb (2 ^ b) w') ?post ?reg
  case reg =>
    refine wp_region_held_drew (S := fun _ => True) (by kernel_rfl) trivial (fun hHeld => ?_)
    refine wpAnyH_take (i := 0) (v := .int .i64 (k : Int)) rfl (by kernel_rfl) (by kernel_rfl) (by kernel_rfl) (fun _ _ _ h => by cases h.1) (Or.inl ⟨by rfl, fun W' hS => ?_⟩) hHeld ?_
    · clear hHeld hS
      go_simp
    simp only [Act.put, List.getElem_toArray, List.getElem_cons_zero, List.getElem_cons_succ, List.setIfInBounds_toArray, List.set_cons_zero, List.set_cons_succ]
    refine wpAnyH_take (i := 1) (v := .int .i64 (x : Int)) rfl (by kernel_rfl) (by kernel_rfl) (by kernel_rfl) (fun _ _ _ h => by cases h.1) (Or.inl ⟨by rfl, fun W' hS => ?_⟩) hHeld ?_
    · clear hHeld hS
      go_simp
    simp only [Act.put, List.getElem_toArray, List.getElem_cons_zero, List.getElem_cons_succ, List.setIfInBounds_toArray, List.set_cons_zero, List.set_cons_succ]
    refine wpAnyH_take (i := 3) (v := .int .i64 (b : Int)) rfl (by kernel_rfl) (by kernel_rfl) (by kernel_rfl) (fun _ _ _ h => by cases h.1) (Or.inl ⟨by rfl, fun W' hS => ?_⟩) hHeld ?_
    · clear hHeld hS
      go_simp
    simp only [Act.put, List.getElem_toArray, List.getElem_cons_zero, List.getElem_cons_succ, List.setIfInBounds_toArray, List.set_cons_zero, List.set_cons_succ]
    refine wpAnyH_take (i := 4) (v := .int .i64 ((2 : Int) ^ b)) rfl (by kernel_rfl) (by kernel_rfl) (by kernel_rfl) (fun _ _ _ h => by cases h.1) (Or.inl ⟨by rfl, fun W' hS => ?_⟩) hHeld ?_
    · clear hHeld hS
      go_simp
      exact unhide hsh
    simp only [Act.put, List.getElem_toArray, List.getElem_cons_zero, List.getElem_cons_succ, List.setIfInBounds_toArray, List.set_cons_zero, List.set_cons_succ]
    refine wpAnyH_ready (rs := [2, 5]) (by kernel_rfl) (by simp) ?_
    refine AllReadyH.cons rfl (fun K hK => ?_) (AllReadyH.cons rfl (fun K hK => ?_) AllReadyH.nil)
    · go_simp
      refine (unhide hvw w4.drew (unhide ht4).1 (unhide ht4).2).mono ?_
      rintro e w1 ⟨v, rfl, hown, hg1⟩
      obtain ⟨g, cap, rfl, hg, hgl, hL⟩ := lst_of hown (unhide hpos)
      refine hK.out _ _ trivial (fun hHeld => ?_)
      clear hK K
      try simp only [Act.put, List.getElem_toArray, List.getElem_cons_zero, List.getElem_cons_succ, List.setIfInBounds_toArray, List.set_cons_zero, List.set_cons_succ]
      refine wpAnyH_take (i := 6) (v := .slice (some ⟨g, 0, none⟩) (vws k x).length cap) rfl (by kernel_rfl) (by kernel_rfl) (by kernel_rfl) (fun _ _ _ h => by cases h.1) (Or.inl ⟨by rfl, fun W' hS => ?_⟩) hHeld ?_
      · clear hHeld hS
        go_simp
      simp only [Act.put, List.getElem_toArray, List.getElem_cons_zero, List.getElem_cons_succ, List.setIfInBounds_toArray, List.set_cons_zero, List.set_cons_succ]
      refine wpAnyH_ready (rs := [5]) (by kernel_rfl) (by simp) ?_
      refine AllReadyH.cons rfl (fun K hK => ?_) AllReadyH.nil
      go_simp
      refine hK.out _ _ trivial (fun hHeld => ?_)
      clear hK K
      try simp only [Act.put, List.getElem_toArray, List.getElem_cons_zero, List.getElem_cons_succ, List.setIfInBounds_toArray, List.set_cons_zero, List.set_cons_succ]
      refine wpAnyH_ready (rs := [7]) (by kernel_rfl) (by simp) ?_
      refine AllReadyH.cons rfl (fun K hK => ?_) AllReadyH.nil
      go_simp
      refine hK.out _ _ trivial (fun hHeld => ?_)
      clear hK K
      try simp only [Act.put, List.getElem_toArray, List.getElem_cons_zero, List.getElem_cons_succ, List.setIfInBounds_toArray, List.set_cons_zero, List.set_cons_succ]
      refine wpAnyH_done (by kernel_rfl) ?_ _
      exact ⟨rfl, g, cap, w1.heap.size, rfl, unhide hfA w1 g hg1 hgl hL⟩
    · go_simp
      refine hK.out _ _ trivial (fun hHeld => ?_)
      clear hK K
      try simp only [Act.put, List.getElem_toArray, List.getElem_cons_zero, List.getElem_cons_succ, List.setIfInBounds_toArray, List.set_cons_zero, List.set_cons_succ]
      refine wpAnyH_ready (rs := [2]) (by kernel_rfl) (by simp) ?_
      refine AllReadyH.cons rfl (fun K hK => ?_) AllReadyH.nil
      go_simp
      refine (unhide hvw _ (unhide hw2).1 (unhide hw2).2).mono ?_
      rintro e w1 ⟨v, rfl, hown, hg1⟩
      obtain ⟨g, cap, rfl, hg, hgl, hL⟩ := lst_of hown (unhide hpos)
      have hgs := hide hg
      refine hK.out _ _ trivial (fun hHeld => ?_)
      clear hK K
      try simp only [Act.put, List.getElem_toArray, List.getElem_cons_zero, List.getElem_cons_succ, List.setIfInBounds_toArray, List.set_cons_zero, List.set_cons_succ]
      refine wpAnyH_ready (rs := [6]) (by kernel_rfl) (by simp) ?_
      refine AllReadyH.cons rfl (fun K hK => ?_) AllReadyH.nil
      go_simp
      refine hK.out _ _ trivial (fun hHeld => ?_)
      clear hK K
      try simp only [Act.put, List.getElem_toArray, List.getElem_cons_zero, List.getElem_cons_succ, List.setIfInBounds_toArray, List.set_cons_zero, List.set_cons_succ]
      refine wpAnyH_ready (rs := [7]) (by kernel_rfl) (by simp) ?_
      refine AllReadyH.cons rfl (fun K hK => ?_) AllReadyH.nil
      go_simp
      refine hK.out _ _ trivial (fun hHeld => ?_)
      clear hK K
      try simp only [Act.put, List.getElem_toArray, List.getElem_cons_zero, List.getElem_cons_succ, List.setIfInBounds_toArray, List.set_cons_zero, List.set_cons_succ]
      refine wpAnyH_done (by kernel_rfl) ?_ _
      exact ⟨rfl, g, cap, w4.heap.size, rfl, unhide hfB w1 g hg1 (unhide hgs) hgl hL⟩
  rintro e a' w5 ⟨rfl, g, cap, tb, rfl, hM⟩
  clear hmk hsh hfA hfB hw2 hgA ht4 hvw
  have hfac : Hid (∀ (m : Nat) (W : World), m < 18446744073709551616 → Calls Tryd.prog 28 #[.int .u64 (U s), .int .u64 (m : Int)] W fun e w' => e = .returned (.int .u64 (U (facN s m))) ∧ w' = W) := hide (fun m W hm => by rw [← facN_is s m hm]; exact factor_any _ _ W)
  have hfit : Hid (∀ (F : BitVec 64) (W : World), Fm w (vws k x) g tb (2 ^ b) W → Calls Tryd.prog 20 #[.slice (some ⟨g, 0, none⟩) (vws k x).length cap, .int .u64 (U F), .slice (some ⟨tb, 0, none⟩) (2 ^ b) (2 ^ b), .int .i64 (b : Int)] W fun e w' => e = .returned (.bool (fits (vws k x) F b)) ∧ Fm w (vws k x) g tb (2 ^ b) w') := hide (fun F W h => by
    obtain ⟨T, hTb⟩ := h.tbl
    exact (fits_any (vws k x) (unhide hlen) g cap F tb b hb1 hb2 T W h.gl h.tl h.ne h.lst hTb).mono fun e w' q => ⟨q.1, h.next q.2.1 q.2.2⟩)
  have hM' := hide hM
  clear hM hpos hlen
  go_wp2_with fail
  go_loopg [13] n (fun gm i wr => ∃ j : Nat, j + gm = n ∧ i = .int .i64 ((j : Int) + 1) ∧ Fm w (vws k x) g tb (2 ^ b) wr ∧ ∀ m, 1 ≤ m → m ≤ j → fits (vws k x) (facN s m) b = false)
  case atStart => exact ⟨0, by omega, rfl, unhide hM', fun m h1 h2 => by omega⟩
  case round =>
    clear hM'
    obtain ⟨j, j1, rfl, hM, hno⟩ := hrel
    have hM' := hide hM
    have hno' := hide hno
    clear hM hno
    by_cases hlt : j < n
    · have hw1 : IntKind.u64.wrap ((j : Int) + 1) = ((j + 1 : Nat) : Int) := by rw [IntKind.wrap_u64]; omega
      obtain ⟨q, hq⟩ : ∃ q, Hid (fits (vws k x) (facN s (j + 1)) b = q) := ⟨_, hide rfl⟩
      cases q
      · have hno2 : Hid (∀ m, 1 ≤ m → m ≤ j + 1 → fits (vws k x) (facN s m) b = false) := hide (fun m h1 h2 => by
          by_cases e : m = j + 1
          · rw [e]; exact unhide hq
          · exact unhide hno' m h1 (by omega))
        go_wp2_with (first
          | (go_at_call 28; refine (unhide hfac (j + 1) _ (by omega)).mono ?_; rintro e w' ⟨rfl, rfl⟩)
          | (go_at_call 20; refine (unhide hfit _ _ (unhide hM')).mono ?_; rintro e w6 ⟨rfl, hM6⟩; rw [unhide hq]))
        go_roundg (gk - 1)
        case measure => omega
        case rel => exact ⟨j + 1, by omega, by simp, hM6, unhide hno2⟩
      · have hen : Hid (FindEnd k x s n (.returned (.tuple #[.int .u64 (U (facN s (j + 1))), .int .i64 ((j : Int) + 1)]))) := hide (unhide hend' _ (.inl ⟨j + 1, by omega, by omega, unhide hq, fun i h1 h2 => unhide hno' i h1 (by omega), by simp⟩))
        go_wp2_with (first
          | (go_at_call 28; refine (unhide hfac (j + 1) _ (by omega)).mono ?_; rintro e w' ⟨rfl, rfl⟩)
          | (go_at_call 20; refine (unhide hfit _ _ (unhide hM')).mono ?_; rintro e w6 ⟨rfl, hM6⟩; rw [unhide hq]))
        go_ret2
        exact ⟨unhide hen, hM6.gr⟩
    · have ej : j = n := by omega
      subst ej
      have hen : Hid (FindEnd k x s j (.returned (.tuple #[.int .u64 0, .int .i64 0]))) := hide (unhide hend' _ (.inr ⟨unhide hno', rfl⟩))
      go_wp2_with fail
      go_ret2
      exact ⟨unhide hen, (unhide hM').gr⟩

end Go.Proofs.YtnfakamfmkhlbabDoor.C
