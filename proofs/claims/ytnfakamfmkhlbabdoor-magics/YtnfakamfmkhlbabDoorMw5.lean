import Derived.Test.YtnfakamfmkhlbabDoorMw4
import Derived.Deep.OwnRows
namespace Go.Proofs.YtnfakamfmkhlbabDoor.C
open Go.ChangeShapes Go.WideShapes Go.ChangeAt Go.RowKit Go.Shelf
open Go.Proofs.YtnfakamfmkhlbabDoor.P
attribute [local go_sem] setCell_drewN alloc_drewN

theorem vws_pos (k x : Nat) : 0 < (vws k x).length := by
  unfold vws vwsL
  rw [List.length_map]
  obtain ⟨l, h⟩ := subs_head (mtr k x) 0#64 BitVec.zero_and
  rw [h]; simp
theorem vws_len (k x : Nat) (hk : k = 4 ∨ k = 5) (hx : x < 64) : (vws k x).length ≤ 4096 := by
  unfold vws vwsL
  rw [List.length_map]; exact subs_len k x hk hx
theorem vflat_at : ∀ (l : List (BitVec 64 × BitVec 64)) (i : Nat) (h : i < l.length), (vflat l)[i * 2]? = some (.int .u64 (U l[i].1)) ∧ (vflat l)[i * 2 + 1]? = some (.int .u64 (U l[i].2))
  | a :: l, 0, _ => ⟨rfl, rfl⟩
  | a :: l, i + 1, h => by
      have ih := vflat_at l i (by simpa using h)
      have e : vflat (a :: l) = [.int .u64 (U a.1), .int .u64 (U a.2)] ++ vflat l := by unfold vflat; rw [List.flatMap_cons]
      rw [e, show (i + 1) * 2 = i * 2 + 2 from by omega, show i * 2 + 2 + 1 = (i * 2 + 1) + 2 from by omega]
      exact ih
/-- what views gave, as a list of pairs -/
theorem lst_of {w : World} {base : Nat} {v : Value} {l : List (BitVec 64 × BitVec 64)} (h : w.ownsRow base 68 2 v l.length (vflat l)) (hp : 0 < l.length) : ∃ g cap, v = .slice (some ⟨g, 0, none⟩) l.length cap ∧ base ≤ g ∧ g < w.heap.size ∧ Lst g l w := by
  rcases h.2 with ⟨_, h0⟩ | ⟨g, cap, cur, rfl, hg, hb, hc⟩
  · omega
  · refine ⟨g, cap, rfl, hg, (Array.getElem?_eq_some_iff.1 hb).1, fun i hi => ?_⟩
    obtain ⟨a1, a2⟩ := vflat_at l i hi
    rw [h.cellAt (i * 2) (by omega), h.cellAt (i * 2 + 1) (by omega)]
    exact ⟨a1, a2⟩
theorem infoT : (Tryd.prog.info? 46).map (fun i => (i.zero, i.size, i.bytes)) = some (some (.int .u64 0), 1, 8) := by kernel_rfl
theorem mk_any (n : Nat) (hn : n ≤ 4096) (w : World) : (Instr.makeSlice 51 (.int .i64 (n : Int)) (.int .i64 (n : Int))).run Tryd.prog w = .ok (.slice (some ⟨w.heap.size, 0, none⟩) n n) (w.alloc (.cells (madeCells #[.int .u64 0] n) 46)) := by
  obtain ⟨i0, hi, hz0, hz1, hz2⟩ := info_parts infoT
  have := run_makeSlice (P := Tryd.prog) w 51 46 i0 (.int .u64 0) Tryd.underlying51 hi hz0 .i64 .i64 (n : Int) (n : Int) (by omega) (Int.le_refl _) (by rw [hz1, Int.toNat_natCast]; omega) (by rw [hz2]; omega) (by omega)
  rw [hz1, Int.toNat_natCast, Nat.mul_one] at this
  exact this
theorem tbl_new (n : Nat) (w : World) : Tbl w.heap.size n (fun _ => 0#64) (w.alloc (.cells (madeCells #[.int .u64 0] n) 46)) := fun i hi => by
  have h := World.rowIs_made w (.int .u64 0) n 46
  exact ⟨by rw [h.cell hi, U_zero], h.frozen i⟩

set_option linter.unusedSimpArgs false in
set_option maxRecDepth 100000 in
set_option maxHeartbeats 8000000 in
theorem is_any (k x : Nat) (hk : k = 4 ∨ k = 5) (hx : x < 64) (f : BitVec 64) (b : Nat) (hb1 : 1 ≤ b) (hb2 : b ≤ 12) (w : World) (ht0 : 0 < w.heap.size) (hT : BTab w) :
    Calls Tryd.prog 14 #[.int .i64 (k : Int), .int .i64 (x : Int), .int .u64 (U f), .int .i64 (b : Int)] w fun e w' => e = .returned (.bool (fits (vws k x) f b)) ∧ Gr w w' := by
  have hpw2 : 2 ^ b ≤ 4096 := Nat.pow_le_pow_right (by decide) hb2
  have hpos := hide (vws_pos k x)
  have hlen := hide (vws_len k x hk hx)
  have hvw := hide (fun W h1 h2 => views_any k x hk hx W h1 h2)
  have hw2 : Hid (0 < (w.drew.alloc (.cells (madeCells #[.int .u64 0] (2 ^ b)) 46)).heap.size ∧ BTab (w.drew.alloc (.cells (madeCells #[.int .u64 0] (2 ^ b)) 46))) := hide ⟨by rw [World.size_alloc]; show 0 < w.heap.size + 1; omega, hT.gr (show Gr w (w.drew.alloc (.cells (madeCells #[.int .u64 0] (2 ^ b)) 46)) from (((Below.refl w.heap.size w).drew).alloc (Nat.le_refl _) _))⟩
  have hw3 : Hid (∀ w1, Gr (w.drew.alloc (.cells (madeCells #[.int .u64 0] (2 ^ b)) 46)) w1 → w.heap.size < w1.heap.size) := hide (fun w1 h => by have := Below.size h; rw [World.size_alloc] at this; exact Nat.lt_of_lt_of_le (Nat.lt_succ_self _) this)
  have hw4 : Hid (∀ g, (w.drew.alloc (.cells (madeCells #[.int .u64 0] (2 ^ b)) 46)).heap.size ≤ g → g ≠ w.heap.size) := hide (fun g h e => by rw [World.size_alloc] at h; have h' : w.heap.size + 1 ≤ g := h; omega)
  have hw5 : Hid (∀ w1, Gr (w.drew.alloc (.cells (madeCells #[.int .u64 0] (2 ^ b)) 46)) w1 → Tbl w.heap.size (2 ^ b) (fun _ => 0#64) w1) := hide (fun w1 h => (tbl_new (2 ^ b) w.drew).far (Below.block h _ (by rw [World.size_alloc]; exact Nat.lt_succ_self _)))
  have hw6 : Hid (∀ w1 w3, Gr (w.drew.alloc (.cells (madeCells #[.int .u64 0] (2 ^ b)) 46)) w1 → Ft w1 w.heap.size w3 → Gr w w3) := hide (fun w1 w3 h h' => by
    have hs := Below.size h
    rw [World.size_alloc] at hs
    have hs' : w.heap.size + 1 ≤ w1.heap.size := hs
    exact Below.trans (Below.trans (((Below.refl w.heap.size w).drew).alloc (Nat.le_refl _) _) (Below.mono h (by rw [World.size_alloc]; exact Nat.le_succ _))) (h'.low w.heap.size (Nat.le_refl _) (by omega)))
  have hcst : ((2 ^ b : Nat) : Int) = (2 : Int) ^ b := by rw [Int.natCast_pow]; rfl
  have hsh : Hid (IntKind.i64.wrap (2 ^ b) = 2 ^ b) := hide (by
    rw [IntKind.wrap_i64, ← hcst]
    have z1 : (0 : Int) ≤ ((2 ^ b : Nat) : Int) := Int.natCast_nonneg _
    have z2 : ((2 ^ b : Nat) : Int) ≤ ((4096 : Nat) : Int) := Int.ofNat_le.2 hpw2
    generalize ((2 ^ b : Nat) : Int) = z at z1 z2
    omega)
  have hmk : ∀ W, (Instr.makeSlice 51 (.int .i64 ((2 : Int) ^ b)) (.int .i64 ((2 : Int) ^ b))).run Tryd.prog W = .ok (.slice (some ⟨W.heap.size, 0, none⟩) (2 ^ b) (2 ^ b)) (W.alloc (.cells (madeCells #[.int .u64 0] (2 ^ b)) 46)) := fun W => by rw [← hcst]; exact mk_any (2 ^ b) hpw2 W
  clear hcst
  go_enter Tryd.func14, Tryd.ntmps14
  go_upto_region 1 with fail
  refine wp_region_held_drew (S := fun _ => True) (by kernel_rfl) trivial (fun hHeld => ?_)
  refine wpAnyH_take (i := 0) (v := .int .i64 (k : Int)) rfl (by kernel_rfl) (by kernel_rfl) (by kernel_rfl) (fun _ _ _ h => h) (Or.inl ⟨by rfl, fun W' hS => ?_⟩) hHeld ?_
  · clear hHeld hS
    go_simp
  simp only [Act.put, List.getElem_toArray, List.getElem_cons_zero, List.getElem_cons_succ, List.setIfInBounds_toArray, List.set_cons_zero, List.set_cons_succ]
  refine wpAnyH_take (i := 1) (v := .int .i64 (x : Int)) rfl (by kernel_rfl) (by kernel_rfl) (by kernel_rfl) (fun _ _ _ h => h) (Or.inl ⟨by rfl, fun W' hS => ?_⟩) hHeld ?_
  · clear hHeld hS
    go_simp
  simp only [Act.put, List.getElem_toArray, List.getElem_cons_zero, List.getElem_cons_succ, List.setIfInBounds_toArray, List.set_cons_zero, List.set_cons_succ]
  refine wpAnyH_take (i := 3) (v := .int .u64 (U f)) rfl (by kernel_rfl) (by kernel_rfl) (by kernel_rfl) (fun _ _ _ h => h) (Or.inl ⟨by rfl, fun W' hS => ?_⟩) hHeld ?_
  · clear hHeld hS
    go_simp
  simp only [Act.put, List.getElem_toArray, List.getElem_cons_zero, List.getElem_cons_succ, List.setIfInBounds_toArray, List.set_cons_zero, List.set_cons_succ]
  refine wpAnyH_take (i := 4) (v := .int .i64 (b : Int)) rfl (by kernel_rfl) (by kernel_rfl) (by kernel_rfl) (fun _ _ _ h => h) (Or.inl ⟨by rfl, fun W' hS => ?_⟩) hHeld ?_
  · clear hHeld hS
    go_simp
  simp only [Act.put, List.getElem_toArray, List.getElem_cons_zero, List.getElem_cons_succ, List.setIfInBounds_toArray, List.set_cons_zero, List.set_cons_succ]
  refine wpAnyH_take (i := 7) (v := .int .i64 (b : Int)) rfl (by kernel_rfl) (by kernel_rfl) (by kernel_rfl) (fun _ _ _ h => h) (Or.inl ⟨by rfl, fun W' hS => ?_⟩) hHeld ?_
  · clear hHeld hS
    go_simp
  simp only [Act.put, List.getElem_toArray, List.getElem_cons_zero, List.getElem_cons_succ, List.setIfInBounds_toArray, List.set_cons_zero, List.set_cons_succ]
  refine wpAnyH_take (i := 5) (v := .int .i64 ((2 ^ b : Nat) : Int)) rfl (by kernel_rfl) (by kernel_rfl) (by kernel_rfl) (fun _ _ _ h => h) (Or.inl ⟨by rfl, fun W' hS => ?_⟩) hHeld ?_
  · clear hHeld hS
    go_simp
    exact unhide hsh
  simp only [Act.put, List.getElem_toArray, List.getElem_cons_zero, List.getElem_cons_succ, List.setIfInBounds_toArray, List.set_cons_zero, List.set_cons_succ]
  refine wpAnyH_ready (rs := [2, 6]) (by kernel_rfl) (by simp) ?_
  refine AllReadyH.cons rfl (fun K hK => ?_) (AllReadyH.cons rfl (fun K hK => ?_) AllReadyH.nil)
  · go_simp
    refine (unhide hvw w.drew (show 0 < w.heap.size from ht0) hT).mono ?_
    rintro e w1 ⟨v, rfl, hown, hg1⟩
    obtain ⟨g, cap, rfl, hg, hgl, hL⟩ := lst_of hown (unhide hpos)
    refine hK.out _ _ trivial (fun hHeld => ?_)
    clear hK K
    try simp only [Act.put, List.getElem_toArray, List.getElem_cons_zero, List.getElem_cons_succ, List.setIfInBounds_toArray, List.set_cons_zero, List.set_cons_succ]
    refine wpAnyH_ready (rs := [6]) (by kernel_rfl) (by simp) ?_
    refine AllReadyH.cons rfl (fun K hK => ?_) AllReadyH.nil
    go_simp
    refine hK.out _ _ trivial (fun hHeld => ?_)
    clear hK K
    try simp only [Act.put, List.getElem_toArray, List.getElem_cons_zero, List.getElem_cons_succ, List.setIfInBounds_toArray, List.set_cons_zero, List.set_cons_succ]
    refine wpAnyH_ready (rs := [8]) (by kernel_rfl) (by simp) ?_
    refine AllReadyH.cons rfl (fun K hK => ?_) AllReadyH.nil
    go_simp
    refine (fits_any (vws k x) (unhide hlen) g cap f w1.heap.size b hb1 hb2 (fun _ => 0#64) _ (by rw [World.size_alloc]; omega) (by rw [World.size_alloc]; omega) (by omega) (fun i hi => ⟨(World.cell?_of_block (blk_old w1 _ g hgl)).trans (hL i hi).1, (World.cell?_of_block (blk_old w1 _ g hgl)).trans (hL i hi).2⟩) (tbl_new _ w1)).mono ?_
    rintro e w3 ⟨rfl, hF, _⟩
    refine hK.out _ _ trivial (fun hHeld => ?_)
    clear hK K
    try simp only [Act.put, List.getElem_toArray, List.getElem_cons_zero, List.getElem_cons_succ, List.setIfInBounds_toArray, List.set_cons_zero, List.set_cons_succ]
    refine wpAnyH_ready (rs := [9]) (by kernel_rfl) (by simp) ?_
    refine AllReadyH.cons rfl (fun K hK => ?_) AllReadyH.nil
    go_simp
    refine hK.out _ _ trivial (fun hHeld => ?_)
    clear hK K
    refine wpAnyH_done (by kernel_rfl) ?_ _
    go_wp2_with fail
    go_ret
    exact ⟨rfl, Gr.trans (show Gr w w1 from Below.trans ((Below.refl _ w).drew) hg1) ((Below.trans (((Below.refl w1.heap.size w1).alloc (Nat.le_refl _) _)) (hF.low w1.heap.size (Nat.le_refl _) (by rw [World.size_alloc]; omega))))⟩
  · go_simp
    refine hK.out _ _ trivial (fun hHeld => ?_)
    clear hK K
    try simp only [Act.put, List.getElem_toArray, List.getElem_cons_zero, List.getElem_cons_succ, List.setIfInBounds_toArray, List.set_cons_zero, List.set_cons_succ]
    refine wpAnyH_ready (rs := [2]) (by kernel_rfl) (by simp) ?_
    refine AllReadyH.cons rfl (fun K hK => ?_) AllReadyH.nil
    go_simp
    refine (unhide hvw _ (unhide hw2).1 (unhide hw2).2).mono ?_
    rintro e w1 ⟨v, rfl, hown, hg1⟩
    obtain ⟨g, cap, rfl, hg, hgl, hL⟩ := lst_of hown (unhide hpos)
    have hgs := hide hg
    refine hK.out _ _ trivial (fun hHeld => ?_)
    clear hK K
    try simp only [Act.put, List.getElem_toArray, List.getElem_cons_zero, List.getElem_cons_succ, List.setIfInBounds_toArray, List.set_cons_zero, List.set_cons_succ]
    refine wpAnyH_ready (rs := [8]) (by kernel_rfl) (by simp) ?_
    refine AllReadyH.cons rfl (fun K hK => ?_) AllReadyH.nil
    go_simp
    refine (fits_any (vws k x) (unhide hlen) g cap f w.heap.size b hb1 hb2 (fun _ => 0#64) w1 hgl (unhide hw3 w1 hg1) (unhide hw4 g (unhide hgs)) hL (unhide hw5 w1 hg1)).mono ?_
    rintro e w3 ⟨rfl, hF, _⟩
    refine hK.out _ _ trivial (fun hHeld => ?_)
    clear hK K
    try simp only [Act.put, List.getElem_toArray, List.getElem_cons_zero, List.getElem_cons_succ, List.setIfInBounds_toArray, List.set_cons_zero, List.set_cons_succ]
    refine wpAnyH_ready (rs := [9]) (by kernel_rfl) (by simp) ?_
    refine AllReadyH.cons rfl (fun K hK => ?_) AllReadyH.nil
    go_simp
    refine hK.out _ _ trivial (fun hHeld => ?_)
    clear hK K
    refine wpAnyH_done (by kernel_rfl) ?_ _
    go_wp2_with fail
    go_ret
    exact ⟨rfl, unhide hw6 w1 w3 hg1 hF⟩

end Go.Proofs.YtnfakamfmkhlbabDoor.C
