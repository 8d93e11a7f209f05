import Derived.Test.YtnfakamfmkhlbabDoorMw2
import Derived.Test.YtnfakamfmkhlbabDoorSubN
import Derived.Test.YtnfakamfmkhlbabDoorBrg
import Derived.RangeFuncBox
import Derived.Deep.Onto
namespace Go.Proofs.YtnfakamfmkhlbabDoor.C
open Go.ChangeShapes Go.WideShapes Go.ChangeAt Go.RowKit Go.Shelf
open Go.Proofs.YtnfakamfmkhlbabDoor.P
attribute [local go_sem] Oper.semAt_some

/-- a list of views, cell by cell -/
def vflat (l : List (BitVec 64 × BitVec 64)) : List Value := l.flatMap fun p => [.int .u64 (U p.1), .int .u64 (U p.2)]
theorem vflat_len (l : List (BitVec 64 × BitVec 64)) : (vflat l).length = l.length * 2 := by
  induction l with
  | nil => rfl
  | cons a l ih => unfold vflat at *; rw [List.flatMap_cons, List.length_append, ih]; simp; omega
theorem vflat_snoc (l : List (BitVec 64 × BitVec 64)) (p : BitVec 64 × BitVec 64) : vflat (l ++ [p]) = vflat l ++ [.int .u64 (U p.1), .int .u64 (U p.2)] := by
  unfold vflat; rw [List.flatMap_append]; rfl
theorem vws_snoc (k x : Nat) (l : List (BitVec 64)) (t : BitVec 64) : vwsL k x (l ++ [t]) = vwsL k x l ++ [(t, reachB k x t)] := by
  unfold vwsL; rw [List.map_append]; rfl
theorem infoV : (Tryd.prog.info? 68).map (fun i => (i.zero, i.size, i.bytes)) = some (some (.agg #[.int .u64 0, .int .u64 0]), 2, 16) := by kernel_rfl

structure Vj (k x : Nat) (b N : Nat) (l : List (BitVec 64 × BitVec 64)) (v : Value) (W : World) : Prop where
  kc : W.cell? ⟨b, 0, none⟩ = some (.int .i64 (k : Int))
  xc : W.cell? ⟨b + 1, 0, none⟩ = some (.int .i64 (x : Int))
  box : Boxed W (b + 1 + 1) 49 v
  own : W.ownsRow N 68 2 v l.length (vflat l)
theorem Vj.row {k x b N : Nat} {l : List (BitVec 64 × BitVec 64)} {v : Value} {W : World} (h : Vj k x b N l v W) {j : Nat} (e : v.ownBlock = some j) : N ≤ j := (h.own.lt j e).1
theorem Vj.kept {k x b N : Nat} {l : List (BitVec 64 × BitVec 64)} {v : Value} {A B : World} {row : Option Nat} (h : Vj k x b N l v A) (hg : A.grownBy B row) (hr : ∀ r, row = some r → ∃ o : Obj, A.heap[r]? = some o ∧ o.isCells = false) : Vj k x b N l v B := by
  refine ⟨cell_kept h.kc hg hr, cell_kept h.xc hg hr, h.box.kept hg (fun e' => ?_), h.own.kept hg ?_⟩
  · obtain ⟨o, ho, hc⟩ := hr _ e'.symm
    rw [show A.heap[b + 1 + 1]? = _ from h.box] at ho; cases ho; cases hc
  · rcases h.own.2 with ⟨rfl, _⟩ | ⟨g, cap, cur, rfl, _, hgb, _⟩
    · exact .inl rfl
    · refine .inr fun e' => ?_
      obtain ⟨o, ho, hc⟩ := hr g (by simpa [Value.ownBlock] using e'.symm)
      rw [hgb] at ho; cases ho; cases hc
theorem views_round {k x b Bn N : Nat} {l : List (BitVec 64 × BitVec 64)} {v v' : Value} {W W2 : World} {t r : BitVec 64} {o : Obj} (h : Vj k x b N l v W) (hb : b + 1 + 1 < Bn) (hBn : Bn < N) (hN : N ≤ W.heap.size)
    (hown : W2.ownsRow N 68 2 v' (l.length + 1) (vflat l ++ [.int .u64 (U t), .int .u64 (U r)])) (hg : (W.drew.alloc o).grownBy W2 v.ownBlock) :
    KeepsOthers W (W2.setCell ⟨b + 1 + 1, 0, none⟩ v') ∧ (Below b W (W2.setCell ⟨b + 1 + 1, 0, none⟩ v') ∧ (W2.setCell ⟨b + 1 + 1, 0, none⟩ v').heap[Bn]? = W.heap[Bn]?) ∧ Vj k x b N (l ++ [(t, r)]) v' (W2.setCell ⟨b + 1 + 1, 0, none⟩ v') := by
  have hlow : ∀ j, j < N → W2.heap[j]? = W.heap[j]? := fun j hj => by
    rw [hg.block j (by rw [World.size_alloc]; show j < W.heap.size + 1; omega) (fun e => by have := h.row e.symm; omega)]
    exact blk_old W.drew o j (show j < W.heap.size by omega)
  have hcell : ∀ j, j < N → j ≠ b + 1 + 1 → (W2.setCell ⟨b + 1 + 1, 0, none⟩ v').heap[j]? = W.heap[j]? := fun j hj hne => (Below.heap_setCell W2 ⟨b + 1 + 1, 0, none⟩ v' j hne).trans (hlow j hj)
  refine ⟨?_, ⟨?_, hcell Bn hBn (by omega)⟩, ?_⟩
  · refine (KeepsOthers.drew W).trans ((KeepsOthers.alloc _ o).trans ((KeepsOthers.of_grownBy hg (fun j ob e ho => ?_)).trans (KeepsOthers.setCell _ _ _)))
    rcases h.own.2 with ⟨rfl, _⟩ | ⟨g, cap, cur, rfl, _, hgb, _⟩
    · cases e
    · obtain rfl : g = j := by simpa [Value.ownBlock] using e
      rw [blk_old W.drew o g ((Array.getElem?_eq_some_iff.1 hgb).1)] at ho
      rw [show W.drew.heap[g]? = W.heap[g]? from rfl, hgb] at ho
      cases ho; rfl
  · have b1 : Below b W (W.drew.alloc o) := ((Below.refl b W).drew).alloc (show b ≤ W.heap.size by omega) o
    exact (b1.grown hg (by rw [World.size_alloc]; show b ≤ W.heap.size + 1; omega) (fun j e => by have := h.row e; omega)).setCell (p := ⟨b + 1 + 1, 0, none⟩) (by show b ≤ b + 1 + 1; omega) v'
  · refine ⟨by rw [World.cell?_of_block (w := W) (hcell b (by omega) (by omega))]; exact h.kc, by rw [World.cell?_of_block (w := W) (hcell (b + 1) (by omega) (by omega))]; exact h.xc, ?_, ?_⟩
    · exact Boxed.set (v := v) v' (by show W2.heap[b + 1 + 1]? = _; rw [hlow _ (by omega)]; exact h.box)
    · rw [vflat_snoc, List.length_append]
      exact ownsRow_setCell_below hown (show b + 1 + 1 < N by omega) v'

theorem two_new (W : World) (a b : Value) (ty : TypeId) : ∀ j u, [a, b][j]? = some u → (W.alloc (.cells #[a, b] ty)).cell? ((⟨W.heap.size, 0, none⟩ : Addr).add j) = some u := by
  intro j u h
  have hh : (W.alloc (.cells #[a, b] ty)).heap[W.heap.size]? = some (.cells #[a, b] ty (0, 0)) := World.alloc_heap_new W _
  match j with
  | 0 => simp at h; subst h; show (W.alloc (.cells #[a, b] ty)).cell? ⟨W.heap.size, 0, none⟩ = _; simp only [World.cell?]; rw [hh]; rfl
  | 1 => simp at h; subst h; show (W.alloc (.cells #[a, b] ty)).cell? ⟨W.heap.size, 1, none⟩ = _; simp only [World.cell?]; rw [hh]; rfl
  | j + 2 => simp at h

/-- behind the append: the kind, the square, the list's box are as they were -/
theorem views_low {k x b N : Nat} {l : List (BitVec 64 × BitVec 64)} {v : Value} {W W2 : World} {o : Obj} (h : Vj k x b N l v W) (hN : N ≤ W.heap.size) (hg : (W.drew.alloc o).grownBy W2 v.ownBlock) (j : Nat) (hj : j < N) : W2.heap[j]? = W.heap[j]? := by
  rw [hg.block j (by rw [World.size_alloc]; show j < W.heap.size + 1; omega) (fun e => by have := h.row e.symm; omega)]
  exact blk_old W.drew o j (show j < W.heap.size by omega)
def VS (k x b : Nat) (W : World) : Prop := W.cell? ⟨b, 0, none⟩ = some (.int .i64 (k : Int)) ∧ W.cell? ⟨b + 1, 0, none⟩ = some (.int .i64 (x : Int))
theorem views_held {k x b N : Nat} {l : List (BitVec 64 × BitVec 64)} {v : Value} {W W2 : World} {o : Obj} (h : Vj k x b N l v W) (hb : b + 1 + 1 < N) (hN : N ≤ W.heap.size) (hg : (W.drew.alloc o).grownBy W2 v.ownBlock) : VS k x b W2 :=
  ⟨by rw [World.cell?_of_block (w := W) (views_low h hN hg b (by omega))]; exact h.kc, by rw [World.cell?_of_block (w := W) (views_low h hN hg (b + 1) (by omega))]; exact h.xc⟩
theorem views_box {k x b N : Nat} {l : List (BitVec 64 × BitVec 64)} {v : Value} {W W2 : World} {o : Obj} (h : Vj k x b N l v W) (hb : b + 1 + 1 < N) (hN : N ≤ W.heap.size) (hg : (W.drew.alloc o).grownBy W2 v.ownBlock) : Boxed W2 (b + 1 + 1) 49 v := by
  show W2.heap[b + 1 + 1]? = _
  rw [views_low h hN hg _ hb]; exact h.box
theorem views_held9 {k x b N : Nat} {l : List (BitVec 64 × BitVec 64)} {v : Value} {W : World} (h : Vj k x b N l v W) : VS k x b W := ⟨h.kc, h.xc⟩

set_option linter.unusedSimpArgs false in
set_option maxRecDepth 100000 in
set_option maxHeartbeats 8000000 in
theorem views_any (k x : Nat) (hk : k = 4 ∨ k = 5) (hx : x < 64) (w : World) (ht0 : 0 < w.heap.size) (hT : BTab w) :
    Calls Tryd.prog 21 #[.int .i64 (k : Int), .int .i64 (x : Int)] w fun e w' => ∃ v, e = .returned v ∧ w'.ownsRow w.heap.size 68 2 v (vws k x).length (vflat (vws k x)) ∧ Gr w w' := by
  obtain ⟨i0, hi, hz0, hz1, hz2⟩ := info_parts infoV
  have hi' := hide hi
  clear hi
  refine (callsIn_wide (n := 5)).1 ?_
  refine callsIn_of_wp_marks Tryd.func21 rfl trivial ?_ rfl
  simp only [Tryd.ntmps21, List.size_toArray, List.length_cons, List.length_nil, Nat.reduceAdd, Nat.reduceSub, Array.replicate_succ, Array.replicate_zero, List.push_toArray, List.append_toArray, List.nil_append, List.cons_append]
  have hB3 : Below w.heap.size w (((w.alloc (.cells #[.int .i64 (k : Int)] 3)).alloc (.cells #[.int .i64 (x : Int)] 3)).alloc (.cells #[.slice none 0 0] 49)) := (((Below.refl _ w).alloc (Nat.le_refl _) _).alloc (by simp) _).alloc (by simp <;> omega) _
  have hsz3 : (((w.alloc (.cells #[.int .i64 (k : Int)] 3)).alloc (.cells #[.int .i64 (x : Int)] 3)).alloc (.cells #[.slice none 0 0] 49)).heap.size = w.heap.size + 3 := by simp
  have hm : Hid (Calls Tryd.prog 26 #[.int .i64 (k : Int), .int .i64 (x : Int)] (((w.alloc (.cells #[.int .i64 (k : Int)] 3)).alloc (.cells #[.int .i64 (x : Int)] 3)).alloc (.cells #[.slice none 0 0] 49)) fun e w' => e = .returned (.int .u64 (U (mtr k x))) ∧ Gr (((w.alloc (.cells #[.int .i64 (k : Int)] 3)).alloc (.cells #[.int .i64 (x : Int)] 3)).alloc (.cells #[.slice none 0 0] 49)) w') := hide (matter_any k x hk hx _ (by rw [hsz3]; omega) (hT.below hB3 ht0))
  gi_wp2_with (first
    | (refine ⟨trivial, ?_⟩; gi_at_call 26; refine (callsIn_wide.2 (unhide hm)).mono ?_; rintro e w4 ⟨rfl, hg4⟩)
    | (refine ⟨trivial, ?_⟩; gi_at_call 38; refine (callsIn_wide.2 (subsets_any _ _)).mono ?_; rintro e w' ⟨rfl, rfl⟩))
  have hs4 : w.heap.size + 3 ≤ w4.heap.size := by have := Below.size hg4; omega
  have hV4 : Vj k x w.heap.size (w4.heap.size + 1) (vwsL k x []) (.slice none 0 0) (w4.alloc (.cells #[.int .u64 (U (mtr k x))] 46)) := by
    have hb : ∀ j, j < w.heap.size + 3 → (w4.alloc (.cells #[.int .u64 (U (mtr k x))] 46)).heap[j]? = (((w.alloc (.cells #[.int .i64 (k : Int)] 3)).alloc (.cells #[.int .i64 (x : Int)] 3)).alloc (.cells #[.slice none 0 0] 49)).heap[j]? := fun j hj => by
      rw [blk_old _ _ _ (by omega)]; exact Below.block hg4 j (by omega)
    have e0 := (cell_of_box_l (W := w4.alloc (.cells #[.int .u64 (U (mtr k x))] 46)) (B := w.heap.size) (v := .int .i64 (k : Int)) (t := 3) (by
      rw [hb _ (by omega), blk_old _ _ _ (by simp <;> omega), blk_old _ _ _ (by simp)]; exact World.alloc_heap_new w _))
    have e1 := (cell_of_box_l (W := w4.alloc (.cells #[.int .u64 (U (mtr k x))] 46)) (B := w.heap.size + 1) (v := .int .i64 (x : Int)) (t := 3) (by
      rw [hb _ (by omega), blk_old _ _ _ (by simp)]; have := World.alloc_heap_new (w.alloc (.cells #[.int .i64 (k : Int)] 3)) (.cells #[.int .i64 (x : Int)] 3); rwa [World.size_alloc] at this))
    refine ⟨e0.1, e1.1, ?_, World.ownsRow_nil _ _ _ _⟩
    show (w4.alloc (.cells #[.int .u64 (U (mtr k x))] 46)).heap[w.heap.size + 1 + 1]? = _
    rw [hb _ (by omega)]
    have := World.alloc_heap_new ((w.alloc (.cells #[.int .i64 (k : Int)] 3)).alloc (.cells #[.int .i64 (x : Int)] 3)) (.cells #[.slice none 0 0] 49)
    rwa [World.size_alloc, World.size_alloc] at this
  have hcB : (w4.alloc (.cells #[.int .u64 (U (mtr k x))] 46)).cell? ⟨w4.heap.size, 0, none⟩ = some (.int .u64 (U (mtr k x))) := (cell_new_l w4 _ _).1
  have hB5 : Below w.heap.size w (w4.alloc (.cells #[.int .u64 (U (mtr k x))] 46)) := (hB3.trans (Below.mono hg4 (by omega))).alloc (by omega) _
  have hsz5 : (w4.alloc (.cells #[.int .u64 (U (mtr k x))] 46)).heap.size = w4.heap.size + 1 := by simp
  generalize w4.alloc (.cells #[.int .u64 (U (mtr k x))] 46) = w5 at hV4 hcB hB5 hsz5 ⊢
  generalize w4.heap.size = Bn at hV4 hcB hsz5 hs4 ⊢
  clear hm hg4 hB3 hsz3
  refine wpIn_rangeFunc_ownF rfl (by omega) (gf := 45) (lb := #[.pointer (some ⟨Bn, 0, none⟩)]) rfl trivial (enters_of Tryd.func45 (by kernel_rfl) rfl)
    (sub_stops _ (by omega) Bn (fun A B => Below w.heap.size A B ∧ B.heap[Bn]? = A.heap[Bn]?) (mtr k x) (fun A B h hc => (World.cell?_of_block h.2).trans hc) w5 (by omega) hcB)
    (fun h h' => ⟨h.1.trans h'.1, h'.2.trans h.2⟩) (fun W l o o' hl h hc hw => ⟨belowK_b (w := w5) (by omega) W l o o' hl h hc hw, (grownBy_putObj' W l o').block Bn (by have := (Array.getElem?_eq_some_iff.1 h).1; omega) (fun e => by cases e; omega)⟩) (Below.refl _ _) (fun _ => rfl)
    (fun pre W => (∃ v, Vj k x w.heap.size w5.heap.size (vwsL k x pre) v W) ∧ Below w.heap.size w W ∧ w5.heap.size ≤ W.heap.size)
    (fun _ _ _ => False)
    (OwnFrom.and (Own.from (fun s A B row hs hg hr => by obtain ⟨v, hv⟩ := hs; exact ⟨v, hv.kept hg hr⟩) _) (OwnFrom.and (ownFrom_below (Nat.le_refl _) (by omega)) (fun s A B row hs hg hr => Nat.le_trans hs hg.size)))
    (fun _ _ _ _ _ hs _ _ => hs)
    ⟨⟨_, by rw [hsz5]; exact hV4⟩, hB5, Nat.le_refl _⟩
    (fun t => { tmps := #[.int .i64 (k : Int), .int .i64 (x : Int), .pointer (some ⟨w.heap.size, 0, none⟩), .pointer (some ⟨w.heap.size + 1, 0, none⟩), .slice none 0 0, .pointer (some ⟨w.heap.size + 1 + 1, 0, none⟩), .int .u64 (U t), .int .i64 (k : Int), .int .i64 (x : Int), .int .u64 (U (mtr k x)), .func (.func 45) #[] #[.pointer (some ⟨Bn, 0, none⟩)], .int .u64 (U t), undef, undef, undef, undef, undef, undef, undef, undef, undef, undef], defers := [] }) ?assign ?body ?done ?stop
  case assign =>
    intro l y W K hK
    gi_wp2
    simpa using hK
  case body =>
    rintro l pre t W ⟨⟨v, hV⟩, hB, hsW⟩ hlt
    have hln : (vwsL k x pre).length < 4096 := by
      have := subs_len k x hk hx
      unfold vwsL; rw [List.length_map]; omega
    have hrch : Hid (∀ W : World, Calls Tryd.prog 19 #[.int .i64 (k : Int), .int .i64 (x : Int), .int .u64 (U t)] W fun e w' => e = .returned (.int .u64 (U (reachB k x t))) ∧ w' = W) := hide (fun W => reach_bits k x hk hx _ W)
    have l1 : W.drew.cell? ⟨w.heap.size + 1 + 1, 0, none⟩ = some v := hV.box.cell
    have l4 : (W.alloc (.cells #[.int .u64 (U t), .int .u64 (U (reachB k x t))] 68)).cell? ⟨w.heap.size + 1 + 1, 0, none⟩ = some v := (hV.box.alloc _).cell
    have l3 : (W.drew.alloc (.cells #[.int .u64 (U t), .int .u64 (U (reachB k x t))] 68)).cell? ⟨w.heap.size + 1 + 1, 0, none⟩ = some v := (hV.box.alloc (W := W.drew) _).cell
    have hS7 : Hid (VS k x w.heap.size (W.drew.alloc (.cells #[.int .u64 (U t), .int .u64 (U (reachB k x t))] 68))) := hide ⟨(World.cell?_of_block (blk_old W.drew _ _ (show w.heap.size < W.heap.size by omega))).trans hV.kc, (World.cell?_of_block (blk_old W.drew _ _ (show w.heap.size + 1 < W.heap.size by omega))).trans hV.xc⟩
    have hown7 : Hid ((W.drew.alloc (.cells #[.int .u64 (U t), .int .u64 (U (reachB k x t))] 68)).ownsRow w5.heap.size 68 2 v (vwsL k x pre).length (vflat (vwsL k x pre))) := hide ((hV.own.drew).alloc _)
    have hrow7 : Hid (∀ j u, [Value.int .u64 (U t), .int .u64 (U (reachB k x t))][j]? = some u → (W.drew.alloc (.cells #[.int .u64 (U t), .int .u64 (U (reachB k x t))] 68)).cell? ((⟨W.heap.size, 0, none⟩ : Addr).add j) = some u) := hide (two_new W.drew _ _ _)
    have hmax : Hid ((vwsL k x pre).length + 1 ≤ maxLen) := hide (by unfold maxLen; omega)
    have hbyt : Hid (((vwsL k x pre).length + 1) * 16 ≤ 140737488355328) := hide (by omega)
    have hbas : Hid (w5.heap.size ≤ (W.drew.alloc (.cells #[.int .u64 (U t), .int .u64 (U (reachB k x t))] 68)).heap.size) := hide (by rw [World.size_alloc]; show w5.heap.size ≤ W.heap.size + 1; omega)
    have hb0 : Hid (w.heap.size + 1 + 1 < Bn) := hide (by omega)
    have hb1 : Hid (Bn < w5.heap.size) := hide (by omega)
    have hb2 : Hid (w5.heap.size ≤ W.heap.size) := hide hsW
    have hb3 : Hid (w.heap.size + 1 + 1 < w5.heap.size) := hide (by omega)
    gi_wp2
    refine region_in_round (S := VS k x w.heap.size) (by kernel_rfl) (fun ⟨_, _, h⟩ => h) (by kernel_rfl) ⟨hV.kc, hV.xc⟩ (fun hHeld => ?_)
    refine wpAnyH_take (i := 1) (v := .int .u64 (U t)) rfl (by kernel_rfl) (by kernel_rfl) (by kernel_rfl) (fun _ _ _ h => h) (Or.inl ⟨by rfl, fun W' hS => ?_⟩) hHeld ?_
    · obtain ⟨q1, q2⟩ := hS
      clear hHeld
      go_simp
    simp only [Act.put, List.getElem_toArray, List.getElem_cons_zero, List.getElem_cons_succ, List.setIfInBounds_toArray, List.set_cons_zero, List.set_cons_succ]
    refine wpAnyH_take (i := 2) (v := .int .i64 (k : Int)) rfl (by kernel_rfl) (by kernel_rfl) (by kernel_rfl) (fun _ _ _ h => h) (Or.inl ⟨by rfl, fun W' hS => ?_⟩) hHeld ?_
    · obtain ⟨q1, q2⟩ := hS
      clear hHeld
      go_simp
    simp only [Act.put, List.getElem_toArray, List.getElem_cons_zero, List.getElem_cons_succ, List.setIfInBounds_toArray, List.set_cons_zero, List.set_cons_succ]
    refine wpAnyH_take (i := 3) (v := .int .i64 (x : Int)) rfl (by kernel_rfl) (by kernel_rfl) (by kernel_rfl) (fun _ _ _ h => h) (Or.inl ⟨by rfl, fun W' hS => ?_⟩) hHeld ?_
    · obtain ⟨q1, q2⟩ := hS
      clear hHeld
      go_simp
    simp only [Act.put, List.getElem_toArray, List.getElem_cons_zero, List.getElem_cons_succ, List.setIfInBounds_toArray, List.set_cons_zero, List.set_cons_succ]
    refine wpAnyH_take (i := 4) (v := .int .u64 (U t)) rfl (by kernel_rfl) (by kernel_rfl) (by kernel_rfl) (fun _ _ _ h => h) (Or.inl ⟨by rfl, fun W' hS => ?_⟩) hHeld ?_
    · obtain ⟨q1, q2⟩ := hS
      clear hHeld
      go_simp
    simp only [Act.put, List.getElem_toArray, List.getElem_cons_zero, List.getElem_cons_succ, List.setIfInBounds_toArray, List.set_cons_zero, List.set_cons_succ]
    refine wpAnyH_ready (rs := [0, 5]) (by kernel_rfl) (by simp) ?_
    refine AllReadyH.cons rfl (fun K hK => ?_) (AllReadyH.cons rfl (fun K hK => ?_) AllReadyH.nil)
    · go_simp
      refine hK.out _ _ hHeld (fun hHeld => ?_)
      clear hK K
      try simp only [Act.put, List.getElem_toArray, List.getElem_cons_zero, List.getElem_cons_succ, List.setIfInBounds_toArray, List.set_cons_zero, List.set_cons_succ]
      refine wpAnyH_ready (rs := [5]) (by kernel_rfl) (by simp) ?_
      refine AllReadyH.cons rfl (fun K hK => ?_) AllReadyH.nil
      go_simp
      refine (unhide hrch _).mono ?_
      rintro e w6 ⟨rfl, rfl⟩
      refine hK.out _ _ hHeld (fun hHeld => ?_)
      clear hK K
      try simp only [Act.put, List.getElem_toArray, List.getElem_cons_zero, List.getElem_cons_succ, List.setIfInBounds_toArray, List.set_cons_zero, List.set_cons_succ]
      refine wpAnyH_take (i := 6) (v := .agg #[.int .u64 (U t), .int .u64 (U (reachB k x t))]) rfl (by kernel_rfl) (by kernel_rfl) (by kernel_rfl) (fun _ _ _ h => h) (Or.inl ⟨by rfl, fun W' hS => ?_⟩) hHeld ?_
      · obtain ⟨q1, q2⟩ := hS
        clear hHeld
        go_simp
      simp only [Act.put, List.getElem_toArray, List.getElem_cons_zero, List.getElem_cons_succ, List.setIfInBounds_toArray, List.set_cons_zero, List.set_cons_succ]
      refine wpAnyH_ready (rs := [7]) (by kernel_rfl) (by simp) ?_
      refine AllReadyH.cons rfl (fun K hK => ?_) AllReadyH.nil
      go_simp
      refine hK.out _ _ ⟨(unhide hS7).1, (unhide hS7).2⟩ (fun hHeld => ?_)
      clear hK K
      try simp only [Act.put, List.getElem_toArray, List.getElem_cons_zero, List.getElem_cons_succ, List.setIfInBounds_toArray, List.set_cons_zero, List.set_cons_succ]
      refine wpAnyH_ready (rs := [8]) (by kernel_rfl) (by simp) ?_
      refine AllReadyH.cons rfl (fun K hK => ?_) AllReadyH.nil
      rw [if_pos (by rfl)]
      refine wp_append_own _ (.tmp 12) (.tmp 19) 49 rfl w5.heap.size 68 i0 (.agg #[.int .u64 0, .int .u64 0]) 2 16 Tryd.underlying49 (unhide hi') hz0 hz1 hz2 rfl (by decide) v (vwsL k x pre).length (vflat (vwsL k x pre)) rfl (unhide hown7) ⟨W.heap.size, 0, none⟩ 1 1 [.int .u64 (U t), .int .u64 (U (reachB k x t))] rfl rfl (unhide hrow7) (by simp [Value.oneCell']) (unhide hmax) (unhide hbyt) (unhide hbas) ?_
      intro v' W2 hown' hgrow _
      obtain ⟨g', cap', hv'⟩ := ownsRow_succ hown'
      have hrd := views_round hV (unhide hb0) (unhide hb1) (unhide hb2) hown' hgrow
      have hS8 := hide (views_held hV (unhide hb3) (unhide hb2) hgrow)
      have hlb := hide (views_box hV (unhide hb3) (unhide hb2) hgrow)
      refine hK.out _ _ ⟨(unhide hS8).1, (unhide hS8).2⟩ (fun hHeld => ?_)
      clear hK K
      try simp only [Act.put, List.getElem_toArray, List.getElem_cons_zero, List.getElem_cons_succ, List.setIfInBounds_toArray, List.set_cons_zero, List.set_cons_succ]
      subst hv'
      have l1 := (unhide hlb).cell
      have l2 := (unhide hlb).frozen
      refine wpAnyH_ready (rs := [9]) (by kernel_rfl) (by simp) ?_
      refine AllReadyH.cons rfl (fun K hK => ?_) AllReadyH.nil
      go_simp
      refine hK.out _ _ (views_held9 hrd.2.2) (fun hHeld => ?_)
      clear hK K
      refine wpAnyH_done (by kernel_rfl) ?_ _
      exact ⟨hrd.1, ⟨hrd.2.1.1, hrd.2.1.2⟩, ⟨_, by rw [vws_snoc]; exact hrd.2.2⟩, hB.trans hrd.2.1.1, Nat.le_trans (unhide hb2) hrd.1.size⟩
    · go_simp
      refine (unhide hrch _).mono ?_
      rintro e w6 ⟨rfl, rfl⟩
      refine hK.out _ _ hHeld (fun hHeld => ?_)
      clear hK K
      try simp only [Act.put, List.getElem_toArray, List.getElem_cons_zero, List.getElem_cons_succ, List.setIfInBounds_toArray, List.set_cons_zero, List.set_cons_succ]
      refine wpAnyH_take (i := 6) (v := .agg #[.int .u64 (U t), .int .u64 (U (reachB k x t))]) rfl (by kernel_rfl) (by kernel_rfl) (by kernel_rfl) (fun _ _ _ h => h) (Or.inl ⟨by rfl, fun W' hS => ?_⟩) hHeld ?_
      · obtain ⟨q1, q2⟩ := hS
        clear hHeld
        go_simp
      simp only [Act.put, List.getElem_toArray, List.getElem_cons_zero, List.getElem_cons_succ, List.setIfInBounds_toArray, List.set_cons_zero, List.set_cons_succ]
      refine wpAnyH_ready (rs := [0, 7]) (by kernel_rfl) (by simp) ?_
      refine AllReadyH.cons rfl (fun K hK => ?_) (AllReadyH.cons rfl (fun K hK => ?_) AllReadyH.nil)
      · go_simp
        refine hK.out _ _ hHeld (fun hHeld => ?_)
        clear hK K
        try simp only [Act.put, List.getElem_toArray, List.getElem_cons_zero, List.getElem_cons_succ, List.setIfInBounds_toArray, List.set_cons_zero, List.set_cons_succ]
        refine wpAnyH_ready (rs := [7]) (by kernel_rfl) (by simp) ?_
        refine AllReadyH.cons rfl (fun K hK => ?_) AllReadyH.nil
        go_simp
        refine hK.out _ _ ⟨(unhide hS7).1, (unhide hS7).2⟩ (fun hHeld => ?_)
        clear hK K
        try simp only [Act.put, List.getElem_toArray, List.getElem_cons_zero, List.getElem_cons_succ, List.setIfInBounds_toArray, List.set_cons_zero, List.set_cons_succ]
        refine wpAnyH_ready (rs := [8]) (by kernel_rfl) (by simp) ?_
        refine AllReadyH.cons rfl (fun K hK => ?_) AllReadyH.nil
        rw [if_pos (by rfl)]
        refine wp_append_own _ (.tmp 12) (.tmp 19) 49 rfl w5.heap.size 68 i0 (.agg #[.int .u64 0, .int .u64 0]) 2 16 Tryd.underlying49 (unhide hi') hz0 hz1 hz2 rfl (by decide) v (vwsL k x pre).length (vflat (vwsL k x pre)) rfl (unhide hown7) ⟨W.heap.size, 0, none⟩ 1 1 [.int .u64 (U t), .int .u64 (U (reachB k x t))] rfl rfl (unhide hrow7) (by simp [Value.oneCell']) (unhide hmax) (unhide hbyt) (unhide hbas) ?_
        intro v' W2 hown' hgrow _
        obtain ⟨g', cap', hv'⟩ := ownsRow_succ hown'
        have hrd := views_round hV (unhide hb0) (unhide hb1) (unhide hb2) hown' hgrow
        have hS8 := hide (views_held hV (unhide hb3) (unhide hb2) hgrow)
        have hlb := hide (views_box hV (unhide hb3) (unhide hb2) hgrow)
        refine hK.out _ _ ⟨(unhide hS8).1, (unhide hS8).2⟩ (fun hHeld => ?_)
        clear hK K
        try simp only [Act.put, List.getElem_toArray, List.getElem_cons_zero, List.getElem_cons_succ, List.setIfInBounds_toArray, List.set_cons_zero, List.set_cons_succ]
        subst hv'
        have l1 := (unhide hlb).cell
        have l2 := (unhide hlb).frozen
        refine wpAnyH_ready (rs := [9]) (by kernel_rfl) (by simp) ?_
        refine AllReadyH.cons rfl (fun K hK => ?_) AllReadyH.nil
        go_simp
        refine hK.out _ _ (views_held9 hrd.2.2) (fun hHeld => ?_)
        clear hK K
        refine wpAnyH_done (by kernel_rfl) ?_ _
        exact ⟨hrd.1, ⟨hrd.2.1.1, hrd.2.1.2⟩, ⟨_, by rw [vws_snoc]; exact hrd.2.2⟩, hB.trans hrd.2.1.1, Nat.le_trans (unhide hb2) hrd.1.size⟩
      · go_simp
        refine hK.out _ _ ⟨(unhide hS7).1, (unhide hS7).2⟩ (fun hHeld => ?_)
        clear hK K
        try simp only [Act.put, List.getElem_toArray, List.getElem_cons_zero, List.getElem_cons_succ, List.setIfInBounds_toArray, List.set_cons_zero, List.set_cons_succ]
        refine wpAnyH_ready (rs := [0]) (by kernel_rfl) (by simp) ?_
        refine AllReadyH.cons rfl (fun K hK => ?_) AllReadyH.nil
        go_simp
        refine hK.out _ _ hHeld (fun hHeld => ?_)
        clear hK K
        try simp only [Act.put, List.getElem_toArray, List.getElem_cons_zero, List.getElem_cons_succ, List.setIfInBounds_toArray, List.set_cons_zero, List.set_cons_succ]
        refine wpAnyH_ready (rs := [8]) (by kernel_rfl) (by simp) ?_
        refine AllReadyH.cons rfl (fun K hK => ?_) AllReadyH.nil
        rw [if_pos (by rfl)]
        refine wp_append_own _ (.tmp 12) (.tmp 19) 49 rfl w5.heap.size 68 i0 (.agg #[.int .u64 0, .int .u64 0]) 2 16 Tryd.underlying49 (unhide hi') hz0 hz1 hz2 rfl (by decide) v (vwsL k x pre).length (vflat (vwsL k x pre)) rfl (unhide hown7) ⟨W.heap.size, 0, none⟩ 1 1 [.int .u64 (U t), .int .u64 (U (reachB k x t))] rfl rfl (unhide hrow7) (by simp [Value.oneCell']) (unhide hmax) (unhide hbyt) (unhide hbas) ?_
        intro v' W2 hown' hgrow _
        obtain ⟨g', cap', hv'⟩ := ownsRow_succ hown'
        have hrd := views_round hV (unhide hb0) (unhide hb1) (unhide hb2) hown' hgrow
        have hS8 := hide (views_held hV (unhide hb3) (unhide hb2) hgrow)
        have hlb := hide (views_box hV (unhide hb3) (unhide hb2) hgrow)
        refine hK.out _ _ ⟨(unhide hS8).1, (unhide hS8).2⟩ (fun hHeld => ?_)
        clear hK K
        try simp only [Act.put, List.getElem_toArray, List.getElem_cons_zero, List.getElem_cons_succ, List.setIfInBounds_toArray, List.set_cons_zero, List.set_cons_succ]
        subst hv'
        have l1 := (unhide hlb).cell
        have l2 := (unhide hlb).frozen
        refine wpAnyH_ready (rs := [9]) (by kernel_rfl) (by simp) ?_
        refine AllReadyH.cons rfl (fun K hK => ?_) AllReadyH.nil
        go_simp
        refine hK.out _ _ (views_held9 hrd.2.2) (fun hHeld => ?_)
        clear hK K
        refine wpAnyH_done (by kernel_rfl) ?_ _
        exact ⟨hrd.1, ⟨hrd.2.1.1, hrd.2.1.2⟩, ⟨_, by rw [vws_snoc]; exact hrd.2.2⟩, hB.trans hrd.2.1.1, Nat.le_trans (unhide hb2) hrd.1.size⟩
  case done =>
    rintro D ys W hD rfl ⟨⟨v, hV⟩, hB, hsW⟩ hK
    have hac := hV.box.cell
    gi_wp2
    refine ⟨by simp, .inl ⟨_, _, rfl, run_takeDeferred hK, ?_⟩⟩
    refine ⟨_, results_tmp rfl _ _ _, v, rfl, ?_, hB.trans (belowK_b (w := w) (Nat.le_refl _) W D _ _ (by omega) hK rfl rfl)⟩
    exact ownsRow_putObj (hV.own.mono (by omega)) _ hK rfl
  case stop =>
    rintro D c pre W _ _ h _
    exact h.elim

end Go.Proofs.YtnfakamfmkhlbabDoor.C
