import Derived.Test.YtnfakamfmkhlbabDoorMw3
import Derived.Lib.SliceRun
import Derived.WalkKit
import Derived.ProofKit
import Derived.OpenShut
import Derived.Outline
import Derived.WalkLawsBesides
import Derived.LoopTactic
import Derived.Deep.LoopGhost
import Derived.Deep.Cut
import Derived.Laws.Rows
import Derived.Deep.Draws
import Derived.Deep.QuietTactic
import Derived.BigQuiet
namespace Go.Proofs.YtnfakamfmkhlbabDoor.C
open Go.ChangeShapes Go.WideShapes Go.ChangeAt Go.RowKit Go.Shelf
open Go.Proofs.YtnfakamfmkhlbabDoor.P
theorem setCell_drewN (w : World) (n : Nat) (a : Addr) (v : Value) : (w.drewN n).setCell a v = (w.setCell a v).drewN n := rfl
theorem alloc_drewN (w : World) (n : Nat) (o : Obj) : (w.drewN n).alloc o = (w.alloc o).drewN n := rfl
theorem Gr.drewN {a b : World} (h : Gr a b) (n : Nat) : Gr a (b.drewN n) := Below.trans h ⟨rfl, rfl, rfl, Nat.le_refl _, fun _ _ => rfl⟩
attribute [local go_sem] setCell_drewN alloc_drewN

def Tbl (tb n : Nat) (T : Nat → BitVec 64) (W : World) : Prop := ∀ i, i < n → W.cell? ⟨tb, i, none⟩ = some (.int .u64 (U (T i))) ∧ W.frozen? ⟨tb, i, none⟩ = false
def Lst (g : Nat) (l : List (BitVec 64 × BitVec 64)) (W : World) : Prop := ∀ (i : Nat) (h : i < l.length), W.cell? ⟨g, i * 2, none⟩ = some (.int .u64 (U l[i].1)) ∧ W.cell? ⟨g, i * 2 + 1, none⟩ = some (.int .u64 (U l[i].2))
/-- only the table has turned. -/
structure Ft (w : World) (tb : Nat) (W : World) : Prop where
  size : w.heap.size ≤ W.heap.size
  far : ∀ j, j < w.heap.size → j ≠ tb → W.heap[j]? = w.heap[j]?
  low : ∀ n₀, n₀ ≤ tb → n₀ ≤ w.heap.size → Below n₀ w W
theorem Ft.refl (w : World) (tb : Nat) : Ft w tb w := ⟨Nat.le_refl _, fun _ _ _ => rfl, fun _ _ _ => Below.refl _ _⟩
theorem Ft.lst {w W : World} {tb g : Nat} {l : List (BitVec 64 × BitVec 64)} (h : Ft w tb W) (hl : Lst g l w) (hg : g < w.heap.size) (hne : g ≠ tb) : Lst g l W := fun i hi =>
  ⟨(World.cell?_of_block (h.far g hg hne)).trans (hl i hi).1, (World.cell?_of_block (h.far g hg hne)).trans (hl i hi).2⟩
theorem Ft.alloc {w W : World} {tb : Nat} (h : Ft w tb W) (o : Obj) : Ft w tb (W.alloc o) :=
  ⟨by rw [World.size_alloc]; have := h.size; omega, fun j hj hne => by rw [blk_old W o j (by have := h.size; omega)]; exact h.far j hj hne, fun n h1 h2 => (h.low n h1 h2).alloc (by have := h.size; omega) o⟩
theorem Ft.drew {w W : World} {tb : Nat} (h : Ft w tb W) : Ft w tb W.drew := ⟨h.size, h.far, fun n h1 h2 => (h.low n h1 h2).drew⟩
theorem Ft.put {w W : World} {tb i : Nat} {v : Value} (h : Ft w tb W) : Ft w tb (W.setCell ⟨tb, i, none⟩ v) :=
  ⟨by rw [World.size_setCell]; exact h.size, fun j hj hne => (Below.heap_setCell W ⟨tb, i, none⟩ v j hne).trans (h.far j hj hne), fun n h1 h2 => (h.low n h1 h2).setCell (p := ⟨tb, i, none⟩) h1 v⟩
theorem setCells_size (b : Nat) : ∀ (vs : List Value) (o : Nat) (w : World), (w.setCells b o vs).heap.size = w.heap.size
  | [], _, _ => rfl
  | v :: r, o, w => by
      show ((w.setCell ⟨b, o, none⟩ v).setCells b (o + 1) r).heap.size = _
      rw [setCells_size b r, World.size_setCell]
theorem setCells_far (b j : Nat) (hne : j ≠ b) : ∀ (vs : List Value) (o : Nat) (w : World), (w.setCells b o vs).heap[j]? = w.heap[j]?
  | [], _, _ => rfl
  | v :: r, o, w => by
      show ((w.setCell ⟨b, o, none⟩ v).setCells b (o + 1) r).heap[j]? = _
      rw [setCells_far b j hne r]; exact Below.heap_setCell w ⟨b, o, none⟩ v j hne
theorem setCells_low {B b : Nat} {a : World} (hb : B ≤ b) : ∀ (vs : List Value) (o : Nat) (w : World), Below B a w → Below B a (w.setCells b o vs)
  | [], _, _, h => h
  | v :: r, o, _, h => setCells_low hb r (o + 1) _ (h.setCell (p := ⟨b, o, none⟩) hb v)
theorem Ft.clear {w W : World} {tb : Nat} (h : Ft w tb W) (vs : List Value) : Ft w tb (W.setCells tb 0 vs) :=
  ⟨by rw [setCells_size]; exact h.size, fun j hj hne => by rw [setCells_far tb j hne]; exact h.far j hj hne, fun n h1 h2 => setCells_low h1 vs 0 W (h.low n h1 h2)⟩

theorem Tbl.far {tb n : Nat} {T : Nat → BitVec 64} {W W' : World} (h : Tbl tb n T W) (e : W'.heap[tb]? = W.heap[tb]?) : Tbl tb n T W' := fun i hi => ⟨(World.cell?_of_block e).trans (h i hi).1, (World.frozen?_of_block e).trans (h i hi).2⟩
theorem Tbl.put {tb n p : Nat} {T : Nat → BitVec 64} {W : World} (h : Tbl tb n T W) (hp : p < n) (r : BitVec 64) : Tbl tb n (upd T p r) (W.setCell ⟨tb, p, none⟩ (.int .u64 (U r))) := fun i hi => by
  refine ⟨?_, by rw [World.frozen?_setCell]; exact (h i hi).2⟩
  unfold upd
  by_cases e : i = p
  · subst e; rw [if_pos rfl]; exact World.cell?_setCell_same' W _ _ (by rw [(h i hi).1]; rfl)
  · rw [if_neg e, World.cell?_setCell_other W _ _ _ (fun h => by cases h; exact e rfl)]
    exact (h i hi).1
theorem zero_u64 (w : World) : (zeroValue 46).run Tryd.prog w = .ok (.int .u64 0) w := by kernel_rfl
theorem Tbl.cleared {tb n : Nat} {T : Nat → BitVec 64} {W : World} (h : Tbl tb n T W) : Tbl tb n (fun _ => 0#64) (W.setCells tb 0 (List.replicate n (.int .u64 0))) := fun i hi => by
  refine ⟨?_, by rw [World.frozen?_setCells]; exact (h i hi).2⟩
  have := World.cell?_setCells_in tb (List.replicate n (.int .u64 0)) 0 W (fun j hj => by rw [Nat.zero_add, (h j (by simpa using hj)).1]; rfl) i (by simpa using hi)
  rw [Nat.zero_add] at this
  rw [this, List.getElem_replicate, U_zero]

theorem place_is (f t : BitVec 64) (b : Nat) : IntKind.u64.wrap (U t * U f) / 2 ^ (64 - b) = ((plc f b t : Nat) : Int) := by
  rw [mul_U, show (2 : Int) ^ (64 - b) = ((2 ^ (64 - b) : Nat) : Int) from (by rw [Int.natCast_pow]; rfl), shr_U]
  rfl
theorem U_ne {a b : BitVec 64} (h : a ≠ b) : (U a != U b) = true := by
  simp only [bne_iff_ne]; intro e; exact h (U_inj e)
theorem view_cells (W : World) (a c : Value) (ty : TypeId) : (W.alloc (.cells #[a, c] ty)).cell? ⟨W.heap.size, 0, none⟩ = some a ∧ (W.alloc (.cells #[a, c] ty)).cell? ⟨W.heap.size, 1, none⟩ = some c := by
  have hh : (W.alloc (.cells #[a, c] ty)).heap[W.heap.size]? = some (.cells #[a, c] ty (0, 0)) := World.alloc_heap_new W _
  constructor
  · simp only [World.cell?]; rw [hh]; rfl
  · simp only [World.cell?]; rw [hh]; rfl
theorem Ft.drewN {w W : World} {tb n : Nat} (h : Ft w tb W) : Ft w tb (W.drewN n) := ⟨h.size, h.far, fun m h1 h2 => by obtain ⟨a1, a2, a3, a4, a5⟩ := h.low m h1 h2; exact ⟨a1, a2, a3, a4, a5⟩⟩

set_option maxRecDepth 100000 in
set_option maxHeartbeats 8000000 in
theorem fits_any (l : List (BitVec 64 × BitVec 64)) (hl : l.length ≤ 4096) (g cap : Nat) (f : BitVec 64) (tb b : Nat) (hb1 : 1 ≤ b) (hb2 : b ≤ 12) (T : Nat → BitVec 64) (w : World) (hg : g < w.heap.size) (htb : tb < w.heap.size) (hne : g ≠ tb) (hL : Lst g l w) (hT : Tbl tb (2 ^ b) T w) :
    Calls Tryd.prog 20 #[.slice (some ⟨g, 0, none⟩) l.length cap, .int .u64 (U f), .slice (some ⟨tb, 0, none⟩) (2 ^ b) (2 ^ b), .int .i64 (b : Int)] w fun e w' => e = .returned (.bool (fits l f b)) ∧ Ft w tb w' ∧ ∃ T', Tbl tb (2 ^ b) T' w' := by
  have hpw : 0 < 2 ^ b := Nat.two_pow_pos b
  have hpw2 : 2 ^ b ≤ 4096 := Nat.pow_le_pow_right (by decide) hb2
  have hclr := hide (Lib.run_clear_slice (P := Tryd.prog) w 51 46 0 (.int .u64 0) Tryd.underlying51 zero_u64 rfl rfl tb 0 (2 ^ b) (2 ^ b) hpw (fun j hj => by rw [Nat.zero_add, (hT j hj).1]; rfl) (fun j hj => by rw [Nat.zero_add]; exact (hT j hj).2))
  have hT0 := hide hT.cleared
  have hF0 := hide ((Ft.refl w tb).clear (List.replicate (2 ^ b) (.int .u64 0)))
  generalize hw1 : w.setCells tb 0 (List.replicate (2 ^ b) (.int .u64 0)) = w1 at hclr hT0 hF0
  clear hw1 hT
  have hclr' := unhide hclr
  go_enter Tryd.func20, Tryd.ntmps20
  go_wp2
  go_loopg [15] l.length (fun gm i wr => ∃ j : Nat, j + gm = l.length ∧ i = .int .i64 j ∧ Ft w tb wr ∧ ∃ T, Tbl tb (2 ^ b) T wr ∧ fitsT f b T (l.drop j) = fits l f b)
  case atStart => exact ⟨0, by omega, rfl, unhide hF0, fun _ => 0#64, unhide hT0, rfl⟩
  case round =>
    clear hF0 hT0 hclr hclr'
    obtain ⟨j, j1, rfl, hF, T, hT, hfit⟩ := hrel
    by_cases hlt : j < l.length
    · have hLw := hF.lst hL hg hne
      have c1 := (hLw j hlt).1
      have c2 := (hLw j hlt).2
      have hdr : l.drop j = l[j] :: l.drop (j + 1) := List.drop_eq_getElem_cons hlt
      have hfit' := hide hfit
      have hdr' := hide hdr
      have hT' := hide hT
      have hF' := hide hF
      have hLw' := hide hLw
      clear hdr hfit hT hF hLw
      generalize hlj : l[j] = lj at c1 c2 hdr'
      obtain ⟨t, r⟩ := lj
      clear hlj
      simp only at c1 c2
      go_upto_region 6 with fail
      rw [place_is]
      have hp : plc f b t < 2 ^ b := plc_lt f b hb1 (by omega) t
      have hca : Hid (clash T (plc f b t) r = true → fits l f b = false) := hide (fun h => by
        rw [← unhide hfit', unhide hdr', fitsT, if_pos h])
      have hcb : Hid (clash T (plc f b t) r = false → fitsT f b (upd T (plc f b t) r) (l.drop (j + 1)) = fits l f b) := hide (fun h => by
        rw [← unhide hfit', unhide hdr', fitsT, if_neg (by rw [h]; decide)])
      have hva := view_cells wr (.int .u64 (U t)) (.int .u64 (U r)) 68
      have htl : tb < wr.heap.size := by have := (unhide hF').size; omega
      have hTa := hide ((unhide hT').far (blk_old wr (.cells #[.int .u64 (U t), .int .u64 (U r)] 68) tb htl))
      have hFa := hide ((unhide hF').alloc (.cells #[.int .u64 (U t), .int .u64 (U r)] 68))
      generalize plc f b t = p at hp hca hcb ⊢
      have ht := (unhide hTa p hp).1
      have hf := (unhide hTa p hp).2
      have v0 := hva.1
      have v1 := hva.2
      generalize wr.alloc (.cells #[.int .u64 (U t), .int .u64 (U r)] 68) = wa at hTa hFa ht hf v0 v1 ⊢
      clear hva hT' hF' hLw' hdr' hfit' c1 c2
      have hp4 : p < 4096 := by omega
      by_cases hz : T p = 0#64
      · have h0 : (U (T p) != 0) = false := by rw [hz]; decide +kernel
        have hnx := hide (unhide hcb (by unfold clash; simp [hz]))
        clear hca hcb hz
        go_quiet (fail)
        go_wp2_with fail
        go_roundg (gk - 1)
        case measure => omega
        case rel => exact ⟨j + 1, by omega, rfl, (unhide hFa).put.drewN, upd T p r, (((unhide hTa).put hp r).far rfl), unhide hnx⟩
      · by_cases he : T p = r
        · have h0 : (U (T p) != 0) = true := by rw [U_zero]; exact U_ne hz
          have h1 : (U (T p) != U r) = false := by rw [he]; simp
          have hnx := hide (unhide hcb (by unfold clash; simp [he]))
          clear hca hcb hz he
          go_quiet (fail)
          go_wp2_with fail
          go_roundg (gk - 1)
          case measure => omega
          case rel => exact ⟨j + 1, by omega, rfl, (unhide hFa).put.drewN, upd T p r, (((unhide hTa).put hp r).far rfl), unhide hnx⟩
        · have h0 : (U (T p) != 0) = true := by rw [U_zero]; exact U_ne hz
          have h1 : (U (T p) != U r) = true := U_ne he
          have hno := hide (unhide hca (by unfold clash; simp [hz, he]))
          clear hca hcb hz he
          go_quiet (fail)
          go_wp2_with fail
          go_ret
          exact ⟨by rw [unhide hno]; rfl, (unhide hFa).drewN, T, (unhide hTa).far rfl⟩
    · have ej : j = l.length := by omega
      have hend : Hid (fits l f b = true) := hide (by rw [← hfit, ej, List.drop_length]; rfl)
      have hT' := hide hT
      have hF' := hide hF
      clear hfit hT hF
      subst ej
      go_wp2_with fail
      go_ret
      exact ⟨by rw [unhide hend]; rfl, unhide hF', T, unhide hT'⟩

end Go.Proofs.YtnfakamfmkhlbabDoor.C
