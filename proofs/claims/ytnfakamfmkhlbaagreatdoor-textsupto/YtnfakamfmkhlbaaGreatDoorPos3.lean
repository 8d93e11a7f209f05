import Derived.Test.YtnfakamfmkhlbaaGreatDoorPos2
namespace Go.Proofs.YtnfakamfmkhlbaaGreatDoor.C
open Go.ChangeShapes Go.WideShapes Go.ChangeAt Go.RowKit
open Go.Proofs.YtnfakamfmkhlbaaGreatDoor.P
attribute [local go_sem] setCell_drewN alloc_drewN

def TabIn (w : World) : Prop := BTab w ∧ 2 < w.heap.size
theorem TabIn.gr {w w' : World} (h : TabIn w) (g : Gr w w') : TabIn w' := ⟨h.1.below g.below h.2, Nat.lt_of_lt_of_le h.2 (Below.size g)⟩
def Sx (w1 : World) (b : Nat) (M : Array Value) (w : World) : Prop := St w1 b M w ∧ TabIn w
theorem Sx.gr {w1 w w' : World} {b : Nat} {M : Array Value} (h : Sx w1 b M w) (g : Gr w w') : Sx w1 b M w' := ⟨h.1.gr g, h.2.gr g⟩
theorem Sx.held {w1 w : World} {b : Nat} {M : Array Value} (h : Sx w1 b M w) : HeldAt b M w := h.1.1
theorem Sx.tab {w1 w : World} {b : Nat} {M : Array Value} (h : Sx w1 b M w) : TabIn w := h.2
theorem Sx.grow {w1 w : World} {b : Nat} {M : Array Value} (h : Sx w1 b M w) : Gr w1 w := h.1.2

theorem wpList_load_men {ops : Array Oper} {rest : List Oper} {o : Oper} {a : Act} {w : World} {M : Array Value} {Q : Exit → Act → World → Prop} (hw : Region.wanted o (yielded ops a.tmps) = true) (x : Operand) (ho : o.op = .load 151 x) (b : Nat) (hx : a.eval x = .pointer (some ⟨b, 0, none⟩)) (hh : HeldAt b M w)
    (h : wpList Tryz.prog ops Q rest (a.put o.dst (.agg M)) w) : wpList Tryz.prog ops Q (o :: rest) a w :=
  wpList_step fun K hK => by
    rw [if_pos hw]
    refine wp_load_mid (P := Tryz.prog) 151 x ho b 0 hx M.toList _ hh.2.1 Tryz.underlying151 rfl (by rw [info12]; simp [hh.2.2]) ?_
    rw [Array.toArray_toList]
    exact hK _ _ h

theorem count_new (s : BitVec 64) (w : World) (hT : TabIn w) :
    Calls Tryz.prog 140 #[.func (.func 224) #[] #[.pointer (some ⟨w.heap.size, 0, none⟩)]] (w.alloc (.cells #[.int .u64 (U s)] 149)) fun e w' => e = .returned (.int .i64 (sqs s).length) ∧ Gr w w' := by
  have g : Gr w (w.alloc (.cells #[.int .u64 (U s)] 149)) := (Gr.refl w).alloc _ _
  refine (count_any s w.heap.size _ (by rw [World.size_alloc]; omega) (hT.gr g).2 (by rw [World.cell?_alloc_at _ _ _ _ rfl]; rfl) (hT.gr g).1).mono ?_
  rintro e w' ⟨h1, h2⟩
  exact ⟨h1, Gr.trans g h2⟩

def lastI : Int := 18374686479671623935
def sideOk (m : Nat → BitVec 64) (b : Bool) : Bool := decide (((sqs (m (bg b + 5))).length : Int) = 1) && decide (((sqs (sideB m b)).length : Int) ≤ 16) && decide (bits .and .u64 (U (m (bg b))) 18374686479671623935 = 0)

set_option maxRecDepth 100000 in
set_option maxHeartbeats 4000000 in
theorem sidecan_any (m : Nat → BitVec 64) (M : Array Value) (hM : IsMen m M) (b : Bool) (w : World) (hT : TabIn w) : Calls Tryz.prog 74 #[.agg M, .bool b] w fun e w' => e = .returned (.bool (sideOk m b)) ∧ Gr w w' := by
  have hM' := hide hM
  have hg1 : Hid (Gr w (w.alloc (.cells M 151))) := hide ((Gr.refl w).alloc _ _)
  have hst : Sx w w.heap.size M (w.alloc (.cells M 151)) := ⟨⟨⟨by rw [World.size_alloc]; omega, (by
    intro j v hv
    rw [World.cell?_alloc_at _ _ _ _ rfl, Nat.zero_add, ← Array.getElem?_toList]; exact hv), hM.1⟩, unhide hg1⟩, hT.gr (unhide hg1)⟩
  clear hM hT
  obtain ⟨v, hv⟩ : ∃ v, Hid (sideOk m b = v) := ⟨_, hide rfl⟩
  rw [unhide hv]
  by_cases h0 : ((sqs (m (bg b + 5))).length : Int) = 1
  · by_cases h1 : ((sqs (sideB m b)).length : Int) ≤ 16
    · by_cases h2 : bits .and .u64 (U (m (bg b))) 18374686479671623935 = 0
      · have e : true = v := by rw [← unhide hv]; simp only [sideOk, decide_eq_true h0, decide_eq_true h1, decide_eq_true h2]; rfl
        subst e
        clear hv
        go_enter Tryz.func74, Tryz.ntmps74
        go_wp2_with (first
          | (refine wpList_load_men (by rfl) _ rfl w.heap.size rfl (Sx.held (w1 := w) (by assumption)) ?_)
          | (go_at_call 141; refine (kings_any m M (unhide hM') _ _).mono ?_; rintro e w' ⟨rfl, hg⟩; have hst := Sx.gr (by assumption) hg)
          | (go_at_call 143; refine (mside_any m M (unhide hM') _ _).mono ?_; rintro e w' ⟨rfl, hg⟩; have hst := Sx.gr (by assumption) hg)
          | (go_at_call 144; refine (pawns_any m M (unhide hM') _ _).mono ?_; rintro e w' ⟨rfl, hg⟩; have hst := Sx.gr (by assumption) hg)
          | (go_at_call 142; refine (squares_any _ _).mono ?_; rintro e w' ⟨rfl, rfl⟩)
          | (go_at_call 140; refine (count_new _ _ (Sx.tab (w1 := w) (b := w.heap.size) (M := M) (by assumption))).mono ?_; rintro e w' ⟨rfl, hg⟩; have hst := Sx.gr (by assumption) hg))
        go_ret
        exact ⟨rfl, hst.grow⟩
      · have e : false = v := by rw [← unhide hv]; simp only [sideOk, decide_eq_false h2, Bool.and_false]
        subst e
        clear hv
        have h2b := beq_eq_false_iff_ne.2 h2
        go_enter Tryz.func74, Tryz.ntmps74
        go_wp2_with (first
          | (refine wpList_load_men (by rfl) _ rfl w.heap.size rfl (Sx.held (w1 := w) (by assumption)) ?_)
          | (go_at_call 141; refine (kings_any m M (unhide hM') _ _).mono ?_; rintro e w' ⟨rfl, hg⟩; have hst := Sx.gr (by assumption) hg)
          | (go_at_call 143; refine (mside_any m M (unhide hM') _ _).mono ?_; rintro e w' ⟨rfl, hg⟩; have hst := Sx.gr (by assumption) hg)
          | (go_at_call 144; refine (pawns_any m M (unhide hM') _ _).mono ?_; rintro e w' ⟨rfl, hg⟩; have hst := Sx.gr (by assumption) hg)
          | (go_at_call 142; refine (squares_any _ _).mono ?_; rintro e w' ⟨rfl, rfl⟩)
          | (go_at_call 140; refine (count_new _ _ (Sx.tab (w1 := w) (b := w.heap.size) (M := M) (by assumption))).mono ?_; rintro e w' ⟨rfl, hg⟩; have hst := Sx.gr (by assumption) hg))
        go_ret
        exact ⟨rfl, hst.grow⟩
    · have e : false = v := by rw [← unhide hv]; simp only [sideOk, decide_eq_false h1, Bool.and_false, Bool.false_and]
      subst e
      clear hv
      go_enter Tryz.func74, Tryz.ntmps74
      go_wp2_with (first
        | (refine wpList_load_men (by rfl) _ rfl w.heap.size rfl (Sx.held (w1 := w) (by assumption)) ?_)
        | (go_at_call 141; refine (kings_any m M (unhide hM') _ _).mono ?_; rintro e w' ⟨rfl, hg⟩; have hst := Sx.gr (by assumption) hg)
        | (go_at_call 143; refine (mside_any m M (unhide hM') _ _).mono ?_; rintro e w' ⟨rfl, hg⟩; have hst := Sx.gr (by assumption) hg)
        | (go_at_call 144; refine (pawns_any m M (unhide hM') _ _).mono ?_; rintro e w' ⟨rfl, hg⟩; have hst := Sx.gr (by assumption) hg)
        | (go_at_call 142; refine (squares_any _ _).mono ?_; rintro e w' ⟨rfl, rfl⟩)
        | (go_at_call 140; refine (count_new _ _ (Sx.tab (w1 := w) (b := w.heap.size) (M := M) (by assumption))).mono ?_; rintro e w' ⟨rfl, hg⟩; have hst := Sx.gr (by assumption) hg))
      go_ret
      exact ⟨rfl, hst.grow⟩
  · have e : false = v := by rw [← unhide hv]; simp only [sideOk, decide_eq_false h0, Bool.false_and]
    subst e
    clear hv
    have h0b := beq_eq_false_iff_ne.2 h0
    go_enter Tryz.func74, Tryz.ntmps74
    go_wp2_with (first
      | (refine wpList_load_men (by rfl) _ rfl w.heap.size rfl (Sx.held (w1 := w) (by assumption)) ?_)
      | (go_at_call 141; refine (kings_any m M (unhide hM') _ _).mono ?_; rintro e w' ⟨rfl, hg⟩; have hst := Sx.gr (by assumption) hg)
      | (go_at_call 143; refine (mside_any m M (unhide hM') _ _).mono ?_; rintro e w' ⟨rfl, hg⟩; have hst := Sx.gr (by assumption) hg)
      | (go_at_call 144; refine (pawns_any m M (unhide hM') _ _).mono ?_; rintro e w' ⟨rfl, hg⟩; have hst := Sx.gr (by assumption) hg)
      | (go_at_call 142; refine (squares_any _ _).mono ?_; rintro e w' ⟨rfl, rfl⟩)
      | (go_at_call 140; refine (count_new _ _ (Sx.tab (w1 := w) (b := w.heap.size) (M := M) (by assumption))).mono ?_; rintro e w' ⟨rfl, hg⟩; have hst := Sx.gr (by assumption) hg))
    go_ret
    exact ⟨rfl, hst.grow⟩

end Go.Proofs.YtnfakamfmkhlbaaGreatDoor.C
