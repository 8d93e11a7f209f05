import Derived.Test.YtnfakamfmkhlbaaGreatDoorZg6
import Derived.Deep.QuietTactic
import Derived.BigQuiet
namespace Go.Proofs.YtnfakamfmkhlbaaGreatDoor.C
open Go.ChangeShapes Go.WideShapes Go.ChangeAt Go.RowKit
open Go.Proofs.YtnfakamfmkhlbaaGreatDoor.P
attribute [local go_sem] setCell_drewN alloc_drewN
def behOk (z : Nat → UInt8) (wh : Bool) (b : Int) : Bool :=
 decide (b = -1) || (if wh then decide (40 ≤ b) && decide (b < 48) && decide (((z b.toNat).toNat : Int) = 46) && decide (((z (b + 8).toNat).toNat : Int) = 46) && decide (((z (b - 8).toNat).toNat : Int) = 112)
  else decide (16 ≤ b) && decide (b < 24) && decide (((z b.toNat).toNat : Int) = 46) && decide (((z (b - 8).toNat).toNat : Int) = 46) && decide (((z (b + 8).toNat).toNat : Int) = 80))
set_option linter.unusedSimpArgs false in
set_option maxRecDepth 100000 in
set_option maxHeartbeats 4000000 in
theorem behok_t {z : Nat → UInt8} {f : Nat → Bool} {b h g : Int} {PA : Array Value} (r : Row z true f b h g PA) (hb1 : b ≠ -1) (w : World) : Calls Tryz.prog 76 #[.agg PA] w fun e w' => e = .returned (.bool (behOk z true b)) ∧ Gr w w' := by
 have hc : ∀ o, (w.alloc (.cells PA 25)).cell? ⟨w.heap.size, o, none⟩ = PA[o]? := fun o => World.cell?_alloc_at _ _ _ _ rfl
 have hc64 : (w.alloc (.cells PA 25)).cell? ⟨w.heap.size, 64, none⟩ = some (.bool true) := by rw [hc]; exact r.wh
 have hc69 : (w.alloc (.cells PA 25)).cell? ⟨w.heap.size, 69, none⟩ = some (.int .i64 b) := by rw [hc]; exact r.b
 by_cases h0 : 40 ≤ b
 ·by_cases h1 : b < 48
  ·obtain ⟨n, rfl⟩ : ∃ n : Nat, b = n := ⟨b.toNat, by omega⟩
   have n0 : 40 ≤ n := by omega
   have hn8 : ((n : Int) + -8).toNat = n - 8 := by omega
   have n1 : n < 48 := by omega
   have hx0 : (w.alloc (.cells PA 25)).cell? ⟨w.heap.size, n, none⟩ = some (.int .u8 ((z n).toNat : Int)) := by rw [hc]; exact r.sq n (by omega)
   have hx1 : (w.alloc (.cells PA 25)).cell? ⟨w.heap.size, n + 8, none⟩ = some (.int .u8 ((z (n + 8)).toNat : Int)) := by rw [hc]; exact r.sq _ (by omega)
   have hx2 : (w.alloc (.cells PA 25)).cell? ⟨w.heap.size, n - 8, none⟩ = some (.int .u8 ((z (n - 8)).toNat : Int)) := by rw [hc]; exact r.sq _ (by omega)
   have hv0 : behOk z true (n : Int) = (decide (((z n).toNat : Int) = 46) && decide (((z (n + 8)).toNat : Int) = 46) && decide (((z (n - 8)).toNat : Int) = 112)) := by
    have e1 : ((n : Int) + 8).toNat = n + 8 := by omega
    have e2 : ((n : Int) - 8).toNat = n - 8 := by omega
    have d0 : decide ((n : Int) = -1) = false := decide_eq_false (by omega)
    have d1 : decide ((40 : Int) ≤ n) = true := decide_eq_true (by omega)
    have d2 : decide ((n : Int) < 48) = true := decide_eq_true (by omega)
    unfold behOk
    rw [d0, d1, d2, e1, e2, Int.toNat_natCast]
    simp only [Bool.false_or, Bool.true_and, if_true, if_false, Bool.false_eq_true]
   rw [hv0]
   clear hv0 r hc
   generalize ((z n).toNat : Int) = x0 at hx0 ⊢
   generalize ((z (n + 8)).toNat : Int) = x1 at hx1 ⊢
   generalize ((z (n - 8)).toNat : Int) = x2 at hx2 ⊢
   obtain ⟨v, hv⟩ : ∃ v, Hid ((decide (x0 = 46) && decide (x1 = 46) && decide (x2 = 112)) = v) := ⟨_, hide rfl⟩
   rw [unhide hv]
   by_cases k0 : x0 = 46
   ·by_cases k1 : x1 = 46
    ·by_cases k2 : x2 = 112
     ·have e : true = v := by rw [← unhide hv]; simp [k0, k1, k2]
      subst e
      clear hv
      go_enter Tryz.func76, Tryz.ntmps76
      go_wp2
      go_ret
      exact ⟨rfl, (Gr.refl _).alloc _ _⟩
     ·have e : false = v := by rw [← unhide hv]; simp [k2]
      subst e
      clear hv
      have k2b := beq_eq_false_iff_ne.2 k2
      go_enter Tryz.func76, Tryz.ntmps76
      go_wp2
      go_ret
      exact ⟨rfl, (Gr.refl _).alloc _ _⟩
    ·have e : false = v := by rw [← unhide hv]; simp [k1]
     subst e
     clear hv
     go_enter Tryz.func76, Tryz.ntmps76
     go_wp2
     go_ret
     exact ⟨rfl, (Gr.refl _).alloc _ _⟩
   ·have e : false = v := by rw [← unhide hv]; simp [k0]
    subst e
    clear hv
    go_enter Tryz.func76, Tryz.ntmps76
    go_wp2
    go_ret
    exact ⟨rfl, (Gr.refl _).alloc _ _⟩
  ·obtain ⟨v, hv⟩ : ∃ v, Hid (behOk z true b = v) := ⟨_, hide rfl⟩
   rw [unhide hv]
   clear r hc
   have e : false = v := by rw [← unhide hv]; simp [behOk, hb1]; omega
   subst e
   clear hv
   go_enter Tryz.func76, Tryz.ntmps76
   go_wp2
   go_ret
   exact ⟨rfl, (Gr.refl _).alloc _ _⟩
 ·obtain ⟨v, hv⟩ : ∃ v, Hid (behOk z true b = v) := ⟨_, hide rfl⟩
  rw [unhide hv]
  clear r hc
  have e : false = v := by rw [← unhide hv]; simp [behOk, hb1]; omega
  subst e
  clear hv
  go_enter Tryz.func76, Tryz.ntmps76
  go_wp2
  go_ret
  exact ⟨rfl, (Gr.refl _).alloc _ _⟩
set_option linter.unusedSimpArgs false in
set_option maxRecDepth 100000 in
set_option maxHeartbeats 4000000 in
theorem behok_f {z : Nat → UInt8} {f : Nat → Bool} {b h g : Int} {PA : Array Value} (r : Row z false f b h g PA) (hb1 : b ≠ -1) (w : World) : Calls Tryz.prog 76 #[.agg PA] w fun e w' => e = .returned (.bool (behOk z false b)) ∧ Gr w w' := by
 have hc : ∀ o, (w.alloc (.cells PA 25)).cell? ⟨w.heap.size, o, none⟩ = PA[o]? := fun o => World.cell?_alloc_at _ _ _ _ rfl
 have hc64 : (w.alloc (.cells PA 25)).cell? ⟨w.heap.size, 64, none⟩ = some (.bool false) := by rw [hc]; exact r.wh
 have hc69 : (w.alloc (.cells PA 25)).cell? ⟨w.heap.size, 69, none⟩ = some (.int .i64 b) := by rw [hc]; exact r.b
 by_cases h0 : 16 ≤ b
 ·by_cases h1 : b < 24
  ·obtain ⟨n, rfl⟩ : ∃ n : Nat, b = n := ⟨b.toNat, by omega⟩
   have n0 : 16 ≤ n := by omega
   have n1 : n < 24 := by omega
   have hx0 : (w.alloc (.cells PA 25)).cell? ⟨w.heap.size, n, none⟩ = some (.int .u8 ((z n).toNat : Int)) := by rw [hc]; exact r.sq n (by omega)
   have hx1 : (w.alloc (.cells PA 25)).cell? ⟨w.heap.size, n - 8, none⟩ = some (.int .u8 ((z (n - 8)).toNat : Int)) := by rw [hc]; exact r.sq _ (by omega)
   have hx2 : (w.alloc (.cells PA 25)).cell? ⟨w.heap.size, n + 8, none⟩ = some (.int .u8 ((z (n + 8)).toNat : Int)) := by rw [hc]; exact r.sq _ (by omega)
   have hv0 : behOk z false (n : Int) = (decide (((z n).toNat : Int) = 46) && decide (((z (n - 8)).toNat : Int) = 46) && decide (((z (n + 8)).toNat : Int) = 80)) := by
    have e1 : ((n : Int) + 8).toNat = n + 8 := by omega
    have e2 : ((n : Int) - 8).toNat = n - 8 := by omega
    have d0 : decide ((n : Int) = -1) = false := decide_eq_false (by omega)
    have d1 : decide ((16 : Int) ≤ n) = true := decide_eq_true (by omega)
    have d2 : decide ((n : Int) < 24) = true := decide_eq_true (by omega)
    unfold behOk
    rw [d0, d1, d2, e1, e2, Int.toNat_natCast]
    simp only [Bool.false_or, Bool.true_and, if_true, if_false, Bool.false_eq_true]
   rw [hv0]
   clear hv0 r hc
   generalize ((z n).toNat : Int) = x0 at hx0 ⊢
   generalize ((z (n - 8)).toNat : Int) = x1 at hx1 ⊢
   generalize ((z (n + 8)).toNat : Int) = x2 at hx2 ⊢
   obtain ⟨v, hv⟩ : ∃ v, Hid ((decide (x0 = 46) && decide (x1 = 46) && decide (x2 = 80)) = v) := ⟨_, hide rfl⟩
   rw [unhide hv]
   by_cases k0 : x0 = 46
   ·by_cases k1 : x1 = 46
    ·by_cases k2 : x2 = 80
     ·have e : true = v := by rw [← unhide hv]; simp [k0, k1, k2]
      subst e
      clear hv
      go_enter Tryz.func76, Tryz.ntmps76
      go_wp2
      go_ret
      exact ⟨rfl, (Gr.refl _).alloc _ _⟩
     ·have e : false = v := by rw [← unhide hv]; simp [k2]
      subst e
      clear hv
      have k2b := beq_eq_false_iff_ne.2 k2
      go_enter Tryz.func76, Tryz.ntmps76
      go_wp2
      go_ret
      exact ⟨rfl, (Gr.refl _).alloc _ _⟩
    ·have e : false = v := by rw [← unhide hv]; simp [k1]
     subst e
     clear hv
     go_enter Tryz.func76, Tryz.ntmps76
     go_wp2
     go_ret
     exact ⟨rfl, (Gr.refl _).alloc _ _⟩
   ·have e : false = v := by rw [← unhide hv]; simp [k0]
    subst e
    clear hv
    go_enter Tryz.func76, Tryz.ntmps76
    go_wp2
    go_ret
    exact ⟨rfl, (Gr.refl _).alloc _ _⟩
  ·obtain ⟨v, hv⟩ : ∃ v, Hid (behOk z false b = v) := ⟨_, hide rfl⟩
   rw [unhide hv]
   clear r hc
   have e : false = v := by rw [← unhide hv]; simp [behOk, hb1]; omega
   subst e
   clear hv
   go_enter Tryz.func76, Tryz.ntmps76
   go_wp2
   go_ret
   exact ⟨rfl, (Gr.refl _).alloc _ _⟩
 ·obtain ⟨v, hv⟩ : ∃ v, Hid (behOk z false b = v) := ⟨_, hide rfl⟩
  rw [unhide hv]
  clear r hc
  have e : false = v := by rw [← unhide hv]; simp [behOk, hb1]; omega
  subst e
  clear hv
  go_enter Tryz.func76, Tryz.ntmps76
  go_wp2
  go_ret
  exact ⟨rfl, (Gr.refl _).alloc _ _⟩
theorem behok_m {z : Nat → UInt8} {wh : Bool} {f : Nat → Bool} {h g : Int} {PA : Array Value} (r : Row z wh f (-1) h g PA) (w : World) : Calls Tryz.prog 76 #[.agg PA] w fun e w' => e = .returned (.bool (behOk z wh (-1))) ∧ Gr w w' := by
 have hc69 : (w.alloc (.cells PA 25)).cell? ⟨w.heap.size, 69, none⟩ = some (.int .i64 (-1)) := by rw [World.cell?_alloc_at _ _ _ _ rfl]; exact r.b
 clear r
 have e : behOk z wh (-1) = true := by simp [behOk]
 rw [e]
 clear e
 go_enter Tryz.func76, Tryz.ntmps76
 go_wp2
 go_ret
 exact ⟨rfl, (Gr.refl _).alloc _ _⟩
theorem behok_any {z : Nat → UInt8} {wh : Bool} {f : Nat → Bool} {b h g : Int} {PA : Array Value} (r : Row z wh f b h g PA) (w : World) : Calls Tryz.prog 76 #[.agg PA] w fun e w' => e = .returned (.bool (behOk z wh b)) ∧ Gr w w' := by
 by_cases hb : b = -1
 ·subst hb; exact behok_m r w
 ·cases wh
  ·exact behok_f r hb w
  ·exact behok_t r hb w
def TabIn (w : World) : Prop := BTab w ∧ 2 < w.heap.size
theorem TabIn.gr {w w' : World} (h : TabIn w) (g : Gr w w') : TabIn w' := ⟨h.1.below g.below h.2, Nat.lt_of_lt_of_le h.2 (Below.size g)⟩
def Sx (w1 : World) (b : Nat) (M : Array Value) (w : World) : Prop := St w1 b M w ∧ TabIn w
theorem Sx.gr {w1 w w' : World} {b : Nat} {M : Array Value} (h : Sx w1 b M w) (g : Gr w w') : Sx w1 b M w' := ⟨h.1.gr g, h.2.gr g⟩
theorem Sx.held {w1 w : World} {b : Nat} {M : Array Value} (h : Sx w1 b M w) : HeldAt b M w := h.1.1
theorem Sx.tab {w1 w : World} {b : Nat} {M : Array Value} (h : Sx w1 b M w) : TabIn w := h.2
theorem Sx.grow {w1 w : World} {b : Nat} {M : Array Value} (h : Sx w1 b M w) : Gr w1 w := h.1.2
theorem wpList_load_men {ops : Array Oper} {rest : List Oper} {o : Oper} {a : Act} {w : World} {M : Array Value} {Q : Exit → Act → World → Prop} (hw : Region.wanted o (yielded ops a.tmps) = true) (x : Operand) (ho : o.op = .load 151 x) (b : Nat) (hx : a.eval x = .pointer (some ⟨b, 0, none⟩)) (hh : HeldAt b M w)
  (h : wpList Tryz.prog ops Q rest (a.put o.dst (.agg M)) w) : wpList Tryz.prog ops Q (o :: rest) a w :=
 wpList_step fun K hK => by
  rw [if_pos hw]
  refine wp_load_mid (P := Tryz.prog) 151 x ho b 0 hx M.toList _ hh.2.1 Tryz.underlying151 rfl (by rw [info12]; simp [hh.2.2]) ?_
  rw [Array.toArray_toList]
  exact hK _ _ h
theorem count_new (s : BitVec 64) (w : World) (hT : TabIn w) :
  Calls Tryz.prog 140 #[.func (.func 224) #[] #[.pointer (some ⟨w.heap.size, 0, none⟩)]] (w.alloc (.cells #[.int .u64 (U s)] 149)) fun e w' => e = .returned (.int .i64 (sqs s).length) ∧ Gr w w' := by
 have g : Gr w (w.alloc (.cells #[.int .u64 (U s)] 149)) := (Gr.refl w).alloc _ _
 refine (count_any s w.heap.size _ (by rw [World.size_alloc]; omega) (hT.gr g).2 (by rw [World.cell?_alloc_at _ _ _ _ rfl]; rfl) (hT.gr g).1).mono ?_
 rintro e w' ⟨h1, h2⟩
 exact ⟨h1, Gr.trans g h2⟩
def sideOk (m : Nat → BitVec 64) (b : Bool) : Bool := decide (((sqs (m (bg b + 5))).length : Int) = 1) && decide (((sqs (sideB m b)).length : Int) ≤ 16) && decide (bits .and .u64 (U (m (bg b))) 18374686479671623935 = 0)
set_option maxRecDepth 100000 in
set_option maxHeartbeats 4000000 in
theorem sidecan_any (m : Nat → BitVec 64) (M : Array Value) (hM : IsMen m M) (b : Bool) (w : World) (hT : TabIn w) : Calls Tryz.prog 74 #[.agg M, .bool b] w fun e w' => e = .returned (.bool (sideOk m b)) ∧ Gr w w' := by
 have hM' := hide hM
 have hg1 : Hid (Gr w (w.alloc (.cells M 151))) := hide ((Gr.refl w).alloc _ _)
 have hst : Sx w w.heap.size M (w.alloc (.cells M 151)) := ⟨⟨⟨by rw [World.size_alloc]; omega, (by
  intro j v hv
  rw [World.cell?_alloc_at _ _ _ _ rfl, Nat.zero_add, ← Array.getElem?_toList]; exact hv), hM.1⟩, unhide hg1⟩, hT.gr (unhide hg1)⟩
 clear hM hT
 obtain ⟨v, hv⟩ : ∃ v, Hid (sideOk m b = v) := ⟨_, hide rfl⟩
 rw [unhide hv]
 by_cases h0 : ((sqs (m (bg b + 5))).length : Int) = 1
 ·by_cases h1 : ((sqs (sideB m b)).length : Int) ≤ 16
  ·by_cases h2 : bits .and .u64 (U (m (bg b))) 18374686479671623935 = 0
   ·have e : true = v := by rw [← unhide hv]; simp only [sideOk, decide_eq_true h0, decide_eq_true h1, decide_eq_true h2]; rfl
    subst e
    clear hv
    go_enter Tryz.func74, Tryz.ntmps74
    go_wp2_with (first
     | (refine wpList_load_men (by rfl) _ rfl w.heap.size rfl (Sx.held (w1 := w) (by assumption)) ?_)
     | (go_at_call 141; refine (kings_any m M (unhide hM') _ _).mono ?_; rintro e w' ⟨rfl, hg⟩; have hst := Sx.gr (by assumption) hg)
     | (go_at_call 143; refine (mside_any m M (unhide hM') _ _).mono ?_; rintro e w' ⟨rfl, hg⟩; have hst := Sx.gr (by assumption) hg)
     | (go_at_call 144; refine (pawns_any m M (unhide hM') _ _).mono ?_; rintro e w' ⟨rfl, hg⟩; have hst := Sx.gr (by assumption) hg)
     | (go_at_call 142; refine (squares_any _ _).mono ?_; rintro e w' ⟨rfl, rfl⟩)
     | (go_at_call 140; refine (count_new _ _ (Sx.tab (w1 := w) (b := w.heap.size) (M := M) (by assumption))).mono ?_; rintro e w' ⟨rfl, hg⟩; have hst := Sx.gr (by assumption) hg))
    go_ret
    exact ⟨rfl, hst.grow⟩
   ·have e : false = v := by rw [← unhide hv]; simp only [sideOk, decide_eq_false h2, Bool.and_false]
    subst e
    clear hv
    have h2b := beq_eq_false_iff_ne.2 h2
    go_enter Tryz.func74, Tryz.ntmps74
    go_wp2_with (first
     | (refine wpList_load_men (by rfl) _ rfl w.heap.size rfl (Sx.held (w1 := w) (by assumption)) ?_)
     | (go_at_call 141; refine (kings_any m M (unhide hM') _ _).mono ?_; rintro e w' ⟨rfl, hg⟩; have hst := Sx.gr (by assumption) hg)
     | (go_at_call 143; refine (mside_any m M (unhide hM') _ _).mono ?_; rintro e w' ⟨rfl, hg⟩; have hst := Sx.gr (by assumption) hg)
     | (go_at_call 144; refine (pawns_any m M (unhide hM') _ _).mono ?_; rintro e w' ⟨rfl, hg⟩; have hst := Sx.gr (by assumption) hg)
     | (go_at_call 142; refine (squares_any _ _).mono ?_; rintro e w' ⟨rfl, rfl⟩)
     | (go_at_call 140; refine (count_new _ _ (Sx.tab (w1 := w) (b := w.heap.size) (M := M) (by assumption))).mono ?_; rintro e w' ⟨rfl, hg⟩; have hst := Sx.gr (by assumption) hg))
    go_ret
    exact ⟨rfl, hst.grow⟩
  ·have e : false = v := by rw [← unhide hv]; simp only [sideOk, decide_eq_false h1, Bool.and_false, Bool.false_and]
   subst e
   clear hv
   go_enter Tryz.func74, Tryz.ntmps74
   go_wp2_with (first
    | (refine wpList_load_men (by rfl) _ rfl w.heap.size rfl (Sx.held (w1 := w) (by assumption)) ?_)
    | (go_at_call 141; refine (kings_any m M (unhide hM') _ _).mono ?_; rintro e w' ⟨rfl, hg⟩; have hst := Sx.gr (by assumption) hg)
    | (go_at_call 143; refine (mside_any m M (unhide hM') _ _).mono ?_; rintro e w' ⟨rfl, hg⟩; have hst := Sx.gr (by assumption) hg)
    | (go_at_call 144; refine (pawns_any m M (unhide hM') _ _).mono ?_; rintro e w' ⟨rfl, hg⟩; have hst := Sx.gr (by assumption) hg)
    | (go_at_call 142; refine (squares_any _ _).mono ?_; rintro e w' ⟨rfl, rfl⟩)
    | (go_at_call 140; refine (count_new _ _ (Sx.tab (w1 := w) (b := w.heap.size) (M := M) (by assumption))).mono ?_; rintro e w' ⟨rfl, hg⟩; have hst := Sx.gr (by assumption) hg))
   go_ret
   exact ⟨rfl, hst.grow⟩
 ·have e : false = v := by rw [← unhide hv]; simp only [sideOk, decide_eq_false h0, Bool.false_and]
  subst e
  clear hv
  have h0b := beq_eq_false_iff_ne.2 h0
  go_enter Tryz.func74, Tryz.ntmps74
  go_wp2_with (first
   | (refine wpList_load_men (by rfl) _ rfl w.heap.size rfl (Sx.held (w1 := w) (by assumption)) ?_)
   | (go_at_call 141; refine (kings_any m M (unhide hM') _ _).mono ?_; rintro e w' ⟨rfl, hg⟩; have hst := Sx.gr (by assumption) hg)
   | (go_at_call 143; refine (mside_any m M (unhide hM') _ _).mono ?_; rintro e w' ⟨rfl, hg⟩; have hst := Sx.gr (by assumption) hg)
   | (go_at_call 144; refine (pawns_any m M (unhide hM') _ _).mono ?_; rintro e w' ⟨rfl, hg⟩; have hst := Sx.gr (by assumption) hg)
   | (go_at_call 142; refine (squares_any _ _).mono ?_; rintro e w' ⟨rfl, rfl⟩)
   | (go_at_call 140; refine (count_new _ _ (Sx.tab (w1 := w) (b := w.heap.size) (M := M) (by assumption))).mono ?_; rintro e w' ⟨rfl, hg⟩; have hst := Sx.gr (by assumption) hg))
  go_ret
  exact ⟨rfl, hst.grow⟩
def homesL : List Value := [.int .i64 4, .int .u8 75, .int .i64 7, .int .u8 82, .int .i64 4, .int .u8 75, .int .i64 0, .int .u8 82, .int .i64 60, .int .u8 107, .int .i64 63, .int .u8 114, .int .i64 60, .int .u8 107, .int .i64 56, .int .u8 114]
def Homes (w : World) : Prop := w.rangeAt 0 0 homesL ∧ 0 < w.heap.size
theorem Homes.gr {w w' : World} (h : Homes w) (g : Gr w w') : Homes w' :=
 ⟨fun j v hv => (Below.cell g (p := ⟨_, 0 + j, none⟩) h.2).trans (h.1 j v hv), Nat.lt_of_lt_of_le h.2 (Below.size g)⟩
theorem info16 : (Tryz.prog.info? 222).map (·.size) = some homesL.length := by kernel_rfl
def castAt (z : Nat → UInt8) (f : Nat → Bool) (ks : Nat) (kl : Int) (rs : Nat) (rl : Int) (k : Nat) : Bool := !(f k) || (decide (((z ks).toNat : Int) = kl) && decide (((z rs).toNat : Int) = rl))
def castN (z : Nat → UInt8) (f : Nat → Bool) : Nat → Bool
 | 0 => castAt z f 4 75 7 82 0
 | 1 => castAt z f 4 75 0 82 1
 | 2 => castAt z f 60 107 63 114 2
 | 3 => castAt z f 60 107 56 114 3
 | _ => true
def castOk (z : Nat → UInt8) (f : Nat → Bool) : Bool := (List.range 4).all (castN z f)
theorem castOk_bad {z : Nat → UInt8} {f : Nat → Bool} {k : Nat} (hk : k < 4) (h : castN z f k = false) : castOk z f = false := by
 unfold castOk
 rw [List.all_eq_false]
 exact ⟨k, List.mem_range.2 hk, by rw [h]; decide⟩
theorem castOk_all {z : Nat → UInt8} {f : Nat → Bool} (h : ∀ j, j < 4 → castN z f j = true) : castOk z f = true := by
 unfold castOk
 rw [List.all_eq_true]
 intro j hj
 exact h j (List.mem_range.1 hj)
theorem ixh0 (w : World) : (Instr.index 222 (.agg homesL.toArray) (.int .i64 0)).run Tryz.prog w = .ok (.agg #[.int .i64 4, .int .u8 75, .int .i64 7, .int .u8 82]) w := by kernel_rfl
theorem ixh1 (w : World) : (Instr.index 222 (.agg homesL.toArray) (.int .i64 1)).run Tryz.prog w = .ok (.agg #[.int .i64 4, .int .u8 75, .int .i64 0, .int .u8 82]) w := by kernel_rfl
theorem ixh2 (w : World) : (Instr.index 222 (.agg homesL.toArray) (.int .i64 2)).run Tryz.prog w = .ok (.agg #[.int .i64 60, .int .u8 107, .int .i64 63, .int .u8 114]) w := by kernel_rfl
theorem ixh3 (w : World) : (Instr.index 222 (.agg homesL.toArray) (.int .i64 3)).run Tryz.prog w = .ok (.agg #[.int .i64 60, .int .u8 107, .int .i64 56, .int .u8 114]) w := by kernel_rfl
set_option maxRecDepth 100000 in
set_option maxHeartbeats 8000000 in
theorem cast_any {z : Nat → UInt8} {wh : Bool} {f : Nat → Bool} {b h g : Int} {PA : Array Value} (r : Row z wh f b h g PA) (w : World) (hH : Homes w) : Calls Tryz.prog 75 #[.agg PA] w fun e w' => e = .returned (.bool (castOk z f)) ∧ Gr w w' := by
 have r' := hide r
 clear r
 have hH' := hide hH
 clear hH
 have hc : Hid (∀ o, (w.alloc (.cells PA 25)).cell? ⟨w.heap.size, o, none⟩ = PA[o]?) := hide (fun o => World.cell?_alloc_at _ _ _ _ rfl)
 have hg0 : Hid (Gr w (w.alloc (.cells PA 25))) := hide ((Gr.refl w).alloc _ _)
 have hsz : Hid (w.heap.size < (w.alloc (.cells PA 25)).heap.size) := hide (by rw [World.size_alloc]; omega)
 generalize hL : homesL.toArray = HL
 go_enter Tryz.func75, Tryz.ntmps75
 go_wp2_with (refine wpList_load_mid rfl 222 _ rfl 0 0 rfl homesL _ ((unhide hH').gr (unhide hg0)).1 Tryz.underlying222 rfl info16 ?_)
 go_loopg [6] 4 (fun gg n wr => ∃ k : Nat, k + gg = 4 ∧ n = .int .i64 k ∧ (∀ j, j < k → castN z f j = true) ∧ Gr (w.alloc (.cells PA 25)) wr)
 case atStart => exact ⟨0, rfl, rfl, fun j hj => absurd hj (Nat.not_lt_zero j), Gr.refl _⟩
 case round =>
  obtain ⟨k, k1, rfl, k3, hgr⟩ := hrel
  have k3' := hide k3
  have hgr' := hide hgr
  clear k3
  have hcell : ∀ o v, PA[o]? = some v → wr.cell? ⟨w.heap.size, o, none⟩ = some v := fun o v hv => (Below.cell hgr (p := ⟨w.heap.size, o, none⟩) (unhide hsz)).trans ((unhide hc o).trans hv)
  have hwr : w.heap.size < wr.heap.size := Nat.lt_of_lt_of_le (unhide hsz) (Below.size hgr)
  clear hgr
  by_cases hlt : k < 4
  ·have hk : k = 0 ∨ k = 1 ∨ k = 2 ∨ k = 3 := by omega
   rcases hk with rfl | rfl | rfl | rfl
   ·have hix := ixh0
    rw [hL] at hix
    have hA : ∀ o v, PA[o]? = some v → (wr.alloc (.cells #[.int .i64 4, .int .u8 75, .int .i64 7, .int .u8 82] 221)).cell? ⟨w.heap.size, o, none⟩ = some v := fun o v hv => (Below.cell ((Gr.refl wr).alloc _ _) (p := ⟨w.heap.size, o, none⟩) hwr).trans (hcell o v hv)
    have hF : (wr.alloc (.cells #[.int .i64 4, .int .u8 75, .int .i64 7, .int .u8 82] 221)).cell? ⟨w.heap.size, 65, none⟩ = some (.bool (f 0)) := hA _ _ ((unhide r').c 0 (by decide))
    have hK : (wr.alloc (.cells #[.int .i64 4, .int .u8 75, .int .i64 7, .int .u8 82] 221)).cell? ⟨w.heap.size, 4, none⟩ = some (.int .u8 ((z 4).toNat : Int)) := hA _ _ ((unhide r').sq 4 (by decide))
    have hR : (wr.alloc (.cells #[.int .i64 4, .int .u8 75, .int .i64 7, .int .u8 82] 221)).cell? ⟨w.heap.size, 7, none⟩ = some (.int .u8 ((z 7).toNat : Int)) := hA _ _ ((unhide r').sq 7 (by decide))
    clear hA hcell
    obtain ⟨cc, hcc⟩ : ∃ cc, Hid (f 0 = cc) := ⟨_, hide rfl⟩
    obtain ⟨x, hx⟩ : ∃ x, Hid (((z 4).toNat : Int) = x) := ⟨_, hide rfl⟩
    obtain ⟨y, hy⟩ : ∃ y, Hid (((z 7).toNat : Int) = y) := ⟨_, hide rfl⟩
    rw [unhide hcc] at hF
    rw [unhide hx] at hK
    rw [unhide hy] at hR
    cases cc
    ·-- no right to castle so
     go_wp2
     go_quiet (fail)
     go_wp2
     go_roundg (gk - 1)
     case measure => omega
     case rel => exact ⟨0 + 1, by omega, by go_num, (by
      intro j hj
      by_cases hjk : j = 0
      ·subst hjk; show castAt z f 4 75 7 82 0 = true; unfold castAt; rw [unhide hcc]; rfl
      ·exact unhide k3' j (by omega)), Gr.drewN ((unhide hgr').alloc _ _) _⟩
    ·by_cases hxe : x = 75
     ·subst hxe
      by_cases hye : y = 82
      ·subst hye
       go_wp2
       go_quiet (fail)
       go_wp2
       go_roundg (gk - 1)
       case measure => omega
       case rel => exact ⟨0 + 1, by omega, by go_num, (by
        intro j hj
        by_cases hjk : j = 0
        ·subst hjk; show castAt z f 4 75 7 82 0 = true; unfold castAt; rw [unhide hcc, unhide hx, unhide hy]; rfl
        ·exact unhide k3' j (by omega)), Gr.drewN ((unhide hgr').alloc _ _) _⟩
      ·have hyb : (y != 82) = true := bne_iff_ne.2 hye
       have e := hide (show castOk z f = false from castOk_bad (k := 0) (by decide) (show castAt z f 4 75 7 82 0 = false by unfold castAt; rw [unhide hcc, unhide hy, decide_eq_false hye, Bool.and_false]; rfl))
       go_wp2
       go_quiet (fail)
       go_wp2
       go_ret
       exact ⟨by rw [unhide e]; rfl, Gr.trans (unhide hg0) (Gr.drewN ((unhide hgr').alloc _ _) _)⟩
     ·have hxb : (x != 75) = true := bne_iff_ne.2 hxe
      have e := hide (show castOk z f = false from castOk_bad (k := 0) (by decide) (show castAt z f 4 75 7 82 0 = false by unfold castAt; rw [unhide hcc, unhide hx, decide_eq_false hxe, Bool.false_and]; rfl))
      go_wp2
      go_quiet (fail)
      go_wp2
      go_ret
      exact ⟨by rw [unhide e]; rfl, Gr.trans (unhide hg0) (Gr.drewN ((unhide hgr').alloc _ _) _)⟩
   ·have hix := ixh1
    rw [hL] at hix
    have hA : ∀ o v, PA[o]? = some v → (wr.alloc (.cells #[.int .i64 4, .int .u8 75, .int .i64 0, .int .u8 82] 221)).cell? ⟨w.heap.size, o, none⟩ = some v := fun o v hv => (Below.cell ((Gr.refl wr).alloc _ _) (p := ⟨w.heap.size, o, none⟩) hwr).trans (hcell o v hv)
    have hF : (wr.alloc (.cells #[.int .i64 4, .int .u8 75, .int .i64 0, .int .u8 82] 221)).cell? ⟨w.heap.size, 66, none⟩ = some (.bool (f 1)) := hA _ _ ((unhide r').c 1 (by decide))
    have hK : (wr.alloc (.cells #[.int .i64 4, .int .u8 75, .int .i64 0, .int .u8 82] 221)).cell? ⟨w.heap.size, 4, none⟩ = some (.int .u8 ((z 4).toNat : Int)) := hA _ _ ((unhide r').sq 4 (by decide))
    have hR : (wr.alloc (.cells #[.int .i64 4, .int .u8 75, .int .i64 0, .int .u8 82] 221)).cell? ⟨w.heap.size, 0, none⟩ = some (.int .u8 ((z 0).toNat : Int)) := hA _ _ ((unhide r').sq 0 (by decide))
    clear hA hcell
    obtain ⟨cc, hcc⟩ : ∃ cc, Hid (f 1 = cc) := ⟨_, hide rfl⟩
    obtain ⟨x, hx⟩ : ∃ x, Hid (((z 4).toNat : Int) = x) := ⟨_, hide rfl⟩
    obtain ⟨y, hy⟩ : ∃ y, Hid (((z 0).toNat : Int) = y) := ⟨_, hide rfl⟩
    rw [unhide hcc] at hF
    rw [unhide hx] at hK
    rw [unhide hy] at hR
    cases cc
    ·-- no right to castle so
     go_wp2
     go_quiet (fail)
     go_wp2
     go_roundg (gk - 1)
     case measure => omega
     case rel => exact ⟨1 + 1, by omega, by go_num, (by
      intro j hj
      by_cases hjk : j = 1
      ·subst hjk; show castAt z f 4 75 0 82 1 = true; unfold castAt; rw [unhide hcc]; rfl
      ·exact unhide k3' j (by omega)), Gr.drewN ((unhide hgr').alloc _ _) _⟩
    ·by_cases hxe : x = 75
     ·subst hxe
      by_cases hye : y = 82
      ·subst hye
       go_wp2
       go_quiet (fail)
       go_wp2
       go_roundg (gk - 1)
       case measure => omega
       case rel => exact ⟨1 + 1, by omega, by go_num, (by
        intro j hj
        by_cases hjk : j = 1
        ·subst hjk; show castAt z f 4 75 0 82 1 = true; unfold castAt; rw [unhide hcc, unhide hx, unhide hy]; rfl
        ·exact unhide k3' j (by omega)), Gr.drewN ((unhide hgr').alloc _ _) _⟩
      ·have hyb : (y != 82) = true := bne_iff_ne.2 hye
       have e := hide (show castOk z f = false from castOk_bad (k := 1) (by decide) (show castAt z f 4 75 0 82 1 = false by unfold castAt; rw [unhide hcc, unhide hy, decide_eq_false hye, Bool.and_false]; rfl))
       go_wp2
       go_quiet (fail)
       go_wp2
       go_ret
       exact ⟨by rw [unhide e]; rfl, Gr.trans (unhide hg0) (Gr.drewN ((unhide hgr').alloc _ _) _)⟩
     ·have hxb : (x != 75) = true := bne_iff_ne.2 hxe
      have e := hide (show castOk z f = false from castOk_bad (k := 1) (by decide) (show castAt z f 4 75 0 82 1 = false by unfold castAt; rw [unhide hcc, unhide hx, decide_eq_false hxe, Bool.false_and]; rfl))
      go_wp2
      go_quiet (fail)
      go_wp2
      go_ret
      exact ⟨by rw [unhide e]; rfl, Gr.trans (unhide hg0) (Gr.drewN ((unhide hgr').alloc _ _) _)⟩
   ·have hix := ixh2
    rw [hL] at hix
    have hA : ∀ o v, PA[o]? = some v → (wr.alloc (.cells #[.int .i64 60, .int .u8 107, .int .i64 63, .int .u8 114] 221)).cell? ⟨w.heap.size, o, none⟩ = some v := fun o v hv => (Below.cell ((Gr.refl wr).alloc _ _) (p := ⟨w.heap.size, o, none⟩) hwr).trans (hcell o v hv)
    have hF : (wr.alloc (.cells #[.int .i64 60, .int .u8 107, .int .i64 63, .int .u8 114] 221)).cell? ⟨w.heap.size, 67, none⟩ = some (.bool (f 2)) := hA _ _ ((unhide r').c 2 (by decide))
    have hK : (wr.alloc (.cells #[.int .i64 60, .int .u8 107, .int .i64 63, .int .u8 114] 221)).cell? ⟨w.heap.size, 60, none⟩ = some (.int .u8 ((z 60).toNat : Int)) := hA _ _ ((unhide r').sq 60 (by decide))
    have hR : (wr.alloc (.cells #[.int .i64 60, .int .u8 107, .int .i64 63, .int .u8 114] 221)).cell? ⟨w.heap.size, 63, none⟩ = some (.int .u8 ((z 63).toNat : Int)) := hA _ _ ((unhide r').sq 63 (by decide))
    clear hA hcell
    obtain ⟨cc, hcc⟩ : ∃ cc, Hid (f 2 = cc) := ⟨_, hide rfl⟩
    obtain ⟨x, hx⟩ : ∃ x, Hid (((z 60).toNat : Int) = x) := ⟨_, hide rfl⟩
    obtain ⟨y, hy⟩ : ∃ y, Hid (((z 63).toNat : Int) = y) := ⟨_, hide rfl⟩
    rw [unhide hcc] at hF
    rw [unhide hx] at hK
    rw [unhide hy] at hR
    cases cc
    ·-- no right to castle so
     go_wp2
     go_quiet (fail)
     go_wp2
     go_roundg (gk - 1)
     case measure => omega
     case rel => exact ⟨2 + 1, by omega, by go_num, (by
      intro j hj
      by_cases hjk : j = 2
      ·subst hjk; show castAt z f 60 107 63 114 2 = true; unfold castAt; rw [unhide hcc]; rfl
      ·exact unhide k3' j (by omega)), Gr.drewN ((unhide hgr').alloc _ _) _⟩
    ·by_cases hxe : x = 107
     ·subst hxe
      by_cases hye : y = 114
      ·subst hye
       go_wp2
       go_quiet (fail)
       go_wp2
       go_roundg (gk - 1)
       case measure => omega
       case rel => exact ⟨2 + 1, by omega, by go_num, (by
        intro j hj
        by_cases hjk : j = 2
        ·subst hjk; show castAt z f 60 107 63 114 2 = true; unfold castAt; rw [unhide hcc, unhide hx, unhide hy]; rfl
        ·exact unhide k3' j (by omega)), Gr.drewN ((unhide hgr').alloc _ _) _⟩
      ·have hyb : (y != 114) = true := bne_iff_ne.2 hye
       have e := hide (show castOk z f = false from castOk_bad (k := 2) (by decide) (show castAt z f 60 107 63 114 2 = false by unfold castAt; rw [unhide hcc, unhide hy, decide_eq_false hye, Bool.and_false]; rfl))
       go_wp2
       go_quiet (fail)
       go_wp2
       go_ret
       exact ⟨by rw [unhide e]; rfl, Gr.trans (unhide hg0) (Gr.drewN ((unhide hgr').alloc _ _) _)⟩
     ·have hxb : (x != 107) = true := bne_iff_ne.2 hxe
      have e := hide (show castOk z f = false from castOk_bad (k := 2) (by decide) (show castAt z f 60 107 63 114 2 = false by unfold castAt; rw [unhide hcc, unhide hx, decide_eq_false hxe, Bool.false_and]; rfl))
      go_wp2
      go_quiet (fail)
      go_wp2
      go_ret
      exact ⟨by rw [unhide e]; rfl, Gr.trans (unhide hg0) (Gr.drewN ((unhide hgr').alloc _ _) _)⟩
   ·have hix := ixh3
    rw [hL] at hix
    have hA : ∀ o v, PA[o]? = some v → (wr.alloc (.cells #[.int .i64 60, .int .u8 107, .int .i64 56, .int .u8 114] 221)).cell? ⟨w.heap.size, o, none⟩ = some v := fun o v hv => (Below.cell ((Gr.refl wr).alloc _ _) (p := ⟨w.heap.size, o, none⟩) hwr).trans (hcell o v hv)
    have hF : (wr.alloc (.cells #[.int .i64 60, .int .u8 107, .int .i64 56, .int .u8 114] 221)).cell? ⟨w.heap.size, 68, none⟩ = some (.bool (f 3)) := hA _ _ ((unhide r').c 3 (by decide))
    have hK : (wr.alloc (.cells #[.int .i64 60, .int .u8 107, .int .i64 56, .int .u8 114] 221)).cell? ⟨w.heap.size, 60, none⟩ = some (.int .u8 ((z 60).toNat : Int)) := hA _ _ ((unhide r').sq 60 (by decide))
    have hR : (wr.alloc (.cells #[.int .i64 60, .int .u8 107, .int .i64 56, .int .u8 114] 221)).cell? ⟨w.heap.size, 56, none⟩ = some (.int .u8 ((z 56).toNat : Int)) := hA _ _ ((unhide r').sq 56 (by decide))
    clear hA hcell
    obtain ⟨cc, hcc⟩ : ∃ cc, Hid (f 3 = cc) := ⟨_, hide rfl⟩
    obtain ⟨x, hx⟩ : ∃ x, Hid (((z 60).toNat : Int) = x) := ⟨_, hide rfl⟩
    obtain ⟨y, hy⟩ : ∃ y, Hid (((z 56).toNat : Int) = y) := ⟨_, hide rfl⟩
    rw [unhide hcc] at hF
    rw [unhide hx] at hK
    rw [unhide hy] at hR
    cases cc
    ·-- no right to castle so
     go_wp2
     go_quiet (fail)
     go_wp2
     go_roundg (gk - 1)
     case measure => omega
     case rel => exact ⟨3 + 1, by omega, by go_num, (by
      intro j hj
      by_cases hjk : j = 3
      ·subst hjk; show castAt z f 60 107 56 114 3 = true; unfold castAt; rw [unhide hcc]; rfl
      ·exact unhide k3' j (by omega)), Gr.drewN ((unhide hgr').alloc _ _) _⟩
    ·by_cases hxe : x = 107
     ·subst hxe
      by_cases hye : y = 114
      ·subst hye
       go_wp2
       go_quiet (fail)
       go_wp2
       go_roundg (gk - 1)
       case measure => omega
       case rel => exact ⟨3 + 1, by omega, by go_num, (by
        intro j hj
        by_cases hjk : j = 3
        ·subst hjk; show castAt z f 60 107 56 114 3 = true; unfold castAt; rw [unhide hcc, unhide hx, unhide hy]; rfl
        ·exact unhide k3' j (by omega)), Gr.drewN ((unhide hgr').alloc _ _) _⟩
      ·have hyb : (y != 114) = true := bne_iff_ne.2 hye
       have e := hide (show castOk z f = false from castOk_bad (k := 3) (by decide) (show castAt z f 60 107 56 114 3 = false by unfold castAt; rw [unhide hcc, unhide hy, decide_eq_false hye, Bool.and_false]; rfl))
       go_wp2
       go_quiet (fail)
       go_wp2
       go_ret
       exact ⟨by rw [unhide e]; rfl, Gr.trans (unhide hg0) (Gr.drewN ((unhide hgr').alloc _ _) _)⟩
     ·have hxb : (x != 107) = true := bne_iff_ne.2 hxe
      have e := hide (show castOk z f = false from castOk_bad (k := 3) (by decide) (show castAt z f 60 107 56 114 3 = false by unfold castAt; rw [unhide hcc, unhide hx, decide_eq_false hxe, Bool.false_and]; rfl))
      go_wp2
      go_quiet (fail)
      go_wp2
      go_ret
      exact ⟨by rw [unhide e]; rfl, Gr.trans (unhide hg0) (Gr.drewN ((unhide hgr').alloc _ _) _)⟩
  ·have ek : k = 4 := by omega
   subst ek
   go_wp2
   go_ret
   exact ⟨by rw [castOk_all (unhide k3')]; rfl, Gr.trans (unhide hg0) (unhide hgr')⟩
end Go.Proofs.YtnfakamfmkhlbaaGreatDoor.C
