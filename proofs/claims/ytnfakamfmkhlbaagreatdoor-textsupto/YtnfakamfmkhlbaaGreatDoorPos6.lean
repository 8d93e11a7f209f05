import Derived.Test.YtnfakamfmkhlbaaGreatDoorPos5
namespace Go.Proofs.YtnfakamfmkhlbaaGreatDoor.C
open Go.ChangeShapes Go.WideShapes Go.ChangeAt Go.RowKit
open Go.Proofs.YtnfakamfmkhlbaaGreatDoor.P
attribute [local go_sem] setCell_drewN alloc_drewN

/-- in this world the block holds this row. -/
def RowAt (b : Nat) (A : Array Value) (w : World) : Prop := b < w.heap.size ∧ w.rangeAt b 0 A.toList
theorem RowAt.gr {b : Nat} {A : Array Value} {w w' : World} (h : RowAt b A w) (g : Gr w w') : RowAt b A w' :=
  ⟨Nat.lt_of_lt_of_le h.1 (Below.size g), fun j v hv => (Below.cell g (p := ⟨b, 0 + j, none⟩) h.1).trans (h.2 j v hv)⟩
theorem infoP72 : (Tryz.prog.info? 25).map (·.size) = some 72 := by kernel_rfl

theorem wpList_load_pos {ops : Array Oper} {rest : List Oper} {o : Oper} {a : Act} {w : World} {A : Array Value} {Q : Exit → Act → World → Prop} (hw : Region.wanted o (yielded ops a.tmps) = true) (x : Operand) (ho : o.op = .load 25 x) (b : Nat) (hx : a.eval x = .pointer (some ⟨b, 0, none⟩)) (hz : A.size = 72) (hh : RowAt b A w)
    (h : wpList Tryz.prog ops Q rest (a.put o.dst (.agg A)) w) : wpList Tryz.prog ops Q (o :: rest) a w :=
  wpList_step fun K hK => by
    rw [if_pos hw]
    refine wp_load_mid (P := Tryz.prog) 25 x ho b 0 hx A.toList _ hh.2 Tryz.underlying25 rfl (by rw [infoP72]; simp [hz]) ?_
    rw [Array.toArray_toList]
    exact hK _ _ h

/-- all that the walk through CanBe holds on to. -/
structure Sp (w : World) (PA : Array Value) (bM : Nat) (M : Array Value) (wh : Bool) (cur : World) : Prop where
  row : RowAt w.heap.size PA cur
  wh : cur.cell? ⟨w.heap.size, 64, none⟩ = some (.bool wh)
  men : HeldAt bM M cur
  tab : TabIn cur
  homes : Homes cur
  gr : Gr w cur
theorem Sp.next {w cur cur' : World} {PA M : Array Value} {bM : Nat} {wh : Bool} (h : Sp w PA bM M wh cur) (g : Gr cur cur') : Sp w PA bM M wh cur' :=
  ⟨h.row.gr g, (Below.cell g (p := ⟨w.heap.size, 64, none⟩) h.row.1).trans h.wh, h.men.gr g, h.tab.gr g, h.homes.gr g, Gr.trans h.gr g⟩

def canM (z : Nat → UInt8) (wh : Bool) (f : Nat → Bool) (b h g : Int) (m : Nat → BitVec 64) : Bool := sideOk m true && sideOk m false && castOk z f && behOk z wh b && clkOk h g && !(otherS m wh)
/-- whether there can be such a position. -/
def canS (z : Nat → UInt8) (wh : Bool) (f : Nat → Bool) (b h g : Int) : Bool := layOk z && canM z wh f b h g (layS z 64)

theorem lay_yes {z : Nat → UInt8} {B : Array Value} (hok : layOk z = true) (hs : B.size = 64) (hB : ∀ i, i < 64 → B[i]? = some (.int .u8 ((z i).toNat : Int))) (w : World) : Calls Tryz.prog 73 #[.agg B] w fun e w' => ∃ M, e = .returned (.tuple #[.agg M, .bool true]) ∧ IsMen (layS z 64) M ∧ Gr w w' :=
  (lay_any z B hs hB w).mono fun e w' h => by
    obtain ⟨⟨M, h1, _, h3⟩, hg⟩ := h
    rw [hok] at h1
    exact ⟨M, h1, h3 hok, hg⟩
theorem lay_no {z : Nat → UInt8} {B : Array Value} (hok : layOk z = false) (hs : B.size = 64) (hB : ∀ i, i < 64 → B[i]? = some (.int .u8 ((z i).toNat : Int))) (w : World) : Calls Tryz.prog 73 #[.agg B] w fun e w' => ∃ M m, e = .returned (.tuple #[.agg M, .bool false]) ∧ IsMen m M ∧ Gr w w' :=
  (lay_any z B hs hB w).mono fun e w' h => by
    obtain ⟨⟨M, h1, ⟨m, hm⟩, _⟩, hg⟩ := h
    rw [hok] at h1
    exact ⟨M, m, h1, hm, hg⟩

set_option maxRecDepth 100000 in
set_option maxHeartbeats 8000000 in
theorem can_walk {z : Nat → UInt8} {wh : Bool} {f : Nat → Bool} {b h g : Int} {PA : Array Value} (r : Row z wh f b h g PA) (w : World) (hT : TabIn w) (hH : Homes w) (hok : layOk z = true) : Calls Tryz.prog 37 #[.agg PA] w fun e w' => e = .returned (.bool (canM z wh f b h g (layS z 64))) ∧ Gr w w' := by
  have hg1 : Gr w (w.alloc (.cells PA 25)) := (Gr.refl w).alloc _ _
  have hc : ∀ o, (w.alloc (.cells PA 25)).cell? ⟨w.heap.size, o, none⟩ = PA[o]? := fun o => World.cell?_alloc_at _ _ _ _ rfl
  have hrow : RowAt w.heap.size PA (w.alloc (.cells PA 25)) := ⟨by rw [World.size_alloc]; omega, fun j v hv => by rw [hc, Nat.zero_add, ← Array.getElem?_toList]; exact hv⟩
  have h64 : (w.alloc (.cells PA 25)).rangeAt w.heap.size 0 (PA.toList.take 64) := fun j v hv => by
    rw [hc, Nat.zero_add, ← Array.getElem?_toList]
    rw [List.getElem?_take] at hv
    split at hv
    · exact hv
    · cases hv
  have hz64 : (PA.toList.take 64).length = 64 := by simp [r.size]
  have hB : ∀ i, i < 64 → (PA.toList.take 64).toArray[i]? = some (.int .u8 ((z i).toNat : Int)) := fun i hi => by
    rw [List.getElem?_toArray, List.getElem?_take, if_pos hi, Array.getElem?_toList]; exact r.sq i hi
  have hlay := hide (lay_yes hok (by simpa using hz64) hB)
  have hwh0 : (w.alloc (.cells PA 25)).cell? ⟨w.heap.size, 64, none⟩ = some (.bool wh) := by rw [hc]; exact r.wh
  have hz := r.size
  have r' := hide r
  have hT' := hide (hT.gr hg1)
  have hH' := hide (hH.gr hg1)
  have hg1' := hide hg1
  have h64' := hide h64
  have hi64 : Hid ((Tryz.prog.info? 22).map (·.size) = some (PA.toList.take 64).length) := hide (by rw [hz64]; exact info64)
  have hrow' := hide hrow
  have hwh' := hide hwh0
  clear r hT hH hg1 h64 hrow hB hc hwh0 hz64 hok
  generalize PA.toList.take 64 = L at hlay h64' hi64
  generalize layS z 64 = m at hlay ⊢
  have k0 : Hid (∀ (bb : Bool) (M : Array Value) (W : World), IsMen m M → TabIn W → Calls Tryz.prog 74 #[.agg M, .bool bb] W fun e w' => e = .returned (.bool (sideOk m bb)) ∧ Gr W w') := hide fun bb M W h t => sidecan_any m M h bb W t
  have k2 : Hid (∀ W : World, Homes W → Calls Tryz.prog 75 #[.agg PA] W fun e w' => e = .returned (.bool (castOk z f)) ∧ Gr W w') := hide fun W t => cast_any (unhide r') W t
  have k3 : Hid (∀ W : World, Calls Tryz.prog 76 #[.agg PA] W fun e w' => e = .returned (.bool (behOk z wh b)) ∧ Gr W w') := hide fun W => behok_any (unhide r') W
  have k4 : Hid (∀ W : World, Calls Tryz.prog 77 #[.agg PA] W fun e w' => e = .returned (.bool (clkOk h g)) ∧ Gr W w') := hide fun W => clocks_any (unhide r') W
  have k5 : Hid (∀ (M : Array Value) (W : World), IsMen m M → TabIn W → Calls Tryz.prog 78 #[.agg M, .bool wh] W fun e w' => e = .returned (.bool (otherS m wh)) ∧ Gr W w') := hide fun M W h t => other_any m M h wh W t
  have hcan : Hid (canM z wh f b h g m = (sideOk m true && sideOk m false && castOk z f && behOk z wh b && clkOk h g && !(otherS m wh))) := hide rfl
  generalize sideOk m = qs at k0 hcan
  generalize castOk z f = q2 at k2 hcan
  generalize behOk z wh b = q3 at k3 hcan
  generalize clkOk h g = q4 at k4 hcan
  generalize otherS m wh = q5 at k5 hcan
  obtain ⟨q0, hq0⟩ : ∃ q, Hid (qs true = q) := ⟨_, hide rfl⟩
  obtain ⟨q1, hq1⟩ : ∃ q, Hid (qs false = q) := ⟨_, hide rfl⟩
  have hcan2 : Hid (canM z wh f b h g m = (q0 && q1 && q2 && q3 && q4 && !q5)) := hide (by rw [unhide hcan, unhide hq0, unhide hq1])
  clear hcan
  go_enter Tryz.func37, Tryz.ntmps37
  go_upto_region 2 with (first
    | (refine wpList_load_mid rfl 22 _ rfl w.heap.size 0 rfl L _ (unhide h64') Tryz.underlying22 rfl (unhide hi64) ?_)
    | (go_at_call 73; refine (unhide hlay _).mono ?_; rintro e w2 ⟨M, rfl, hM, hg2⟩)
    | (refine wpList_store_row rfl 151 _ _ rfl w2.heap.size M rfl rfl 151 _ (heap_alloc_new _ _) hM.info hM.1.symm hM.ones ?_))
  generalize hw3 : (w2.alloc (.cells #[.int .u64 0, .int .u64 0, .int .u64 0, .int .u64 0, .int .u64 0, .int .u64 0, .int .u64 0, .int .u64 0, .int .u64 0, .int .u64 0, .int .u64 0, .int .u64 0] 151)).setRow w2.heap.size M = w3
  have hb3 : w3.heap[w2.heap.size]? = some (.cells M 151) := by rw [← hw3]; exact setRow_heap _ _ _ _ _ _ (heap_alloc_new w2 _)
  have hg3 : Gr w2 w3 := by rw [← hw3]; exact ((Gr.refl w2).alloc _ _).setRow _ (Nat.le_refl _) _
  have hg13 : Gr (w.alloc (.cells PA 25)) w3 := Gr.trans hg2 hg3
  have hsp : Sp w PA w2.heap.size M wh w3 := ⟨(unhide hrow').gr hg13, (Below.cell hg13 (p := ⟨w.heap.size, 64, none⟩) (unhide hrow').1).trans (unhide hwh'), held_of_block hb3 hM.1, (unhide hT').gr hg13, (unhide hH').gr hg13, Gr.trans (unhide hg1') hg13⟩
  have hwc := hsp.wh
  clear hw3 hb3 hg3 hg13 hg2 hlay h64' hi64 hrow' hwh' hT' hH' hg1' r'
  cases q0
  · go_wp2_with (first
      | (refine wpList_load_men (by rfl) _ rfl w2.heap.size rfl (Sp.men (w := w) (PA := PA) (wh := wh) (by assumption)) ?_)
      | (refine wpList_load_pos (by rfl) _ rfl w.heap.size rfl hz (Sp.row (bM := w2.heap.size) (M := M) (wh := wh) (by assumption)) ?_)
      | (go_at_call 74; refine (unhide k0 _ M _ hM (Sp.tab (w := w) (PA := PA) (bM := w2.heap.size) (M := M) (wh := wh) (by assumption))).mono ?_; rintro e w' ⟨rfl, hg⟩; (first | rw [unhide hq0] | rw [unhide hq1]); have hsp := Sp.next (by assumption) hg; have hwc := hsp.wh)
      | (go_at_call 75; refine (unhide k2 _ (Sp.homes (w := w) (PA := PA) (bM := w2.heap.size) (M := M) (wh := wh) (by assumption))).mono ?_; rintro e w' ⟨rfl, hg⟩; have hsp := Sp.next (by assumption) hg; have hwc := hsp.wh)
      | (go_at_call 76; refine (unhide k3 _).mono ?_; rintro e w' ⟨rfl, hg⟩; have hsp := Sp.next (by assumption) hg; have hwc := hsp.wh)
      | (go_at_call 77; refine (unhide k4 _).mono ?_; rintro e w' ⟨rfl, hg⟩; have hsp := Sp.next (by assumption) hg; have hwc := hsp.wh)
      | (go_at_call 78; refine (unhide k5 M _ hM (Sp.tab (w := w) (PA := PA) (bM := w2.heap.size) (M := M) (wh := wh) (by assumption))).mono ?_; rintro e w' ⟨rfl, hg⟩; have hsp := Sp.next (by assumption) hg; have hwc := hsp.wh))
    go_ret
    exact ⟨by rw [unhide hcan2]; rfl, hsp.gr⟩
  · cases q1
    · go_wp2_with (first
        | (refine wpList_load_men (by rfl) _ rfl w2.heap.size rfl (Sp.men (w := w) (PA := PA) (wh := wh) (by assumption)) ?_)
        | (refine wpList_load_pos (by rfl) _ rfl w.heap.size rfl hz (Sp.row (bM := w2.heap.size) (M := M) (wh := wh) (by assumption)) ?_)
        | (go_at_call 74; refine (unhide k0 _ M _ hM (Sp.tab (w := w) (PA := PA) (bM := w2.heap.size) (M := M) (wh := wh) (by assumption))).mono ?_; rintro e w' ⟨rfl, hg⟩; (first | rw [unhide hq0] | rw [unhide hq1]); have hsp := Sp.next (by assumption) hg; have hwc := hsp.wh)
        | (go_at_call 75; refine (unhide k2 _ (Sp.homes (w := w) (PA := PA) (bM := w2.heap.size) (M := M) (wh := wh) (by assumption))).mono ?_; rintro e w' ⟨rfl, hg⟩; have hsp := Sp.next (by assumption) hg; have hwc := hsp.wh)
        | (go_at_call 76; refine (unhide k3 _).mono ?_; rintro e w' ⟨rfl, hg⟩; have hsp := Sp.next (by assumption) hg; have hwc := hsp.wh)
        | (go_at_call 77; refine (unhide k4 _).mono ?_; rintro e w' ⟨rfl, hg⟩; have hsp := Sp.next (by assumption) hg; have hwc := hsp.wh)
        | (go_at_call 78; refine (unhide k5 M _ hM (Sp.tab (w := w) (PA := PA) (bM := w2.heap.size) (M := M) (wh := wh) (by assumption))).mono ?_; rintro e w' ⟨rfl, hg⟩; have hsp := Sp.next (by assumption) hg; have hwc := hsp.wh))
      go_ret
      exact ⟨by rw [unhide hcan2]; rfl, hsp.gr⟩
    · cases q2
      · go_wp2_with (first
          | (refine wpList_load_men (by rfl) _ rfl w2.heap.size rfl (Sp.men (w := w) (PA := PA) (wh := wh) (by assumption)) ?_)
          | (refine wpList_load_pos (by rfl) _ rfl w.heap.size rfl hz (Sp.row (bM := w2.heap.size) (M := M) (wh := wh) (by assumption)) ?_)
          | (go_at_call 74; refine (unhide k0 _ M _ hM (Sp.tab (w := w) (PA := PA) (bM := w2.heap.size) (M := M) (wh := wh) (by assumption))).mono ?_; rintro e w' ⟨rfl, hg⟩; (first | rw [unhide hq0] | rw [unhide hq1]); have hsp := Sp.next (by assumption) hg; have hwc := hsp.wh)
          | (go_at_call 75; refine (unhide k2 _ (Sp.homes (w := w) (PA := PA) (bM := w2.heap.size) (M := M) (wh := wh) (by assumption))).mono ?_; rintro e w' ⟨rfl, hg⟩; have hsp := Sp.next (by assumption) hg; have hwc := hsp.wh)
          | (go_at_call 76; refine (unhide k3 _).mono ?_; rintro e w' ⟨rfl, hg⟩; have hsp := Sp.next (by assumption) hg; have hwc := hsp.wh)
          | (go_at_call 77; refine (unhide k4 _).mono ?_; rintro e w' ⟨rfl, hg⟩; have hsp := Sp.next (by assumption) hg; have hwc := hsp.wh)
          | (go_at_call 78; refine (unhide k5 M _ hM (Sp.tab (w := w) (PA := PA) (bM := w2.heap.size) (M := M) (wh := wh) (by assumption))).mono ?_; rintro e w' ⟨rfl, hg⟩; have hsp := Sp.next (by assumption) hg; have hwc := hsp.wh))
        go_ret
        exact ⟨by rw [unhide hcan2]; rfl, hsp.gr⟩
      · cases q3
        · go_wp2_with (first
            | (refine wpList_load_men (by rfl) _ rfl w2.heap.size rfl (Sp.men (w := w) (PA := PA) (wh := wh) (by assumption)) ?_)
            | (refine wpList_load_pos (by rfl) _ rfl w.heap.size rfl hz (Sp.row (bM := w2.heap.size) (M := M) (wh := wh) (by assumption)) ?_)
            | (go_at_call 74; refine (unhide k0 _ M _ hM (Sp.tab (w := w) (PA := PA) (bM := w2.heap.size) (M := M) (wh := wh) (by assumption))).mono ?_; rintro e w' ⟨rfl, hg⟩; (first | rw [unhide hq0] | rw [unhide hq1]); have hsp := Sp.next (by assumption) hg; have hwc := hsp.wh)
            | (go_at_call 75; refine (unhide k2 _ (Sp.homes (w := w) (PA := PA) (bM := w2.heap.size) (M := M) (wh := wh) (by assumption))).mono ?_; rintro e w' ⟨rfl, hg⟩; have hsp := Sp.next (by assumption) hg; have hwc := hsp.wh)
            | (go_at_call 76; refine (unhide k3 _).mono ?_; rintro e w' ⟨rfl, hg⟩; have hsp := Sp.next (by assumption) hg; have hwc := hsp.wh)
            | (go_at_call 77; refine (unhide k4 _).mono ?_; rintro e w' ⟨rfl, hg⟩; have hsp := Sp.next (by assumption) hg; have hwc := hsp.wh)
            | (go_at_call 78; refine (unhide k5 M _ hM (Sp.tab (w := w) (PA := PA) (bM := w2.heap.size) (M := M) (wh := wh) (by assumption))).mono ?_; rintro e w' ⟨rfl, hg⟩; have hsp := Sp.next (by assumption) hg; have hwc := hsp.wh))
          go_ret
          exact ⟨by rw [unhide hcan2]; rfl, hsp.gr⟩
        · cases q4
          · go_wp2_with (first
              | (refine wpList_load_men (by rfl) _ rfl w2.heap.size rfl (Sp.men (w := w) (PA := PA) (wh := wh) (by assumption)) ?_)
              | (refine wpList_load_pos (by rfl) _ rfl w.heap.size rfl hz (Sp.row (bM := w2.heap.size) (M := M) (wh := wh) (by assumption)) ?_)
              | (go_at_call 74; refine (unhide k0 _ M _ hM (Sp.tab (w := w) (PA := PA) (bM := w2.heap.size) (M := M) (wh := wh) (by assumption))).mono ?_; rintro e w' ⟨rfl, hg⟩; (first | rw [unhide hq0] | rw [unhide hq1]); have hsp := Sp.next (by assumption) hg; have hwc := hsp.wh)
              | (go_at_call 75; refine (unhide k2 _ (Sp.homes (w := w) (PA := PA) (bM := w2.heap.size) (M := M) (wh := wh) (by assumption))).mono ?_; rintro e w' ⟨rfl, hg⟩; have hsp := Sp.next (by assumption) hg; have hwc := hsp.wh)
              | (go_at_call 76; refine (unhide k3 _).mono ?_; rintro e w' ⟨rfl, hg⟩; have hsp := Sp.next (by assumption) hg; have hwc := hsp.wh)
              | (go_at_call 77; refine (unhide k4 _).mono ?_; rintro e w' ⟨rfl, hg⟩; have hsp := Sp.next (by assumption) hg; have hwc := hsp.wh)
              | (go_at_call 78; refine (unhide k5 M _ hM (Sp.tab (w := w) (PA := PA) (bM := w2.heap.size) (M := M) (wh := wh) (by assumption))).mono ?_; rintro e w' ⟨rfl, hg⟩; have hsp := Sp.next (by assumption) hg; have hwc := hsp.wh))
            go_ret
            exact ⟨by rw [unhide hcan2]; rfl, hsp.gr⟩
          · cases q5
            · go_wp2_with (first
                | (refine wpList_load_men (by rfl) _ rfl w2.heap.size rfl (Sp.men (w := w) (PA := PA) (wh := wh) (by assumption)) ?_)
                | (refine wpList_load_pos (by rfl) _ rfl w.heap.size rfl hz (Sp.row (bM := w2.heap.size) (M := M) (wh := wh) (by assumption)) ?_)
                | (go_at_call 74; refine (unhide k0 _ M _ hM (Sp.tab (w := w) (PA := PA) (bM := w2.heap.size) (M := M) (wh := wh) (by assumption))).mono ?_; rintro e w' ⟨rfl, hg⟩; (first | rw [unhide hq0] | rw [unhide hq1]); have hsp := Sp.next (by assumption) hg; have hwc := hsp.wh)
                | (go_at_call 75; refine (unhide k2 _ (Sp.homes (w := w) (PA := PA) (bM := w2.heap.size) (M := M) (wh := wh) (by assumption))).mono ?_; rintro e w' ⟨rfl, hg⟩; have hsp := Sp.next (by assumption) hg; have hwc := hsp.wh)
                | (go_at_call 76; refine (unhide k3 _).mono ?_; rintro e w' ⟨rfl, hg⟩; have hsp := Sp.next (by assumption) hg; have hwc := hsp.wh)
                | (go_at_call 77; refine (unhide k4 _).mono ?_; rintro e w' ⟨rfl, hg⟩; have hsp := Sp.next (by assumption) hg; have hwc := hsp.wh)
                | (go_at_call 78; refine (unhide k5 M _ hM (Sp.tab (w := w) (PA := PA) (bM := w2.heap.size) (M := M) (wh := wh) (by assumption))).mono ?_; rintro e w' ⟨rfl, hg⟩; have hsp := Sp.next (by assumption) hg; have hwc := hsp.wh))
              go_ret
              exact ⟨by rw [unhide hcan2]; rfl, hsp.gr⟩
            · go_wp2_with (first
                | (refine wpList_load_men (by rfl) _ rfl w2.heap.size rfl (Sp.men (w := w) (PA := PA) (wh := wh) (by assumption)) ?_)
                | (refine wpList_load_pos (by rfl) _ rfl w.heap.size rfl hz (Sp.row (bM := w2.heap.size) (M := M) (wh := wh) (by assumption)) ?_)
                | (go_at_call 74; refine (unhide k0 _ M _ hM (Sp.tab (w := w) (PA := PA) (bM := w2.heap.size) (M := M) (wh := wh) (by assumption))).mono ?_; rintro e w' ⟨rfl, hg⟩; (first | rw [unhide hq0] | rw [unhide hq1]); have hsp := Sp.next (by assumption) hg; have hwc := hsp.wh)
                | (go_at_call 75; refine (unhide k2 _ (Sp.homes (w := w) (PA := PA) (bM := w2.heap.size) (M := M) (wh := wh) (by assumption))).mono ?_; rintro e w' ⟨rfl, hg⟩; have hsp := Sp.next (by assumption) hg; have hwc := hsp.wh)
                | (go_at_call 76; refine (unhide k3 _).mono ?_; rintro e w' ⟨rfl, hg⟩; have hsp := Sp.next (by assumption) hg; have hwc := hsp.wh)
                | (go_at_call 77; refine (unhide k4 _).mono ?_; rintro e w' ⟨rfl, hg⟩; have hsp := Sp.next (by assumption) hg; have hwc := hsp.wh)
                | (go_at_call 78; refine (unhide k5 M _ hM (Sp.tab (w := w) (PA := PA) (bM := w2.heap.size) (M := M) (wh := wh) (by assumption))).mono ?_; rintro e w' ⟨rfl, hg⟩; have hsp := Sp.next (by assumption) hg; have hwc := hsp.wh))
              go_ret
              exact ⟨by rw [unhide hcan2]; rfl, hsp.gr⟩

set_option maxRecDepth 100000 in
set_option maxHeartbeats 8000000 in
theorem can_no {z : Nat → UInt8} {wh : Bool} {f : Nat → Bool} {b h g : Int} {PA : Array Value} (r : Row z wh f b h g PA) (w : World) (hok : layOk z = false) : Calls Tryz.prog 37 #[.agg PA] w fun e w' => e = .returned (.bool false) ∧ Gr w w' := by
  have hg1 : Gr w (w.alloc (.cells PA 25)) := (Gr.refl w).alloc _ _
  have hc : ∀ o, (w.alloc (.cells PA 25)).cell? ⟨w.heap.size, o, none⟩ = PA[o]? := fun o => World.cell?_alloc_at _ _ _ _ rfl
  have h64 : (w.alloc (.cells PA 25)).rangeAt w.heap.size 0 (PA.toList.take 64) := fun j v hv => by
    rw [hc, Nat.zero_add, ← Array.getElem?_toList]
    rw [List.getElem?_take] at hv
    split at hv
    · exact hv
    · cases hv
  have hz64 : (PA.toList.take 64).length = 64 := by simp [r.size]
  have hB : ∀ i, i < 64 → (PA.toList.take 64).toArray[i]? = some (.int .u8 ((z i).toNat : Int)) := fun i hi => by
    rw [List.getElem?_toArray, List.getElem?_take, if_pos hi, Array.getElem?_toList]; exact r.sq i hi
  have hlay := hide (lay_no hok (by simpa using hz64) hB)
  have hg1' := hide hg1
  have h64' := hide h64
  have hi64 : Hid ((Tryz.prog.info? 22).map (·.size) = some (PA.toList.take 64).length) := hide (by rw [hz64]; exact info64)
  have hz := r.size
  clear r hg1 h64 hB hc hz64 hok
  generalize PA.toList.take 64 = L at hlay h64' hi64
  go_enter Tryz.func37, Tryz.ntmps37
  go_upto_region 2 with (first
    | (refine wpList_load_mid rfl 22 _ rfl w.heap.size 0 rfl L _ (unhide h64') Tryz.underlying22 rfl (unhide hi64) ?_)
    | (go_at_call 73; refine (unhide hlay _).mono ?_; rintro e w2 ⟨M, m, rfl, hM, hg2⟩)
    | (refine wpList_store_row rfl 151 _ _ rfl w2.heap.size M rfl rfl 151 _ (heap_alloc_new _ _) hM.info hM.1.symm hM.ones ?_))
  generalize hw3 : (w2.alloc (.cells #[.int .u64 0, .int .u64 0, .int .u64 0, .int .u64 0, .int .u64 0, .int .u64 0, .int .u64 0, .int .u64 0, .int .u64 0, .int .u64 0, .int .u64 0, .int .u64 0] 151)).setRow w2.heap.size M = w3
  have hg3 : Gr w2 w3 := by rw [← hw3]; exact ((Gr.refl w2).alloc _ _).setRow _ (Nat.le_refl _) _
  have hg13 : Gr w w3 := Gr.trans (unhide hg1') (Gr.trans hg2 hg3)
  clear hw3 hg3 hg2 hlay h64' hi64 hg1'
  go_wp2_with (fail)
  go_ret
  exact ⟨rfl, hg13⟩

/-- CanBe is canS. -/
theorem can_any {z : Nat → UInt8} {wh : Bool} {f : Nat → Bool} {b h g : Int} {PA : Array Value} (r : Row z wh f b h g PA) (w : World) (hT : TabIn w) (hH : Homes w) : Calls Tryz.prog 37 #[.agg PA] w fun e w' => e = .returned (.bool (canS z wh f b h g)) ∧ Gr w w' := by
  cases hok : layOk z
  · refine (can_no r w hok).mono fun e w' k => ⟨k.1.trans ?_, k.2⟩
    rw [canS, hok]; rfl
  · refine (can_walk r w hT hH hok).mono fun e w' k => ⟨k.1.trans ?_, k.2⟩
    rw [canS, hok]; rfl

end Go.Proofs.YtnfakamfmkhlbaaGreatDoor.C
