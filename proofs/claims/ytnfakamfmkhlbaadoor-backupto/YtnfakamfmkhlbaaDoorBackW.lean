import Derived.Test.YtnfakamfmkhlbaaDoorBackM
namespace Go.Proofs.YtnfakamfmkhlbaaDoor.C
open Go.ChangeShapes Go.WideShapes Go.ChangeAt Go.RowKit
open Go.Proofs.YtnfakamfmkhlbaaDoor.P
attribute [local go_sem] setCell_drewN alloc_drewN

/-- what Parse and Format ask of the world. -/
structure Ctx (m : Int) (w : World) : Prop where
  mx : w.cell? ⟨2, 0, none⟩ = some (.int .i64 m)
  ml : 2 < w.heap.size
  tab : TabIn w
  homes : Homes w
  pow : Tab w
theorem Ctx.gr {m : Int} {w w' : World} (h : Ctx m w) (g : Gr w w') : Ctx m w' :=
  ⟨(Below.cell g (p := ⟨2, 0, none⟩) h.ml).trans h.mx, Nat.lt_of_lt_of_le h.ml (Below.size g), h.tab.gr g, h.homes.gr g, h.pow.gr g⟩

/-- what the walk through Back holds on to: the box of p (in w1), the box of q. -/
structure Bk (w1 : World) (bq : Nat) (A : Array Value) (cur : World) : Prop where
  gr : Gr w1 cur
  q : cur.heap[bq]? = some (.cells A 25)
  lq : bq < cur.heap.size
  le : w1.heap.size ≤ bq
theorem Bk.next {w1 cur cur' : World} {bq : Nat} {A : Array Value} (h : Bk w1 bq A cur) (g : Gr cur cur') : Bk w1 bq A cur' :=
  ⟨Gr.trans h.gr g, by rw [Below.block g _ h.lq]; exact h.q, Nat.lt_of_lt_of_le h.lq (Below.size g), h.le⟩
theorem Bk.put {w1 cur : World} {bq : Nat} {A A' : Array Value} (h : Bk w1 bq A cur) : Bk w1 bq A' (cur.setRow bq A') :=
  ⟨h.gr.setRow _ h.le _, setRow_heap _ _ _ _ _ _ h.q, by rw [size_setRow]; exact h.lq, h.le⟩
theorem Bk.ctx {w1 cur : World} {bq : Nat} {A : Array Value} {m : Int} (h : Bk w1 bq A cur) (c : Ctx m w1) : Ctx m cur := c.gr h.gr
theorem Bk.p {w cur : World} {bq : Nat} {A PA : Array Value} (h : Bk (w.alloc (.cells PA 25)) bq A cur) (hb : (w.alloc (.cells PA 25)).heap[w.heap.size]? = some (.cells PA 25)) (hl : w.heap.size < (w.alloc (.cells PA 25)).heap.size) : cur.heap[w.heap.size]? = some (.cells PA 25) := by
  rw [Below.block h.gr _ hl]; exact hb
theorem Bk.cell {w1 cur : World} {bq : Nat} {A : Array Value} (h : Bk w1 bq A cur) {i : Nat} {v : Value} (hv : A[i]? = some v) : cur.cell? ⟨bq, i, none⟩ = some v := by
  rw [cell_of_row _ _ _ _ _ _ h.q]; exact hv

set_option maxRecDepth 100000 in
set_option maxHeartbeats 8000000 in
theorem back_any (s : ByteArray) (hs : s.size < 4294967281) {B : List UInt8} (hB : B.length = 64) {wh : Bool} {f : Nat → Bool} {b h g : Int} {PA : Array Value} (r : Row (zB B) wh f b h g PA) (m : Int) (w : World) (hc : Ctx m w) : Calls Tryd.prog 3 #[.string s, .agg PA] w fun e w' => e = .returned (.bool true) ∧ Gr w w' := by
  have hg1 : Gr w (w.alloc (.cells PA 25)) := (Gr.refl w).alloc _ _
  have hc1 := hide (hc.gr hg1)
  have hb1 : Hid ((w.alloc (.cells PA 25)).heap[w.heap.size]? = some (.cells PA 25)) := hide (heap_alloc_new _ _)
  have hl1 : Hid (w.heap.size < (w.alloc (.cells PA 25)).heap.size) := hide (by rw [World.size_alloc]; omega)
  have hg1' := hide hg1
  obtain ⟨p0, f1, f2, f3, f4, f5, f6, f7⟩ := first_read
  have hr0 := row_read f1
  have hz0 := hr0.size
  have ho0 : Hid ((posV p0).all (·.oneCell') = true) := hide (by
    obtain ⟨B0, b1, b2, _⟩ := read_back _ _ f1
    exact (posV_ones b1 b2).2)
  have c4 : Hid ((posV p0)[4]? = some (.int .u8 75)) := hide (by rw [hr0.sq 4 (by omega), f3]; rfl)
  have c52 : Hid ((posV p0)[52]? = some (.int .u8 112)) := hide (by rw [hr0.sq 52 (by omega), f4]; rfl)
  have c69 : Hid ((posV p0)[69]? = some (.int .i64 (-1))) := hide (by rw [hr0.b, f6])
  have c64 : Hid ((posV p0)[64]? = some (.bool true)) := hide (by rw [hr0.wh, f5])
  have c71 : Hid ((posV p0)[71]? = some (.int .i64 1)) := hide (by rw [hr0.g, f7])
  have hfirst : Hid (∀ W : World, Ctx m W → Calls Tryd.prog 4 #[.string firstB] W fun e w' => e = .returned (.tuple #[.agg (posV p0), .int .i64 0]) ∧ Gr W w') := hide fun W c => (parse_any firstB (by decide +kernel) m W c.mx c.ml c.tab c.homes).mono fun e w' k => ⟨(by
    rcases k.1 with ⟨q, q1, _, rfl⟩ | ⟨q, q1, q2, _⟩ | ⟨q1, _⟩
    · rw [Option.some.inj (q1.symm.trans f1)]
    · rw [Option.some.inj (q1.symm.trans f1), f2] at q2; cases q2
    · rw [f1] at q1; (cases q1)), k.2⟩
  have hform0 : Hid (∀ W : World, Ctx m W → Calls Tryd.prog 5 #[.agg (posV p0)] W fun e w' => e = .returned (.tuple #[.string firstB, .int .i64 0]) ∧ Gr W w') := hide fun W c => by
    have := format_any hr0 W c.tab c.homes c.pow
    rwa [format_read f1 f2] at this
  have hparse : Hid (∀ W : World, Ctx m W → Calls Tryd.prog 4 #[.string s] W fun e w' => ∃ A n, e = .returned (.tuple #[.agg A, .int .i64 n]) ∧ A.size = 72 ∧ A.all (·.oneCell') = true ∧ (n = 0 → ∀ W : World, Ctx m W → Calls Tryd.prog 5 #[.agg A] W fun e w' => e = .returned (.tuple #[.string s, .int .i64 0]) ∧ Gr W w') ∧ Gr W w') := hide fun W c => (parse_any s hs m W c.mx c.ml c.tab c.homes).mono fun e w' k => by
    rcases k.1 with ⟨q, q1, q2, rfl⟩ | ⟨q, q1, q2, rfl⟩ | ⟨q1, rfl⟩
    · obtain ⟨B0, b1, b2, _⟩ := read_back _ _ q1
      refine ⟨_, _, rfl, (posV_ones b1 b2).1, (posV_ones b1 b2).2, fun _ W c => ?_, k.2⟩
      have := format_any (row_read q1) W c.tab c.homes c.pow
      rwa [format_read q1 q2] at this
    · exact ⟨_, _, rfl, zeroP, zeroP_ones, (fun h => absurd h (by decide)), k.2⟩
    · exact ⟨_, _, rfl, zeroP, zeroP_ones, (fun h => absurd h (by decide)), k.2⟩
  have hformP : Hid (∀ W : World, Ctx m W → Calls Tryd.prog 5 #[.agg PA] W fun e w' => e = .returned (if canS (zB B) wh f b h g = true then .tuple #[.string ⟨(writeS (zB B) wh f b h g).toArray⟩, .int .i64 0] else .tuple #[.string ⟨#[]⟩, .int .i64 2]) ∧ Gr W w') := hide fun W c => format_any r W c.tab c.homes c.pow
  have hparseP : Hid (canS (zB B) wh f b h g = true → ∀ W : World, Ctx m W → Calls Tryd.prog 4 #[.string ⟨(writeS (zB B) wh f b h g).toArray⟩] W fun e w' => e = .returned (.tuple #[.agg PA, .int .i64 0]) ∧ Gr W w') := hide fun k W c => (parse_any _ (written_short k) m W c.mx c.ml c.tab c.homes).mono fun e w' q => ⟨parse_written hB r k q.1, q.2⟩
  have hsame := hide (pos_same r)
  have hzP := r.size
  have hoP : Hid (PA.all (·.oneCell') = true) := hide (row_ones r)
  generalize (⟨(writeS (zB B) wh f b h g).toArray⟩ : ByteArray) = S at hformP hparseP
  generalize canS (zB B) wh f b h g = qc at hformP hparseP
  clear hc hg1 r f1 f2 f3 f4 f5 f6 f7 hr0 hs hB
  generalize posV p0 = A0 at hz0 ho0 c4 c52 c69 c64 c71 hfirst hform0
  go_enter Tryd.func3, Tryd.ntmps3
  generalize hF : (⟨#[114, 110, 98, 113, 107, 98, 110, 114, 47, 112, 112, 112, 112, 112, 112, 112, 112, 47, 56, 47, 56, 47, 56, 47, 56, 47, 80, 80, 80, 80, 80, 80, 80, 80, 47, 82, 78, 66, 81, 75, 66, 78, 82, 32, 119, 32, 75, 81, 107, 113, 32, 45, 32, 48, 32, 49]⟩ : ByteArray) = F
  rw [show firstB = F from hF] at hfirst hform0
  clear hF
  go_upto_region 2 with (first
    | (go_at_call 4; refine (unhide hfirst _ (unhide hc1)).mono ?_; rintro e w3 ⟨rfl, hg3⟩)
    | (refine wpList_store_row rfl 25 _ _ rfl w3.heap.size A0 rfl rfl 25 _ (heap_alloc_new _ _) (by rw [hz0]; exact infoP) (by rw [hz0]; exact zeroP.symm) (unhide ho0) ?_))
  generalize hw4 : (w3.alloc (.cells Tryd.zeroCells25 25)).setRow w3.heap.size A0 = w4
  have hk4 : Bk (w.alloc (.cells PA 25)) w3.heap.size A0 w4 := ⟨Gr.trans hg3 (by rw [← hw4]; exact ((Gr.refl w3).alloc _ _).setRow _ (Nat.le_refl _) _), by rw [← hw4]; exact setRow_heap _ _ _ _ _ _ (heap_alloc_new w3 _), by rw [← hw4, size_setRow, World.size_alloc]; omega, Below.size hg3⟩
  generalize w3.heap.size = bq at hk4 ⊢
  clear hw4 hg3 hfirst
  go_upto_region 3 with (first
    | (refine wpList_load_row rfl 25 _ rfl bq rfl 25 A0 (0, 0) _ (Bk.q (w1 := w.alloc (.cells PA 25)) (by assumption)) Tryd.underlying25 rfl (by rw [hz0]; exact infoP) ?_)
    | (go_at_call 5; refine (unhide hform0 _ (Bk.ctx (bq := bq) (A := A0) (by assumption) (unhide hc1))).mono ?_; rintro e w5 ⟨rfl, hg5⟩))
  have hk5 := hk4.next hg5
  have e4 := hk5.cell (unhide c4)
  have e52 := hk5.cell (unhide c52)
  have e69 := hk5.cell (unhide c69)
  have e64 := hk5.cell (unhide c64)
  have e71 := hk5.cell (unhide c71)
  clear hk4 hg5 hform0 c4 c52 c69 c64 c71
  go_upto_region 5 with fail
  clear e4 e52 e69 e64 e71
  go_upto_region 6 with (first
    | (go_at_call 4; refine (unhide hparse _ (Bk.ctx (bq := bq) (A := A0) (by assumption) (unhide hc1))).mono ?_; rintro e w6 ⟨A, n, rfl, hzA, hoA, hfA, hg6⟩; have hk6 := Bk.next (by assumption) hg6)
    | (refine wpList_store_row rfl 25 _ _ rfl bq A rfl rfl 25 A0 (Bk.q (w1 := w.alloc (.cells PA 25)) (by assumption)) (by rw [hzA]; exact infoP) (by rw [hzA, hz0]) hoA ?_))
  generalize hw7 : w6.setRow bq A = w7
  have hk7 : Bk (w.alloc (.cells PA 25)) bq A w7 := by rw [← hw7]; exact hk6.put
  clear hw7 hk6 hk5 hg6 hparse
  by_cases hn : n = 0
  · subst hn
    have hfA' := hide (hfA rfl)
    clear hfA
    go_upto_region 10 with (first
      | (refine wpList_load_row rfl 25 _ rfl bq rfl 25 A (0, 0) _ (Bk.q (w1 := w.alloc (.cells PA 25)) (by assumption)) Tryd.underlying25 rfl (by rw [hzA]; exact infoP) ?_)
      | (go_at_call 5; refine (unhide hfA' _ (Bk.ctx (bq := bq) (A := A) (by assumption) (unhide hc1))).mono ?_; rintro e w8 ⟨rfl, hg8⟩))
    have hk8 := hk7.next hg8
    clear hk7 hg8 hfA'
    cases qc
    · simp only [Bool.false_eq_true, if_false] at hformP
      clear hparseP
      go_wp2_with (first
        | (refine wpList_load_row rfl 25 _ rfl w.heap.size rfl 25 PA (0, 0) _ (Bk.p (bq := bq) (A := A) (by assumption) (unhide hb1) (unhide hl1)) Tryd.underlying25 rfl (by rw [hzP]; exact infoP) ?_)
        | (go_at_call 5; refine (unhide hformP _ (Bk.ctx (bq := bq) (A := A) (by assumption) (unhide hc1))).mono ?_; rintro e w9 ⟨rfl, hg9⟩; have hk9 := Bk.next (by assumption) hg9))
      go_ret
      exact ⟨rfl, Gr.trans (unhide hg1') hk9.gr⟩
    · simp only [if_true] at hformP
      replace hparseP := hide (unhide hparseP rfl)
      go_upto_region 13 with (first
        | (refine wpList_load_row rfl 25 _ rfl w.heap.size rfl 25 PA (0, 0) _ (Bk.p (bq := bq) (A := A) (by assumption) (unhide hb1) (unhide hl1)) Tryd.underlying25 rfl (by rw [hzP]; exact infoP) ?_)
        | (go_at_call 5; refine (unhide hformP _ (Bk.ctx (bq := bq) (A := A) (by assumption) (unhide hc1))).mono ?_; rintro e w9 ⟨rfl, hg9⟩; have hk9 := Bk.next (by assumption) hg9)
        | (go_at_call 4; refine (unhide hparseP _ (Bk.ctx (bq := bq) (A := A) (by assumption) (unhide hc1))).mono ?_; rintro e w10 ⟨rfl, hg10⟩; have hk10 := Bk.next (by assumption) hg10)
        | (refine wpList_store_row rfl 25 _ _ rfl bq PA rfl rfl 25 A (Bk.q (w1 := w.alloc (.cells PA 25)) (by assumption)) (by rw [hzP]; exact infoP) (by rw [hzP, hzA]) (unhide hoP) ?_))
      have hk11 : Bk (w.alloc (.cells PA 25)) bq PA (w10.setRow bq PA) := hk10.put
      have hrq := hide (rowAt_of hk11.q)
      have hrp := hide (rowAt_of (hk11.p (unhide hb1) (unhide hl1)))
      generalize w10.setRow bq PA = w11 at hk11 hrq hrp ⊢
      clear hk9 hk10 hg9 hg10
      go_wp2_with (first
        | (refine wpList_load_pos (by rfl) _ rfl bq rfl hzP (unhide hrq) ?_)
        | (refine wpList_load_pos (by rfl) _ rfl w.heap.size rfl hzP (unhide hrp) ?_)
        | (refine wpList_eq_pos (by rfl) _ _ rfl rfl rfl (unhide hsame) ?_))
      go_ret
      exact ⟨rfl, Gr.trans (unhide hg1') hk11.gr⟩
  · clear hfA
    go_upto_region 10 with fail
    cases qc
    · simp only [Bool.false_eq_true, if_false] at hformP
      clear hparseP
      go_wp2_with (first
        | (refine wpList_load_row rfl 25 _ rfl w.heap.size rfl 25 PA (0, 0) _ (Bk.p (bq := bq) (A := A) (by assumption) (unhide hb1) (unhide hl1)) Tryd.underlying25 rfl (by rw [hzP]; exact infoP) ?_)
        | (go_at_call 5; refine (unhide hformP _ (Bk.ctx (bq := bq) (A := A) (by assumption) (unhide hc1))).mono ?_; rintro e w9 ⟨rfl, hg9⟩; have hk9 := Bk.next (by assumption) hg9))
      go_ret
      exact ⟨rfl, Gr.trans (unhide hg1') hk9.gr⟩
    · simp only [if_true] at hformP
      replace hparseP := hide (unhide hparseP rfl)
      go_upto_region 13 with (first
        | (refine wpList_load_row rfl 25 _ rfl w.heap.size rfl 25 PA (0, 0) _ (Bk.p (bq := bq) (A := A) (by assumption) (unhide hb1) (unhide hl1)) Tryd.underlying25 rfl (by rw [hzP]; exact infoP) ?_)
        | (go_at_call 5; refine (unhide hformP _ (Bk.ctx (bq := bq) (A := A) (by assumption) (unhide hc1))).mono ?_; rintro e w9 ⟨rfl, hg9⟩; have hk9 := Bk.next (by assumption) hg9)
        | (go_at_call 4; refine (unhide hparseP _ (Bk.ctx (bq := bq) (A := A) (by assumption) (unhide hc1))).mono ?_; rintro e w10 ⟨rfl, hg10⟩; have hk10 := Bk.next (by assumption) hg10)
        | (refine wpList_store_row rfl 25 _ _ rfl bq PA rfl rfl 25 A (Bk.q (w1 := w.alloc (.cells PA 25)) (by assumption)) (by rw [hzP]; exact infoP) (by rw [hzP, hzA]) (unhide hoP) ?_))
      have hk11 : Bk (w.alloc (.cells PA 25)) bq PA (w10.setRow bq PA) := hk10.put
      have hrq := hide (rowAt_of hk11.q)
      have hrp := hide (rowAt_of (hk11.p (unhide hb1) (unhide hl1)))
      generalize w10.setRow bq PA = w11 at hk11 hrq hrp ⊢
      clear hk9 hk10 hg9 hg10
      go_wp2_with (first
        | (refine wpList_load_pos (by rfl) _ rfl bq rfl hzP (unhide hrq) ?_)
        | (refine wpList_load_pos (by rfl) _ rfl w.heap.size rfl hzP (unhide hrp) ?_)
        | (refine wpList_eq_pos (by rfl) _ _ rfl rfl rfl (unhide hsame) ?_))
      go_ret
      exact ⟨rfl, Gr.trans (unhide hg1') hk11.gr⟩

end Go.Proofs.YtnfakamfmkhlbaaDoor.C
