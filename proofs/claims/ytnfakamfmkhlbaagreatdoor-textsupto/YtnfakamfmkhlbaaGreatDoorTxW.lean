import Derived.Test.YtnfakamfmkhlbaaGreatDoorRfM
namespace Go.Proofs.YtnfakamfmkhlbaaGreatDoor.C
open Go.ChangeShapes Go.WideShapes Go.ChangeAt Go.RowKit
open Go.Proofs.YtnfakamfmkhlbaaGreatDoor.P
attribute [local go_sem] setCell_drewN alloc_drewN

/-- what Parse and Format ask of the world. -/
structure Ctx (m : Int) (w : World) : Prop where
  mx : w.cell? ⟨4, 0, none⟩ = some (.int .i64 m)
  ml : 4 < w.heap.size
  tab : TabIn w
  homes : Homes w
  pow : Tab w
theorem Ctx.gr {m : Int} {w w' : World} (h : Ctx m w) (g : Gr w w') : Ctx m w' :=
  ⟨(Below.cell g (p := ⟨4, 0, none⟩) h.ml).trans h.mx, Nat.lt_of_lt_of_le h.ml (Below.size g), h.tab.gr g, h.homes.gr g, h.pow.gr g⟩

/-- Parse has one answer. -/
theorem parse_one (s : ByteArray) : ∃ A n, A.size = 72 ∧ A.all (·.oneCell') = true ∧ (∀ w : World, (Op.equalIn 10000 25 (.agg A) (.agg A)).run Tryz.prog w = .ok true w) ∧ ∀ e, ParseEnd s e → e = .returned (.tuple #[.agg A, .int .i64 n]) := by
  cases hr : readS s with
  | none =>
    refine ⟨Tryz.zeroCells25, 1, zeroP, zeroP_ones, pos_same row_zero, fun e h => ?_⟩
    rcases h with ⟨q, q1, _, _⟩ | ⟨q, q1, _, _⟩ | ⟨_, rfl⟩
    · rw [hr] at q1; cases q1
    · rw [hr] at q1; cases q1
    · rfl
  | some p =>
    obtain ⟨B, b1, b2, _⟩ := read_back _ _ hr
    cases hc : posCan p with
    | true =>
      refine ⟨posV p, 0, (posV_ones b1 b2).1, (posV_ones b1 b2).2, pos_same (row_read hr), fun e h => ?_⟩
      rcases h with ⟨q, q1, q2, rfl⟩ | ⟨q, q1, q2, _⟩ | ⟨q1, _⟩
      · rw [hr] at q1; obtain rfl := Option.some.inj q1; rfl
      · rw [hr] at q1; obtain rfl := Option.some.inj q1; rw [hc] at q2; cases q2
      · rw [hr] at q1; cases q1
    | false =>
      refine ⟨Tryz.zeroCells25, 2, zeroP, zeroP_ones, pos_same row_zero, fun e h => ?_⟩
      rcases h with ⟨q, q1, q2, rfl⟩ | ⟨q, q1, q2, rfl⟩ | ⟨q1, _⟩
      · rw [hr] at q1; obtain rfl := Option.some.inj q1; rw [hc] at q2; cases q2
      · rfl
      · rw [hr] at q1; cases q1

theorem num_any (e : Int) (w : World) : Calls Tryz.prog 16 #[.int .i64 e] w fun r w' => r = .returned (.int .i64 e) ∧ w' = w := by
  go_enter Tryz.func16, Tryz.ntmps16
  go_wp2
  go_ret
  exact ⟨rfl, rfl⟩

structure Tb (w : World) (b : Nat) (A : Array Value) (cur : World) : Prop where
  gr : Gr w cur
  p : cur.heap[b]? = some (.cells A 25)
  lt : b < cur.heap.size
theorem Tb.next {w cur cur' : World} {b : Nat} {A : Array Value} (h : Tb w b A cur) (g : Gr cur cur') : Tb w b A cur' :=
  ⟨Gr.trans h.gr g, by rw [Below.block g _ h.lt]; exact h.p, Nat.lt_of_lt_of_le h.lt (Below.size g)⟩

set_option maxRecDepth 100000 in
set_option maxHeartbeats 8000000 in
theorem texts_any (s : ByteArray) (hs : s.size < 4294967281) (m : Int) (w : World) (hc : Ctx m w) : Calls Tryz.prog 13 #[.string s] w fun e w' => e = .returned (.bool true) ∧ Gr w w' := by
  obtain ⟨A, n, hz, ho, heq, hone⟩ := parse_one s
  have ho' := hide ho
  have heq' := hide heq
  have h1 : Hid (Calls Tryz.prog 12 #[.string s] w fun e w' => e = .returned (.tuple #[.agg A, .int .i64 n]) ∧ Gr w w') := hide ((parse_any s hs m w hc.mx hc.ml hc.tab hc.homes).mono fun e w' h => ⟨hone e h.1, h.2⟩)
  have h2 : Hid (∀ W : World, Calls Tryz.prog 38 #[.string s] W fun e w' => e = .returned (.tuple #[.agg A, .int .i64 n]) ∧ Gr W w') := hide (fun W => (parseR_any s hs W).mono fun e w' h => ⟨hone e h.1, h.2⟩)
  clear hone ho heq hc hs
  go_enter Tryz.func13, Tryz.ntmps13
  go_upto_region 2 with (first
    | (go_at_call 12; refine (unhide h1).mono ?_; rintro e w3 ⟨rfl, hg3⟩)
    | (refine wpList_store_row rfl 25 _ _ rfl w3.heap.size A rfl rfl 25 _ (heap_alloc_new _ _) (by rw [hz]; exact infoP) (by rw [hz]; exact zeroP.symm) (unhide ho') ?_))
  generalize hw4 : (w3.alloc (.cells Tryz.zeroCells25 25)).setRow w3.heap.size A = w4
  have hk4 : Tb w w3.heap.size A w4 := ⟨Gr.trans hg3 (by rw [← hw4]; exact ((Gr.refl w3).alloc _ _).setRow _ (Nat.le_refl _) _), by rw [← hw4]; exact setRow_heap _ _ _ _ _ _ (heap_alloc_new w3 _), by rw [← hw4, size_setRow, World.size_alloc]; omega⟩
  generalize w3.heap.size = b1 at hk4 ⊢
  clear hw4 hg3 h1
  go_upto_region 3 with (first
    | (go_at_call 38; refine (unhide h2 _).mono ?_; rintro e w5 ⟨rfl, hg5⟩)
    | (refine wpList_store_row rfl 25 _ _ rfl w5.heap.size A rfl rfl 25 _ (heap_alloc_new _ _) (by rw [hz]; exact infoP) (by rw [hz]; exact zeroP.symm) (unhide ho') ?_))
  generalize hw6 : (w5.alloc (.cells Tryz.zeroCells25 25)).setRow w5.heap.size A = w6
  have hg6 : Gr w5 w6 := by rw [← hw6]; exact ((Gr.refl w5).alloc _ _).setRow _ (Nat.le_refl _) _
  have hk6 := hk4.next (Gr.trans hg5 hg6)
  have hq6 : w6.heap[w5.heap.size]? = some (.cells A 25) := by rw [← hw6]; exact setRow_heap _ _ _ _ _ _ (heap_alloc_new w5 _)
  have hr1 := hide (rowAt_of hk6.p)
  have hr2 := hide (rowAt_of hq6)
  have hgr := hide hk6.gr
  generalize w5.heap.size = b2 at hr2 ⊢
  clear hw6 hg5 hk4 hk6 hg6 hq6 h2
  go_wp2_with (first
    | (refine wpList_load_pos (by rfl) _ rfl b1 rfl hz (unhide hr1) ?_)
    | (refine wpList_load_pos (by rfl) _ rfl b2 rfl hz (unhide hr2) ?_)
    | (refine wpList_eq_pos (by rfl) _ _ rfl rfl rfl (unhide heq') ?_)
    | (go_at_call 16; refine (num_any _ _).mono ?_; rintro e w' ⟨rfl, rfl⟩))
  go_ret
  exact ⟨rfl, unhide hgr⟩

def kingsB : ByteArray := ⟨#[52, 107, 51, 47, 56, 47, 56, 47, 56, 47, 56, 47, 56, 47, 56, 47, 52, 75, 51, 32, 119, 32, 45, 32, 45, 32, 48, 32, 49]⟩
theorem kings_all : (readS kingsB).map posCan = some true := by decide +kernel
theorem kings_read : ∃ p, readS kingsB = some p ∧ posCan p = true := Option.map_eq_some_iff.1 kings_all

set_option maxRecDepth 100000 in
set_option maxHeartbeats 8000000 in
theorem textsL_any (s : ByteArray) (hs : s.size < 4294967281) {B : List UInt8} {wh : Bool} {f : Nat → Bool} {b h g : Int} {PA : Array Value} (r : Row (zB B) wh f b h g PA) (m : Int) (w : World) (hc : Ctx m w) : Calls Tryz.prog 3 #[.string s, .agg PA] w fun e w' => e = .returned (.bool true) ∧ Gr w w' := by
  have hg1 : Gr w (w.alloc (.cells PA 25)) := (Gr.refl w).alloc _ _
  have hc1 := hide (hc.gr hg1)
  have hp1 : Tb w w.heap.size PA (w.alloc (.cells PA 25)) := ⟨hg1, heap_alloc_new _ _, by rw [World.size_alloc]; omega⟩
  obtain ⟨p0, f1, f2⟩ := kings_read
  have hz0 := (row_read f1).size
  have ho0 : Hid ((posV p0).all (·.oneCell') = true) := hide (row_ones (row_read f1))
  have hfirst : Hid (∀ W : World, Ctx m W → Calls Tryz.prog 12 #[.string kingsB] W fun e w' => e = .returned (.tuple #[.agg (posV p0), .int .i64 0]) ∧ Gr W w') := hide fun W c => (parse_any kingsB (by decide +kernel) m W c.mx c.ml c.tab c.homes).mono fun e w' k => ⟨(by
    rcases k.1 with ⟨q, q1, _, rfl⟩ | ⟨q, q1, q2, _⟩ | ⟨q1, _⟩
    · rw [Option.some.inj (q1.symm.trans f1)]
    · rw [Option.some.inj (q1.symm.trans f1), f2] at q2; cases q2
    · rw [f1] at q1; (cases q1)), k.2⟩
  have htx : Hid (∀ W : World, Ctx m W → Calls Tryz.prog 13 #[.string s] W fun e w' => e = .returned (.bool true) ∧ Gr W w') := hide fun W c => texts_any s hs m W c
  obtain ⟨S, n, hfm⟩ : ∃ S n, formatS (zB B) wh f b h g = .tuple #[.string S, .int .i64 n] := by
    unfold formatS; split
    · exact ⟨_, _, rfl⟩
    · exact ⟨_, _, rfl⟩
  have hf1 : Hid (∀ W : World, Ctx m W → Calls Tryz.prog 14 #[.agg PA] W fun e w' => e = .returned (.tuple #[.string S, .int .i64 n]) ∧ Gr W w') := hide fun W c => by rw [← hfm]; exact format_any r W c.tab c.homes c.pow
  have hf2 : Hid (∀ W : World, Calls Tryz.prog 15 #[.agg PA] W fun e w' => e = .returned (.tuple #[.string S, .int .i64 n]) ∧ Gr W w') := hide fun W => by rw [← hfm]; exact formatR_any r W
  have hzP := r.size
  clear hc hg1 r f1 f2 hs hfm
  generalize posV p0 = A0 at hz0 ho0 hfirst
  go_enter Tryz.func3, Tryz.ntmps3
  generalize hF : (⟨#[52, 107, 51, 47, 56, 47, 56, 47, 56, 47, 56, 47, 56, 47, 56, 47, 52, 75, 51, 32, 119, 32, 45, 32, 45, 32, 48, 32, 49]⟩ : ByteArray) = F
  rw [show kingsB = F from hF] at hfirst
  clear hF
  go_upto_region 2 with (first
    | (go_at_call 12; refine (unhide hfirst _ (unhide hc1)).mono ?_; rintro e w3 ⟨rfl, hg3⟩)
    | (refine wpList_store_row rfl 25 _ _ rfl w3.heap.size A0 rfl rfl 25 _ (heap_alloc_new _ _) (by rw [hz0]; exact infoP) (by rw [hz0]; exact zeroP.symm) (unhide ho0) ?_))
  have hg4 : Gr w3 ((w3.alloc (.cells Tryz.zeroCells25 25)).setRow w3.heap.size A0) := ((Gr.refl w3).alloc _ _).setRow _ (Nat.le_refl _) _
  have hp4 := hp1.next (Gr.trans hg3 hg4)
  have hc4 := hide ((unhide hc1).gr (Gr.trans hg3 hg4))
  generalize (w3.alloc (.cells Tryz.zeroCells25 25)).setRow w3.heap.size A0 = w4 at hp4 hc4 ⊢
  clear hp1 hc1 hg3 hg4 hfirst
  go_upto_region 3 with (go_at_call 13; refine (unhide htx _ (unhide hc4)).mono ?_; rintro e w5 ⟨rfl, hg5⟩)
  have hp5 := hp4.next hg5
  have hc5 := hide ((unhide hc4).gr hg5)
  clear hp4 hc4 hg5 htx
  go_upto_region 4 with (first
    | (refine wpList_load_row rfl 25 _ rfl w.heap.size rfl 25 PA (0, 0) _ (Tb.p (w := w) hp5) Tryz.underlying25 rfl (by rw [hzP]; exact infoP) ?_)
    | (go_at_call 14; refine (unhide hf1 _ (unhide hc5)).mono ?_; rintro e w6 ⟨rfl, hg6⟩))
  have hp6 := hp5.next hg6
  clear hp5 hc5 hg6 hf1
  go_upto_region 5 with (first
    | (refine wpList_load_row rfl 25 _ rfl w.heap.size rfl 25 PA (0, 0) _ (Tb.p (w := w) hp6) Tryz.underlying25 rfl (by rw [hzP]; exact infoP) ?_)
    | (go_at_call 15; refine (unhide hf2 _).mono ?_; rintro e w7 ⟨rfl, hg7⟩))
  have hp7 := hp6.next hg7
  clear hp6 hg7 hf2
  go_wp2_with (go_at_call 16; refine (num_any _ _).mono ?_; rintro e w' ⟨rfl, rfl⟩)
  go_ret
  exact ⟨rfl, hp7.gr⟩

end Go.Proofs.YtnfakamfmkhlbaaGreatDoor.C
