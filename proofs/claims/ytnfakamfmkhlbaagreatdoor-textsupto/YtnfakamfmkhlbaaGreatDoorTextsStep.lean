import Derived.Test.YtnfakamfmkhlbaaGreatDoorCards
import Derived.Test.YtnfakamfmkhlbaaGreatDoorTie
import Derived.Test.YtnfakamfmkhlbaaGreatDoorTxW
import Derived.WalkKit
import Derived.ProofKit
import Derived.OpenShut
import Derived.Carry
import Derived.Deep.DeepHandedRow
import Derived.Lib.LaidU8
import Derived.WideKeyArgs
import Derived.Lay
import Derived.MakeChecks
namespace Go.Proofs.YtnfakamfmkhlbaaGreatDoor.texts
open Go.ChangeShapes Go.WideShapes Go.ChangeAt Go.RowKit
open Go.Proofs.YtnfakamfmkhlbaaGreatDoor.C Go.Proofs.YtnfakamfmkhlbaaGreatDoor.P

set_option maxRecDepth 100000
theorem own : ownKnob Tryz.prog.godebug = none := by kernel_rfl

/-! ### the position that comes in -/
theorem cellTypes25 : Tryz.prog.cellTypes Tryz.prog.depth 25 = some (List.replicate 64 5 ++ [4, 4, 4, 4, 4, 3, 3, 3]) := by kernel_rfl
theorem cellsOf25 : Tryz.prog.cellsOf 25 = 72 := by kernel_rfl
theorem cell_u8 {W : World} {base : Nat} {v : Value} (h : Cell.okWide Tryz.prog W .any base 5 v) : ∃ c : UInt8, v = .int .u8 (c.toNat : Int) := by
  simp only [Cell.okWide, Cell.ok, Tryz.underlying5] at h
  cases v <;> simp at h
  rename_i k n
  obtain ⟨rfl, h⟩ := h
  have h1 : 0 ≤ n ∧ n ≤ 255 := ⟨h.1, h.2⟩
  refine ⟨UInt8.ofNat n.toNat, ?_⟩
  rw [UInt8.toNat_ofNat_of_lt' (by show n.toNat < 256; omega)]
  rw [Int.toNat_of_nonneg h1.1]
theorem cell_bool {W : World} {base : Nat} {v : Value} (h : Cell.okWide Tryz.prog W .any base 4 v) : ∃ c : Bool, v = .bool c := by
  simp only [Cell.okWide, Cell.ok, Tryz.underlying4] at h
  cases v <;> simp at h
  exact ⟨_, rfl⟩
theorem cell_int {W : World} {base : Nat} {v : Value} (h : Cell.okWide Tryz.prog W .any base 3 v) : ∃ c : Int, v = .int .i64 c := by
  simp only [Cell.okWide, Cell.ok, Tryz.underlying3] at h
  cases v <;> simp at h
  rename_i k n
  obtain ⟨rfl, h⟩ := h
  exact ⟨_, rfl⟩
theorem pos_opens {W : World} {base : Nat} {v : Value} (h : Value.okWide Tryz.prog W .any base 25 v) : ∃ PA B wh f b h g, v = .agg PA ∧ B.length = 64 ∧ Row (zB B) wh f b h g PA := by
  simp only [Value.okWide, Tryz.underlying25] at h
  obtain ⟨cs, rfl, hs, ts, hts, _, hcell⟩ := h
  rw [cellsOf25] at hs
  rw [cellTypes25] at hts
  obtain rfl := Option.some.inj hts
  have hl : (List.replicate 64 5 ++ [4, 4, 4, 4, 4, 3, 3, 3]).length = 72 := by decide
  have at' : ∀ i, (hi : i < 72) → ∃ u, (List.replicate 64 5 ++ [4, 4, 4, 4, 4, 3, 3, 3])[i]? = some u ∧ Cell.okWide Tryz.prog W .any base u (cs[i]'(by omega)) := fun i hi => by
    obtain ⟨u, h1, h2⟩ := hcell i (cs[i]'(by omega)) (Array.getElem?_eq_getElem (by omega))
    rw [hl, Nat.mod_eq_of_lt hi] at h1
    exact ⟨u, h1, h2⟩
  have sq : ∀ i, (hi : i < 64) → ∃ c : UInt8, cs[i]'(by omega) = .int .u8 (c.toNat : Int) := fun i hi => by
    obtain ⟨u, h1, h2⟩ := at' i (by omega)
    rw [List.getElem?_append_left (by simpa using hi), List.getElem?_replicate, if_pos hi] at h1
    obtain rfl := Option.some.inj h1
    exact cell_u8 h2
  have bo : ∀ i, (hi : 64 ≤ i ∧ i < 69) → ∃ c : Bool, cs[i]'(by omega) = .bool c := fun i hi => by
    obtain ⟨u, h1, h2⟩ := at' i (by omega)
    have : i = 64 ∨ i = 65 ∨ i = 66 ∨ i = 67 ∨ i = 68 := by omega
    rcases this with rfl | rfl | rfl | rfl | rfl
    all_goals
      obtain rfl := Option.some.inj h1
      exact cell_bool h2
  have nu : ∀ i, (hi : 69 ≤ i ∧ i < 72) → ∃ c : Int, cs[i]'(by omega) = .int .i64 c := fun i hi => by
    obtain ⟨u, h1, h2⟩ := at' i (by omega)
    have : i = 69 ∨ i = 70 ∨ i = 71 := by omega
    rcases this with rfl | rfl | rfl
    all_goals
      obtain rfl := Option.some.inj h1
      exact cell_int h2
  have sq' : ∀ i : Fin 64, ∃ c : UInt8, cs[i.val]? = some (.int .u8 (c.toNat : Int)) := fun i => by
    obtain ⟨c, hc⟩ := sq i.val i.isLt
    exact ⟨c, by rw [Array.getElem?_eq_getElem (by have := i.isLt; omega), hc]⟩
  have bo' : ∀ i, 64 ≤ i ∧ i < 69 → ∃ c : Bool, cs[i]? = some (.bool c) := fun i hi => by
    obtain ⟨c, hc⟩ := bo i hi
    exact ⟨c, by rw [Array.getElem?_eq_getElem (by omega), hc]⟩
  have nu' : ∀ i, 69 ≤ i ∧ i < 72 → ∃ c : Int, cs[i]? = some (.int .i64 c) := fun i hi => by
    obtain ⟨c, hc⟩ := nu i hi
    exact ⟨c, by rw [Array.getElem?_eq_getElem (by omega), hc]⟩
  clear sq bo nu at' hcell
  obtain ⟨zf, hzf⟩ : ∃ zf : Fin 64 → UInt8, ∀ i : Fin 64, cs[i.val]? = some (.int .u8 ((zf i).toNat : Int)) := ⟨fun i => (sq' i).choose, fun i => (sq' i).choose_spec⟩
  obtain ⟨wh, e64⟩ := bo' 64 (by omega)
  obtain ⟨c0, e65⟩ := bo' 65 (by omega)
  obtain ⟨c1, e66⟩ := bo' 66 (by omega)
  obtain ⟨c2, e67⟩ := bo' 67 (by omega)
  obtain ⟨c3, e68⟩ := bo' 68 (by omega)
  obtain ⟨b, e69⟩ := nu' 69 (by omega)
  obtain ⟨h, e70⟩ := nu' 70 (by omega)
  obtain ⟨g, e71⟩ := nu' 71 (by omega)
  refine ⟨cs, List.ofFn zf, wh, fun i => if i = 0 then c0 else if i = 1 then c1 else if i = 2 then c2 else c3, b, h, g, rfl, by simp, ⟨hs, fun i hi => ?_, e64, fun i hi => ?_, e69, e70, e71⟩⟩
  · have := hzf ⟨i, hi⟩
    simp only at this
    rw [this]
    unfold zB
    rw [List.getD_eq_getElem?_getD, List.getElem?_ofFn, dif_pos hi]
    rfl
  · have : i = 0 ∨ i = 1 ∨ i = 2 ∨ i = 3 := by omega
    rcases this with rfl | rfl | rfl | rfl
    · exact e65
    · exact e66
    · exact e67
    · exact e68

/-! ### what the list of the row gives -/
theorem nTz : Tryz.prog.globalNamed "math/bits.deBruijn64tab" = some 2 := by kernel_rfl
theorem nHomes : Tryz.prog.globalNamed "rook/position.homes" = some 0 := by kernel_rfl
theorem nPow : Tryz.prog.globalNamed "internal/strconv.uint64pow10" = some 5 := by kernel_rfl
theorem tyTz : (Tryz.prog.globals[2]?).map (·.type) = some 22 := by kernel_rfl
theorem tyHomes : (Tryz.prog.globals[0]?).map (·.type) = some 222 := by kernel_rfl
theorem tyPow : (Tryz.prog.globals[5]?).map (·.type) = some 353 := by kernel_rfl
theorem c8 : Tryz.prog.cellsOf 5 = 1 := by kernel_rfl
theorem c64 : Tryz.prog.cellsOf 64 = 1 := by kernel_rfl
theorem cA : Tryz.prog.cellsOf 22 = 64 := by kernel_rfl
theorem cP : Tryz.prog.cellsOf 353 = 20 := by kernel_rfl
theorem dTz : (Rows.laid_math_bits_deBruijn64tab : DataW Unit) = Lib.tabData .u8 (Lib.deBruijn64tab.map Int.ofNat) := by kernel_rfl
theorem dPow : (Rows.laid_internal_strconv_uint64pow10 : DataW Unit) = Lib.tabData .u64 Lib.pow10Tab := by kernel_rfl
theorem tab_of {W : World} {n : String} {k : IntKind} {zs : List Int} {g : Nat} {t e : TypeId} {m : Nat} (hr : Lib.VarReads Tryz.prog W n (Lib.tabData k zs)) (hg : Tryz.prog.globalNamed n = some g) (hty : (Tryz.prog.globals[g]?).map (·.type) = some t) (ht : Tryz.prog.underlying t = some (.array m e)) (he : Tryz.prog.underlying e = some (.int k)) (hce : Tryz.prog.cellsOf e = 1) (hct : Tryz.prog.cellsOf t = m) : Lib.TabIs Tryz.prog W n k zs := by
  obtain ⟨g', t', cs, fuel, p, h1, h2, h3, h4⟩ := hr
  obtain rfl := Option.some.inj (hg.symm.trans h1)
  obtain rfl := Option.some.inj (hty.symm.trans h2)
  unfold Lib.TabIs
  rw [h3, ← Lib.cells_of_tab ht he hce hct h4]
theorem met {W : World} (h : laidMetH Tryz.prog Rows.textsUptoRow.laid W) : laidMet Tryz.prog Rows.textsUptoRow.laid W := by
  rwa [MakeChecks.laidMetH_plain _ _ _ (by kernel_rfl)] at h
theorem has_tz {W : World} (h : laidMet Tryz.prog Rows.textsUptoRow.laid W) : TabIn W := by
  have h1 := tab_of (dTz ▸ Lib.laidMet.reads h (.tail _ (.head _))) nTz tyTz Tryz.underlying22 Tryz.underlying5 c8 cA
  have hc : BTab W := fun j hj => by
    have := h1.cell nTz j (by simpa using hj)
    rw [this]
    simp [List.getD_eq_getElem?_getD, List.getElem?_map, List.getElem?_eq_getElem hj]
  exact ⟨hc, World.block_lt_of_cell? W _ (hc 0 (by decide))⟩
theorem has_pow {W : World} (h : laidMet Tryz.prog Rows.textsUptoRow.laid W) : Tab W :=
  tab_of (dPow ▸ Lib.laidMet.reads h (.tail _ (.tail _ (.head _)))) nPow tyPow Tryz.underlying353 Tryz.underlying64 c64 cP

theorem c3 : Tryz.prog.cellsOf 3 = 1 := by kernel_rfl
theorem cH : Tryz.prog.cellsOf 221 = 4 := by kernel_rfl
theorem fld {W : World} {base : Nat} {sp : Nat → Bool} {held : Bool} {fuel : Nat} {cs : List Value} {xs : List (DataW Unit × List MemPlace)} {ds : List (DataW Unit)} {t : TypeId} {k : IntKind} {z : Int} {i o : Nat} (hx : ds = xs.map (·.1)) (hd : ds[i]? = some (.lit (.int k z))) (hu : Tryz.prog.underlying t = some (.int k)) (hc : Tryz.prog.cellsOf t = 1)
    (h : DataW.trod (fun _ => ()) Tryz.prog W base sp held fuel t ((cs.drop o).take (Tryz.prog.cellsOf t)) = xs[i]?) : cs[o]? = some (.int k z) := by
  rw [hx, List.getElem?_map] at hd
  obtain ⟨y, hy, e⟩ := Option.map_eq_some_iff.1 hd
  rw [hy, hc] at h
  obtain ⟨n, h1, h2, _⟩ := DataW.trod_int hu h
  rw [h2] at e
  simp only [DataW.lit.injEq, Lit.int.injEq, true_and] at e
  subst e
  have := congrArg (·[0]?) h1
  simpa [List.getElem?_take, List.getElem?_drop] using this
theorem home_cells {W : World} {base : Nat} {sp : Nat → Bool} {held : Bool} {fuel : Nat} {cs : List Value} {p : List MemPlace} {a b c d : Int}
    (h : DataW.trod (fun _ => ()) Tryz.prog W base sp held fuel 221 cs = some (.agg [.lit (.int .i64 a), .lit (.int .u8 b), .lit (.int .i64 c), .lit (.int .u8 d)], p)) : cs = [.int .i64 a, .int .u8 b, .int .i64 c, .int .u8 d] := by
  obtain ⟨xs, n, rfl, hx, hl, _, hall⟩ := DataW.trod_struct Tryz.underlying221 h
  rw [cH] at hl
  have hx' : [.lit (.int .i64 a), .lit (.int .u8 b), .lit (.int .i64 c), .lit (.int .u8 d)] = xs.map (·.1) := by
    have := congrArg Prod.fst hx
    simpa using this
  have e0 := fld hx' (i := 0) rfl Tryz.underlying3 c3 (hall 0 _ rfl)
  have e1 := fld hx' (i := 1) rfl Tryz.underlying5 c8 (hall 1 _ rfl)
  have e2 := fld hx' (i := 2) rfl Tryz.underlying3 c3 (hall 2 _ rfl)
  have e3 := fld hx' (i := 3) rfl Tryz.underlying5 c8 (hall 3 _ rfl)
  apply List.ext_getElem?
  intro i
  by_cases hi : i < 4
  · have : i = 0 ∨ i = 1 ∨ i = 2 ∨ i = 3 := by omega
    rcases this with rfl | rfl | rfl | rfl
    · exact e0
    · exact e1
    · exact e2
    · exact e3
  · rw [List.getElem?_eq_none (by omega), List.getElem?_eq_none (by simp; omega)]

theorem has_homes {W : World} (h : laidMet Tryz.prog Rows.textsUptoRow.laid W) : Homes W := by
  obtain ⟨g', t', cs, fuel, p, h1, h2, h3, h4⟩ := Lib.laidMet.reads h (.tail _ (.tail _ (.tail _ (.tail _ (.head _)))))
  obtain rfl := Option.some.inj (nHomes.symm.trans h1)
  obtain rfl := Option.some.inj (tyHomes.symm.trans h2)
  have el : ∀ i, i < 4 → ∃ fuel' d q, ([.agg [.lit (.int .i64 4), .lit (.int .u8 75), .lit (.int .i64 7), .lit (.int .u8 82)], .agg [.lit (.int .i64 4), .lit (.int .u8 75), .lit (.int .i64 0), .lit (.int .u8 82)], .agg [.lit (.int .i64 60), .lit (.int .u8 107), .lit (.int .i64 63), .lit (.int .u8 114)], .agg [.lit (.int .i64 60), .lit (.int .u8 107), .lit (.int .i64 56), .lit (.int .u8 114)]] : List (DataW Unit))[i]? = some d ∧ DataW.trod (fun _ => ()) Tryz.prog W 0 (fun _ => true) false fuel' 221 ((cs.toList.drop (i * 4)).take 4) = some (d, q) := fun i hi => by
    have := Lib.array_elem Tryz.underlying222 h4 i hi
    rwa [cH] at this
  have ch : ∀ i, i < 4 → ∀ a b c d : Int, ([.agg [.lit (.int .i64 4), .lit (.int .u8 75), .lit (.int .i64 7), .lit (.int .u8 82)], .agg [.lit (.int .i64 4), .lit (.int .u8 75), .lit (.int .i64 0), .lit (.int .u8 82)], .agg [.lit (.int .i64 60), .lit (.int .u8 107), .lit (.int .i64 63), .lit (.int .u8 114)], .agg [.lit (.int .i64 60), .lit (.int .u8 107), .lit (.int .i64 56), .lit (.int .u8 114)]] : List (DataW Unit))[i]? = some (.agg [.lit (.int .i64 a), .lit (.int .u8 b), .lit (.int .i64 c), .lit (.int .u8 d)]) → cs.toList[i * 4]? = some (.int .i64 a) ∧ cs.toList[i * 4 + 1]? = some (.int .u8 b) ∧ cs.toList[i * 4 + 2]? = some (.int .i64 c) ∧ cs.toList[i * 4 + 3]? = some (.int .u8 d) := fun i hi a b c d he => by
    obtain ⟨fuel', y, q, k1, k2⟩ := el i hi
    obtain rfl := Option.some.inj (k1.symm.trans he)
    have k3 := home_cells k2
    have at' : ∀ r, r < 4 → cs.toList[i * 4 + r]? = ([.int .i64 a, .int .u8 b, .int .i64 c, .int .u8 d] : List Value)[r]? := fun r hr => by
      rw [← k3, List.getElem?_take, if_pos hr, List.getElem?_drop]
    exact ⟨at' 0 (by omega), at' 1 (by omega), at' 2 (by omega), at' 3 (by omega)⟩
  obtain ⟨a0, a1, a2, a3⟩ := ch 0 (by omega) _ _ _ _ rfl
  obtain ⟨b0, b1, b2, b3⟩ := ch 1 (by omega) _ _ _ _ rfl
  obtain ⟨c0, c1, c2, c3⟩ := ch 2 (by omega) _ _ _ _ rfl
  obtain ⟨d0, d1, d2, d3⟩ := ch 3 (by omega) _ _ _ _ rfl
  have hcell : ∀ (j : Nat) (v : Value), homesL[j]? = some v → W.cell? ⟨0, j, none⟩ = some v := fun j v hv => by
    rw [World.var?_cell nHomes h3 j, ← Array.getElem?_toList]
    have hj : j < 16 := (List.getElem?_eq_some_iff.1 hv).1
    have : j = 0 ∨ j = 1 ∨ j = 2 ∨ j = 3 ∨ j = 4 ∨ j = 5 ∨ j = 6 ∨ j = 7 ∨ j = 8 ∨ j = 9 ∨ j = 10 ∨ j = 11 ∨ j = 12 ∨ j = 13 ∨ j = 14 ∨ j = 15 := by omega
    rcases this with rfl | rfl | rfl | rfl | rfl | rfl | rfl | rfl | rfl | rfl | rfl | rfl | rfl | rfl | rfl | rfl
    · exact a0.trans hv
    · exact a1.trans hv
    · exact a2.trans hv
    · exact a3.trans hv
    · exact b0.trans hv
    · exact b1.trans hv
    · exact b2.trans hv
    · exact b3.trans hv
    · exact c0.trans hv
    · exact c1.trans hv
    · exact c2.trans hv
    · exact c3.trans hv
    · exact d0.trans hv
    · exact d1.trans hv
    · exact d2.trans hv
    · exact d3.trans hv
  exact ⟨fun j v hv => by rw [Nat.zero_add]; exact hcell j v hv, World.block_lt_of_cell? W _ (hcell 0 _ rfl)⟩
theorem has_max {W : World} (h : W.ShapedOpen Tryz.prog) : ∃ m, W.cell? ⟨4, 0, none⟩ = some (.int .i64 m) :=
  Go.Proofs.cell_of_shapedOpen_int (zero := #[.int .i64 0]) (t := 3) h (of_decide_eq_true (by kernel_rfl)) (by kernel_rfl) rfl (by kernel_rfl) (by kernel_rfl) Tryz.underlying3
theorem has_ctx {W : World} (h : laidMet Tryz.prog Rows.textsUptoRow.laid W) (hs : W.ShapedOpen Tryz.prog) : ∃ m, Ctx m W := by
  obtain ⟨m, hm⟩ := has_max hs
  exact ⟨m, hm, World.block_lt_of_cell? W _ hm, has_tz h, has_homes h, has_pow h⟩

theorem laidOut : laidOutB Tryz.prog = true := by kernel_rfl
theorem read9 : Tryz.prog.readableRec 9 = true := by kernel_rfl
theorem read25 : Tryz.prog.readableRec 25 = true := by kernel_rfl
theorem row9 : 9 < Tryz.prog.types.size := of_decide_eq_true (by kernel_rfl)
theorem row25 : 25 < Tryz.prog.types.size := of_decide_eq_true (by kernel_rfl)

/-- the answer, where nothing that was there has turned. -/
theorem post_grown {H : Type} {enc : TypeId × Value → H} {W W' : World} {v0 v1 : Value} {d0 d1 : DataW H} {p0 p1 : List MemPlace} {before : List MemPlace} (hW : DataW.Whole enc Tryz.prog [9, 25] [] false W [v0, v1] [d0, d1] [] before) (hb : before = p0 ++ (p1 ++ []))
    (h0 : DataW.Trod enc Tryz.prog W 0 (fun _ => true) true 9 v0 d0 p0) (h1 : DataW.Trod enc Tryz.prog W 0 (fun _ => true) true 25 v1 d1 p1) (g : Gr W W') : Rows.textsSpec.post enc Tryz.prog Tryz.f3 false true false false W #[v0, v1] (.bool true) W' := by
  have hlt := hW.lt
  have hpar : Tryz.f3.params.toList = [9, 25] := by rw [Tryz.params3]
  have hrt : Tryz.f3.resultTypes = #[4] := by kernel_rfl
  have hargs : ∀ sp : Nat → Bool, (∀ p ∈ before, sp p.block = true) → DataW.TrodAll enc Tryz.prog W' 0 sp true [9, 25] [v0, v1] [d0, d1] before := fun sp hsp => by
    rw [hb] at hlt hsp ⊢
    exact trodAll_cons_mk (WideElems.Trod_stays laidOut read9 row9 h0 (fun x hx => g.same (hlt x (by simp [hx]))) (fun x hx => hsp x (by simp [hx])))
      (trodAll_cons_mk (WideElems.Trod_stays laidOut read25 row25 h1 (fun x hx => g.same (hlt x (by simp [hx]))) (fun x hx => hsp x (by simp [hx]))) trodAll_mk0)
  have hres : ∀ (b : Nat) (sp : Nat → Bool) (hd : Bool), DataW.TrodAll enc Tryz.prog W' b sp hd [4] [.bool true] [.lit (.bool true)] [] := fun _ _ _ => trodAll_cons_mk (shut_bool Tryz.underlying4 _) trodAll_mk0
  have hold : ∀ p ∈ before, (fun b => decide (b < W.heap.size)) p.block = true := fun p hp => by simpa using hlt p hp
  refine ⟨[d0, d1], [], before, [], before, [], by rw [hpar]; exact hW, ?_, ?_, rfl, ?_, fun h => by cases h⟩
  · rw [hrt]; exact hres _ _ _
  · rw [hpar]; exact hargs _ hold
  · exact World.keptBut_mono (fun p hp => ⟨hp, Or.inr (by simpa using hp)⟩) (g.frame (· ∈ before))

/-- WHAT THE WALK GIVES. -/
theorem contract (H : Type) (enc : TypeId × Value → H) (W : World) (base : Nat) (args : Array Value) (ds gs : List (DataW H)) (before : List MemPlace)
    (hval : ∀ (j : Nat) t v, Tryz.f3.params[j]? = some t → args[j]? = some v → Value.okWide Tryz.prog W .any base t v)
    (hW : DataW.Whole enc Tryz.prog Tryz.f3.params.toList Rows.textsSpec.vars false W args.toList ds gs before) (hk : Rows.uptoSmall H (ds ++ gs) = true) (hL : laidMetH Tryz.prog Rows.textsUptoRow.laid W) (hsh : W.ShapedOpen Tryz.prog) :
    Calls Tryz.prog 3 args W fun e W' => ∃ v, e = .returned v ∧ Rows.textsSpec.post enc Tryz.prog Tryz.f3 false true false false W args v W' := by
  have hW' := hW
  obtain ⟨p, q, hA0, hV, rfl, hfz, hnd⟩ := hW
  have hA : DataW.TrodAll enc Tryz.prog W 0 (fun _ => true) true Tryz.f3.params.toList args.toList ds p := hA0
  rw [Tryz.params3] at hA hval hW'
  obtain ⟨v0, vs0, d0, ds0, p0, q0, hargs, rfl, rfl, h0, r0⟩ := trodAll_cons hA
  obtain ⟨v1, vs1, d1, ds1, p1, q1, rfl, rfl, rfl, h1, r1⟩ := trodAll_cons r0
  obtain ⟨rfl, rfl, rfl⟩ := trodAll_nil r1
  obtain rfl : args = #[v0, v1] := by cases args; simp_all
  obtain ⟨rfl, rfl⟩ := trodVars_none hV
  have hs := Go.ChangeMaps.open_string Tryz.underlying9 (hval 0 9 v0 rfl rfl) h0
  obtain ⟨s, rfl, rfl, rfl, _⟩ := hs
  obtain ⟨PA, B, wh, f, b, h, g, rfl, _, r⟩ := pos_opens (hval 1 25 v1 rfl rfl)
  obtain ⟨m, hc⟩ := has_ctx (met hL) hsh
  have hsz : s.size < 4294967281 := by
    have h1 := of_decide_eq_true hk
    simp only [List.cons_append, List.nil_append, Rows.uptoBulkAll, Rows.uptoBulk] at h1
    have h2 : s.data.toList.length = s.size := Array.length_toList
    omega
  simp only [List.append_nil] at hW'
  refine (textsL_any s hsz r m W hc).mono fun e W' k => ?_
  obtain ⟨rfl, hg⟩ := k
  exact ⟨_, rfl, post_grown hW' (by simp) h0 h1 hg⟩

theorem upto_laid : Rows.textsUptoRow.laid = Rows.textsRow.laid := rfl
noncomputable def start (os : Os) : World := World.laidAll Tryz.prog os Rows.textsUptoRow.laid
noncomputable def args0 : Array Value := #[.string ⟨#[]⟩, .agg Tryz.zeroCells25]
theorem reads (os : Os) {H : Type} (enc : TypeId × Value → H) : ∃ places, DataW.whole enc Tryz.prog ((start os).forCall (fun _ _ => 0) ⟨#[], args0, []⟩).memory Tryz.f3.params.toList Rows.textsSpec.vars false args0.toList 8 = some ([.lit (.string []), .agg [.agg (List.replicate 64 (.lit (.int .u8 0))), .lit (.bool false), .agg (List.replicate 4 (.lit (.bool false))), .lit (.int .i64 0), .lit (.int .i64 0), .lit (.int .i64 0)]], [], places) :=
  ⟨[], by kernel_rfl⟩
theorem laid_met (os : Os) : laidMetH Tryz.prog Rows.textsUptoRow.laid ((start os).forCall (fun _ _ => 0) ⟨#[], args0, []⟩).memory := by
  rw [MakeChecks.laidMetH_plain _ _ _ (by kernel_rfl)]
  exact laidMet_laidAll _ (by kernel_rfl) (by kernel_rfl)

/-- THE STEP. -/
theorem liftedUpto (os : Os) (started : os.Started) (H : Type) (enc : TypeId × Value → H) (F : Stop.Interp) :
    ReturnsInHanded {} Tryz.checked os 3 .any ((Rows.OpenSpec.upto Rows.textsSpec).preRow enc Tryz.prog Tryz.f3 Rows.textsUptoRow.domain false Rows.textsUptoRow.laid) (((Rows.OpenSpec.upto Rows.textsSpec).at F).post enc Tryz.prog Tryz.f3 false true false false) := by
  obtain ⟨places, hx⟩ := reads os enc
  refine returnsInHanded_of_row (C := Tryz.checked) (s := Rows.OpenSpec.upto Rows.textsSpec) own started (by kernel_rfl) Tryz.func3
    (witness_row_at (enc := enc) (C := Tryz.checked) false (start os) args0 (World.laidAll_os _ _ _) (by kernel_rfl) (by kernel_rfl) (by kernel_rfl)
      (OpenSpec.preRow_of_cond 8 hx (by kernel_rfl) (fun k hk => by cases hk; kernel_rfl) (by kernel_rfl) (laid_met os))) ?_
  intro W base args ds gs before hval hW _ hcond _ hL hsh _
  exact contract H enc W base args ds gs before hval hW (hcond _ rfl) hL hsh

end Go.Proofs.YtnfakamfmkhlbaaGreatDoor.texts
