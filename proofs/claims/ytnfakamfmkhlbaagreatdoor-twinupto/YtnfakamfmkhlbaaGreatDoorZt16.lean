import Derived.Test.YtnfakamfmkhlbaaGreatDoorZt15
import Derived.Test.YtnfakamfmkhlbaaGreatDoorZt14
import Derived.Test.YtnfakamfmkhlbaaGreatDoorZt5
import Derived.Deep.QuietTactic
import Derived.BigQuiet
import Derived.Deep.RegionHeld3
import Derived.Test.YtnfakamfmkhlbaaGreatDoorZt8
import Derived.Test.YtnfakamfmkhlbaaGreatDoorZt2
import Derived.Shelf.RegionOpen
import Derived.LoopNIn
import Derived.LoopIn
import Derived.Test.YtnfakamfmkhlbaaGreatDoorZt12
namespace Go.Proofs.YtnfakamfmkhlbaaGreatDoor.C

open Go.ChangeShapes Go.WideShapes Go.ChangeAt Go.RowKit Go.Shelf

open Go.Proofs.YtnfakamfmkhlbaaGreatDoor.P

attribute [local go_sem] setCell_drewN alloc_drewN Oper.semAt_some

theorem It.gr {α : Type} {P : Program} {g : Nat} {lb : Array Value} {encs : α → Array Value} {T : Obj → Prop} {C : Nat → Prop} {xs : List α} {w w' : World} (h : It P g lb encs T C xs w) (k : Gr w w') : It P g lb encs T C xs w' :=
  fun l B J Jx W f => h l B J Jx W ((Fr.of_gr k).trans f)

theorem owns_mono {w : World} {base base' n s : Nat} {e : TypeId} {v : Value} {xs : List Value} (h : w.ownsRow base e s v n xs) (hb : base' ≤ base) : w.ownsRow base' e s v n xs := by
  refine ⟨h.1, ?_⟩
  rcases h.2 with h2 | ⟨g, cap, cur, hv, h3, rest⟩
  · exact .inl h2
  · exact .inr ⟨g, cap, cur, hv, Nat.le_trans hb h3, rest⟩

theorem owns_gr {w w' : World} {base n s : Nat} {e : TypeId} {v : Value} {xs : List Value} (h : w.ownsRow base e s v n xs) (g : Gr w w') : w'.ownsRow base e s v n xs := by
  refine ⟨h.1, ?_⟩
  rcases h.2 with h2 | ⟨k, cap, cur, hv, h3, hk, rest⟩
  · exact .inl h2
  · exact .inr ⟨k, cap, cur, hv, h3, (Below.block g _ (Array.getElem?_eq_some_iff.1 hk).1).trans hk, rest⟩

set_option maxRecDepth 100000 in
theorem sortedFunc_any {g : Nat} {lb : Array Value} {C : Nat → Prop} {xs : List Mv} {w : World} (hit : It Tryz.prog g lb encM TM C xs w) (heg : ∀ args w, (callFunc g args).run Tryz.prog w = .ok (.enter g args) w) (hCb : ∀ k, C k → k < w.heap.size) (hx : ∀ x ∈ xs, okM x) (hlen : xs.length ≤ 1000000) (B : Nat) (hB : w.cell? ⟨B, 0, none⟩ = some keyV) :
    Calls Tryz.prog 240 #[.func (.func g) #[] lb, .func (.func 241) #[] #[.pointer (some ⟨B, 0, none⟩)]] w fun e w' => ∃ v, e = .returned v ∧ w'.ownsRow w.heap.size 94 3 v xs.length (rowM (sortM xs)) ∧ Gr w w' := by
  have hc := hide (collect_any hit heg hCb hlen)
  have hb : B < w.heap.size := World.block_lt_of_cell? _ _ hB
  have hs : Hid (∀ v W, W.ownsRow w.heap.size 94 3 v xs.length (rowM xs) → Gr w W → Calls Tryz.prog 288 #[v, .func (.func 241) #[] #[.pointer (some ⟨B, 0, none⟩)]] W fun e w' => e = .returned (.tuple #[]) ∧ w'.ownsRow w.heap.size 94 3 v xs.length (rowM (sortM xs)) ∧ Below w.heap.size W w') := hide (fun v W ho hg => sortFunc_any hx hlen ho ((Below.cell hg hb).trans hB) hb)
  clear hit heg hCb hx hlen hB
  go_enter Tryz.func240, Tryz.ntmps240
  go_wp2_with (first | (go_at_call 287; refine (unhide hc).mono ?_; rintro e w' ⟨v, rfl, hv, hg⟩) | (go_at_call 288; refine (unhide hs _ _ hv hg).mono ?_; rintro e w2 ⟨rfl, hv2, hg2⟩))
  go_ret
  exact ⟨v, rfl, hv2, Below.trans hg hg2⟩

set_option maxRecDepth 100000 in
theorem inOrder_any {g : Nat} {lb : Array Value} {C : Nat → Prop} {xs : List Mv} {w : World} (hit : It Tryz.prog g lb encM TM C xs w) (heg : ∀ args w, (callFunc g args).run Tryz.prog w = .ok (.enter g args) w) (hCb : ∀ k, C k → k < w.heap.size) (hx : ∀ x ∈ xs, okM x) (hlen : xs.length ≤ 1000000) :
    Calls Tryz.prog 167 #[.func (.func g) #[] lb, .func (.func 100) #[] #[]] w fun e w' => ∃ v, e = .returned v ∧ w'.ownsRow w.heap.size 94 3 v xs.length (rowM (sortM xs)) ∧ Gr w w' := by
  have hmf : ∀ (fn : Fn) (first cap : Array Value) (w : World), (Instr.makeFunc fn first cap).run Tryz.prog w = .ok (.func fn first cap) w := fun _ _ _ _ => rfl
  have hg1 : ∀ t, Gr w (w.alloc (.cells #[.func (.func 100) #[] #[]] t)) := fun t => (Gr.refl w).alloc _ _
  have hs : Hid (∀ t, Calls Tryz.prog 240 #[.func (.func g) #[] lb, .func (.func 241) #[] #[.pointer (some ⟨w.heap.size, 0, none⟩)]] (w.alloc (.cells #[.func (.func 100) #[] #[]] t)) fun e w' => ∃ v, e = .returned v ∧ w'.ownsRow w.heap.size 94 3 v xs.length (rowM (sortM xs)) ∧ Gr w w') := hide (fun t => by
    refine (sortedFunc_any (hit.gr (hg1 t)) heg (fun k hk => by have := hCb k hk; rw [World.size_alloc]; omega) hx hlen w.heap.size (by rw [World.cell?_alloc_at _ _ _ _ rfl]; rfl)).mono ?_
    rintro e w' ⟨v, rfl, h1, h2⟩
    exact ⟨v, rfl, owns_mono h1 (by rw [World.size_alloc]; omega), Gr.trans (hg1 t) h2⟩)
  clear hit heg hCb hx hlen
  go_enter Tryz.func167, Tryz.ntmps167
  go_wp2_with (go_at_call 240; refine (unhide hs _).mono ?_; rintro e w' ⟨v, rfl, hv, hg⟩)
  go_ret
  exact ⟨v, rfl, hv, hg⟩

/-- a way's list of moves. -/
structure MkIt (gm gi : Nat) (PA : Array Value) (xs : List Mv) (w : World) : Prop where
  em : ∀ args w, (callFunc gm args).run Tryz.prog w = .ok (.enter gm args) w
  ei : ∀ args w, (callFunc gi args).run Tryz.prog w = .ok (.enter gi args) w
  go : ∀ T : Obj → Prop, (∀ o, T o → ∃ c fr, o = .cells c 94 fr) → ∀ W, Gr w W → Calls Tryz.prog gm #[.agg PA] W fun e w' => ∃ lb C, e = .returned (.func (.func gi) #[] lb) ∧ Gr W w' ∧ (∀ k, C k → k < w'.heap.size) ∧ It Tryz.prog gi lb encM T C xs w'
  ok : ∀ x ∈ xs, okM x
  len : xs.length ≤ 1000000

theorem MkIt.gr {gm gi : Nat} {PA : Array Value} {xs : List Mv} {w w' : World} (h : MkIt gm gi PA xs w) (g : Gr w w') : MkIt gm gi PA xs w' :=
  ⟨h.em, h.ei, fun T hT W hW => h.go T hT W (Gr.trans g hW), h.ok, h.len⟩

structure Ig (w : World) (gm : Nat) (PA : Array Value) (W : World) : Prop where
  q : W.cell? ⟨w.heap.size, 1, none⟩ = some (.func (.func gm) #[] #[])
  pa : W.heap[w.heap.size + 1]? = some (.cells PA 25)
  gr : Gr w W

theorem Ig.next {w W W' : World} {gm : Nat} {PA : Array Value} (h : Ig w gm PA W) (g : Gr W W') : Ig w gm PA W' :=
  ⟨(Below.cell g (World.block_lt_of_cell? W _ h.q)).trans h.q, (Below.block g _ (Array.getElem?_eq_some_iff.1 h.pa).1).trans h.pa, Gr.trans h.gr g⟩

def wayA (ga gm : Nat) : Array Value := #[.func (.func ga) #[] #[], .func (.func gm) #[] #[]]

set_option linter.unusedSimpArgs false in
set_option maxRecDepth 100000 in
set_option maxHeartbeats 2000000 in
theorem gameMoves_any {ga gm gi : Nat} {PA : Array Value} {xs : List Mv} {w : World} (hsz : PA.size = 72) (m : MkIt gm gi PA xs w) :
    Calls Tryz.prog 99 #[.agg (wayA ga gm), .agg PA] w fun e w' => ∃ v, e = .returned v ∧ w'.ownsRow w.heap.size 94 3 v xs.length (rowM (sortM xs)) ∧ Gr w w' := by
  have hi72 : (Tryz.prog.info? 25).map (·.size) = some PA.toList.length := by rw [Array.length_toList, hsz]; exact infoP72
  have hm := hide m
  have em := m.em
  clear m
  simp only [wayA] at ⊢
  have hA0 : Ig w gm PA ((w.alloc (.cells (wayA ga gm) 84)).alloc (.cells PA 25)) := by
    obtain ⟨e1, e2⟩ := heapTwo w (.cells (wayA ga gm) 84) (.cells PA 25)
    exact ⟨by rw [cell_of_row _ _ _ _ _ _ e1]; rfl, e2, ((Gr.refl w).alloc _ _).alloc _ _⟩
  go_enter Tryz.func99, Tryz.ntmps99
  go_upto_region 1 with fail
  show Code.wp _ _ _ _ ((w.alloc (.cells (wayA ga gm) 84)).alloc (.cells PA 25))
  generalize ((w.alloc (.cells (wayA ga gm) 84)).alloc (.cells PA 25)) = wA at hA0 ⊢
  have c1 := hA0.q
  have kpa := hA0.pa
  have hgA := hide hA0.gr
  have hgo : Hid (Calls Tryz.prog gm #[.agg PA] wA fun e w' => ∃ lb C, e = .returned (.func (.func gi) #[] lb) ∧ Gr wA w' ∧ (∀ k, C k → k < w'.heap.size) ∧ It Tryz.prog gi lb encM TM C xs w') := hide ((unhide hm).go TM (fun _ h => h) wA hA0.gr)
  have hio : Hid (∀ lb C W, (∀ k, C k → k < W.heap.size) → It Tryz.prog gi lb encM TM C xs W → Calls Tryz.prog 167 #[.func (.func gi) #[] lb, .func (.func 100) #[] #[]] W fun e w' => ∃ v, e = .returned v ∧ w'.ownsRow W.heap.size 94 3 v xs.length (rowM (sortM xs)) ∧ Gr W w') := hide (fun lb C W h1 h2 => inOrder_any h2 (unhide hm).ei h1 (unhide hm).ok (unhide hm).len)
  clear hA0 hm
  go_wp2_with (first
    | (refine wpList_load_row rfl 25 _ rfl (w.heap.size + 1) rfl 25 PA (0, 0) _ kpa Tryz.underlying25 rfl (by rw [hsz]; exact infoP) ?_)
    | (go_at_fn gm; refine (unhide hgo).mono ?_; rintro e w' ⟨lb, C, rfl, hga, hCb, hit⟩)
    | (go_at_call 167; refine (unhide hio _ _ _ hCb hit).mono ?_; rintro e w2 ⟨v, rfl, hv, hg2⟩))
  go_ret
  exact ⟨v, rfl, owns_mono hv (Nat.le_trans (Below.size (unhide hgA)) (Below.size hga)), Gr.trans (unhide hgA) (Gr.trans hga hg2)⟩

end Go.Proofs.YtnfakamfmkhlbaaGreatDoor.C

namespace Go.Proofs.YtnfakamfmkhlbaaGreatDoor.C

open Go.ChangeShapes Go.WideShapes Go.ChangeAt Go.RowKit Go.Shelf

open Go.Proofs.YtnfakamfmkhlbaaGreatDoor.P

attribute [local go_sem] setCell_drewN alloc_drewN Oper.semAt_some

def txts (xs : List Mv) : List ByteArray := xs.map fun x => str (txt x)

theorem row_form {w : World} {base n : Nat} {v : Value} {ys : List Mv} (h : w.ownsRow base 94 3 v n (rowM ys)) : ∃ p cap, v = .slice p n cap ∧ n ≤ cap ∧ ∀ i, i < n → ∀ (hy : i < ys.length), ∃ g, p = some ⟨g, 0, none⟩ ∧ w.cell? ⟨g, i * 3, none⟩ = some (.int .i64 (ys[i].1 : Int)) ∧ w.cell? ⟨g, i * 3 + 1, none⟩ = some (.int .i64 (ys[i].2.1 : Int)) ∧ w.cell? ⟨g, i * 3 + 2, none⟩ = some (.int .u8 (ys[i].2.2.toNat : Int)) := by
  rcases h.2 with ⟨rfl, rfl⟩ | ⟨g, cap, cur, rfl, hb, hg, hn, hm, hcs, htk⟩
  · exact ⟨none, 0, rfl, Nat.le_refl _, fun i hi => absurd hi (Nat.not_lt_zero i)⟩
  · refine ⟨_, _, rfl, hn, fun i hi hy => ⟨g, rfl, ?_⟩⟩
    have hj : ∀ c, c < 3 → w.cell? ⟨g, i * 3 + c, none⟩ = (mvC ys[i]).toList[c]? := fun c hc => by
      have h1 : i * 3 + c < n * 3 := by omega
      simp only [World.cell?]
      rw [hg]
      show cur[i * 3 + c]? = _
      rw [← Array.getElem?_toList, ← List.getElem?_take_of_lt h1, htk, flat_get, show (i * 3 + c) / 3 = i by omega, show (i * 3 + c) % 3 = c by omega, List.getElem?_eq_getElem hy]
      rfl
    exact ⟨hj 0 (by decide), hj 1 (by decide), hj 2 (by decide)⟩

set_option linter.unusedSimpArgs false in
set_option maxRecDepth 100000 in
set_option maxHeartbeats 2000000 in
theorem gameTexts_any {ga gm gi : Nat} {PA : Array Value} {xs : List Mv} {w : World} (hsz : PA.size = 72) (m : MkIt gm gi PA xs w) :
    Calls Tryz.prog 45 #[.agg (wayA ga gm), .agg PA] w fun e w' => ∃ v, e = .returned v ∧ Strs w.heap.size v (txts (sortM xs)) w' ∧ Gr w w' := by
  obtain ⟨i0, hi, hz0, hz1, hz2⟩ := info_parts infoS
  have hi' := hide hi
  clear hi
  have hm := hide m
  clear m
  have hA0 : Ig w gm PA ((w.alloc (.cells (wayA ga gm) 84)).alloc (.cells PA 25)) := by
    obtain ⟨e1, e2⟩ := heapTwo w (.cells (wayA ga gm) 84) (.cells PA 25)
    exact ⟨by rw [cell_of_row _ _ _ _ _ _ e1]; rfl, e2, ((Gr.refl w).alloc _ _).alloc _ _⟩
  have hc0 : ((w.alloc (.cells (wayA ga gm) 84)).alloc (.cells PA 25)).cell? ⟨w.heap.size, 0, none⟩ = some (.func (.func ga) #[] #[]) := by
    obtain ⟨e1, e2⟩ := heapTwo w (.cells (wayA ga gm) 84) (.cells PA 25)
    rw [cell_of_row _ _ _ _ _ _ e1]; rfl
  simp only [wayA] at ⊢
  go_enter Tryz.func45, Tryz.ntmps45
  go_upto_region 1 with fail
  show Code.wp _ _ _ _ ((w.alloc (.cells (wayA ga gm) 84)).alloc (.cells PA 25))
  generalize ((w.alloc (.cells (wayA ga gm) 84)).alloc (.cells PA 25)) = wA at hA0 hc0 ⊢
  have c1 := hA0.q
  have kpa := hA0.pa
  have hgA := hide hA0.gr
  have hgm : Hid (Calls Tryz.prog 99 #[.agg #[.func (.func ga) #[] #[], .func (.func gm) #[] #[]], .agg PA] wA fun e w' => ∃ v, e = .returned v ∧ w'.ownsRow wA.heap.size 94 3 v xs.length (rowM (sortM xs)) ∧ Gr wA w') := hide (gameMoves_any hsz ((unhide hm).gr hA0.gr))
  have hok : ∀ x ∈ sortM xs, okM x := fun x hx => (unhide hm).ok x ((sortM_perm xs).mem_iff.1 hx)
  have hys : (sortM xs).length = xs.length := sortM_len xs
  have hlen := (unhide hm).len
  obtain ⟨ys, hYS⟩ : ∃ ys, Hid (ys = sortM xs) := ⟨_, hide rfl⟩
  rw [← unhide hYS] at hgm hok hys
  clear hA0 hm
  go_wp2_with (first
    | (refine wpList_load_row rfl 25 _ rfl (w.heap.size + 1) rfl 25 PA (0, 0) _ kpa Tryz.underlying25 rfl (by rw [hsz]; exact infoP) ?_)
    | (go_at_call 99; refine (unhide hgm).mono ?_; rintro e w1 ⟨v, rfl, hv, hg1⟩; obtain ⟨p, cap, rfl, hcap, hel⟩ := row_form hv))
  have hgw := hide (Gr.trans (unhide hgA) hg1)
  have hel' := hide hel
  clear hgm hv hg1 hgA kpa c1 hc0 hel
  go_loopg [5, 7, 12] xs.length (fun g v _ i wr => ∃ k : Nat, k + g = xs.length ∧ i = .int .i64 (k : Int) ∧ Strs w1.heap.size v (txts (ys.take k)) wr ∧ Gr w1 wr)
  case atStart => exact ⟨0, by omega, rfl, ⟨rfl, .inl ⟨rfl, rfl⟩⟩, Gr.refl _⟩
  case round =>
    obtain ⟨k, k1, rfl, hst, hgr⟩ := hrel
    by_cases hlt : k < xs.length
    · obtain ⟨g, rfl, x0, x1, x2⟩ := unhide hel' k hlt (by omega)
      have hblt : g < w1.heap.size := World.block_lt_of_cell? _ _ x0
      have x0 := (Below.cell hgr hblt).trans x0
      have x1 := (Below.cell hgr hblt).trans x1
      have x2 := (Below.cell hgr hblt).trans x2
      have hyk : okM ys[k] := hok _ (List.getElem_mem _)
      have htk : Hid (ys.take (k + 1) = ys.take k ++ [ys[k]]) := hide (List.take_succ_eq_append_getElem (by omega))
      generalize ys[k] = y at x0 x1 x2 hyk htk
      obtain ⟨f, t, u⟩ := y
      have hst' := hide hst
      have hgr' := hide hgr
      have hwz := Below.size hgr
      obtain ⟨S, hS⟩ : ∃ S, Hid (S = str (txt (f, t, u))) := ⟨_, hide rfl⟩
      have hN : Hid (∀ W, Calls Tryz.prog 100 #[.agg #[.int .i64 (f : Int), .int .i64 (t : Int), .int .u8 (u.toNat : Int)]] W fun e w' => e = .returned (.string S) ∧ Gr W w') := hide (fun W => by rw [unhide hS]; exact moveP_any f t hyk.1 hyk.2 u W)
      have hga : Hid (Gr wr (wr.alloc (.cells #[.int .i64 (f : Int), .int .i64 (t : Int), .int .u8 (u.toNat : Int)] 94))) := hide ((Gr.refl _).alloc _ _)
      clear hst hgr hok hyk
      go_upto_region 5 with fail
      have hx := World.alloc_heap_new wr (.cells #[.int .i64 (f : Int), .int .i64 (t : Int), .int .u8 (u.toNat : Int)] 94)
      generalize (wr.alloc (.cells #[.int .i64 (f : Int), .int .i64 (t : Int), .int .u8 (u.toNat : Int)] 94)) = wb at hga hx ⊢
      obtain ⟨y0, y1, y2⟩ := mv_cells hx
      clear hx x0 x1 x2
      go_upto_region 6 with (first
        | (go_at_call 100; refine (unhide hN _).mono ?_; rintro e w2 ⟨rfl, hg2⟩; have hg3 := Gr.trans (unhide hgr') (Gr.trans (unhide hga) hg2); have hs3 := Below.size hg3; have hst2 := hide (owns_gr (unhide hst') (Gr.trans (unhide hga) hg2)))
        | (at_builtin; refine wpList_append_own _ rfl (.tmp 16) (.tmp 19) 37 rfl w1.heap.size 9 i0 (.string ⟨#[]⟩) 1 16 Tryz.underlying37 (unhide hi') hz0 hz1 hz2 rfl (by decide) u5 (txts (ys.take k)).length ((txts (ys.take k)).map Value.string) rfl ((unhide hst2).alloc _) ⟨w2.heap.size, 0, none⟩ 1 1 [.string S] rfl rfl (cell_one_new _ _ _) (by simp [Value.oneCell']) (by unfold maxLen; rw [txts, List.length_map, List.length_take]; omega) (by rw [txts, List.length_map, List.length_take]; omega) (by simp; omega) ?_; intro v' w3 hown' hgrow hnil))
      go_wp2_with fail
      go_roundg (gk - 1)
      case measure => omega
      case rel =>
        refine ⟨k + 1, by omega, by go_num, ?_, ?_⟩
        · unfold Strs
          rw [unhide htk, txts, List.map_append, List.map_append, List.length_append]
          rw [unhide hS] at hown'
          exact hown'
        · exact (hg3.alloc _ _).grown hgrow (by simp; omega) (strs_block (unhide hst2))
    · have ek : k = xs.length := by omega
      rw [ek, ← hys, List.take_length, unhide hYS] at hst
      have hst' := hide hst
      have hgr' := hide hgr
      clear hst hgr hok hel'
      subst ek
      go_wp2_with fail
      go_ret
      exact ⟨_, rfl, owns_mono (unhide hst') (Below.size (unhide hgw)), Gr.trans (unhide hgw) (unhide hgr')⟩

end Go.Proofs.YtnfakamfmkhlbaaGreatDoor.C

namespace Go.Proofs.YtnfakamfmkhlbaaGreatDoor.C

open Go.ChangeShapes Go.WideShapes Go.ChangeAt Go.RowKit Go.Shelf

open Go.Proofs.YtnfakamfmkhlbaaGreatDoor.P

attribute [local go_sem] setCell_drewN alloc_drewN Oper.semAt_some

theorem flat_bound {α β : Type} {l : List α} {f : α → List β} {n k : Nat} (hl : l.length ≤ n) (h : ∀ x ∈ l, (f x).length ≤ k) : (l.flatMap f).length ≤ n * k := by
  have h1 : ∀ l : List α, (∀ x ∈ l, (f x).length ≤ k) → (l.flatMap f).length ≤ l.length * k := by
    intro l
    induction l with
    | nil => intro _; simp
    | cons a r ih =>
      intro h
      rw [List.flatMap_cons, List.length_append, List.length_cons, Nat.add_mul, Nat.one_mul]
      have := ih (fun x hx => h x (List.mem_cons_of_mem _ hx))
      have := h a (List.mem_cons_self ..)
      omega
  exact Nat.le_trans (h1 l h) (Nat.mul_le_mul_right k hl)

theorem turns_len (p : Bool) (f t : Nat) : (turnsB p f t).length ≤ 4 := by unfold turnsB; split <;> simp

theorem turns_ok {p : Bool} {f t : Nat} {x : Mv} (hf : f < 64) (ht : t < 64) (h : x ∈ turnsB p f t) : okM x := by
  unfold turnsB at h
  split at h
  · simp only [List.mem_cons, List.not_mem_nil, or_false] at h
    rcases h with rfl | rfl | rfl | rfl <;> exact ⟨hf, ht⟩
  · rw [List.mem_singleton.1 h]; exact ⟨hf, ht⟩

theorem movS_ok (z : Nat → UInt8) (wh : Bool) (fc : Nat → Bool) (b : Int) : ∀ x ∈ movS z wh fc b, okM x := by
  intro x hx
  unfold movS uptoS placeS fromS toS at hx
  simp only [List.mem_flatMap] at hx
  obtain ⟨k, _, f, hf, t, ht, h⟩ := hx
  split at h
  · exact turns_ok (sqs_lt hf) (sqs_lt ht) h
  · cases h

theorem movS_len (z : Nat → UInt8) (wh : Bool) (fc : Nat → Bool) (b : Int) : (movS z wh fc b).length ≤ 1000000 := by
  have h : (movS z wh fc b).length ≤ 6 * (64 * (64 * 4)) := by
    unfold movS uptoS
    refine flat_bound (by simp) fun k _ => ?_
    refine flat_bound (sqs_len _) fun f _ => ?_
    refine flat_bound (sqs_len _) fun t _ => ?_
    unfold toS
    split
    · exact turns_len _ _ _
    · simp
  omega

theorem mkS {z : Nat → UInt8} {wh : Bool} {fc : Nat → Bool} {b h g : Int} {PA : Array Value} (r : Row z wh fc b h g PA) (hok : layOk z = true) (hb0 : -1 ≤ b) (hb1 : b ≤ 63) (w : World) (hT : TabIn w) (hC : CasTab w) :
    MkIt 105 171 PA (movS z wh fc b) w where
  em := enters_of Tryz.func105 (by kernel_rfl) rfl
  ei := enters_of Tryz.func171 (by kernel_rfl) rfl
  ok := movS_ok z wh fc b
  len := movS_len z wh fc b
  go := by
    intro T hTm W hg
    refine (setsMoves_mk PA W).mono ?_
    rintro e w' ⟨rfl, hp, hg2⟩
    have hgw := Gr.trans hg hg2
    refine ⟨_, _, rfl, hg2, ?_, movesS_it r hok hb0 hb1 W.heap.size T hTm w' hp (hT.gr hgw) (hC.gr hgw)⟩
    rintro k (rfl | rfl | rfl)
    · exact (Array.getElem?_eq_some_iff.1 hp).1
    · exact (hT.gr hgw).2
    · exact (hC.gr hgw).2

end Go.Proofs.YtnfakamfmkhlbaaGreatDoor.C

namespace Go.Proofs.YtnfakamfmkhlbaaGreatDoor.C

open Go.ChangeShapes Go.WideShapes Go.ChangeAt Go.RowKit

attribute [local go_sem] setCell_drewN alloc_drewN

def wayL (i : Nat) : Nat := if i % 2 = 0 then 3 else 4

end Go.Proofs.YtnfakamfmkhlbaaGreatDoor.C

namespace Go.Proofs.YtnfakamfmkhlbaaGreatDoor.C

open Go.ChangeShapes Go.WideShapes Go.ChangeAt Go.RowKit

open Go.Proofs.YtnfakamfmkhlbaaGreatDoor.P

attribute [local go_sem] setCell_drewN alloc_drewN

structure Tb (w : World) (b : Nat) (A : Array Value) (cur : World) : Prop where
  gr : Gr w cur
  p : cur.heap[b]? = some (.cells A 25)
  lt : b < cur.heap.size

theorem Tb.next {w cur cur' : World} {b : Nat} {A : Array Value} (h : Tb w b A cur) (g : Gr cur cur') : Tb w b A cur' :=
  ⟨Gr.trans h.gr g, by rw [Below.block g _ h.lt]; exact h.p, Nat.lt_of_lt_of_le h.lt (Below.size g)⟩

end Go.Proofs.YtnfakamfmkhlbaaGreatDoor.C

namespace Go.Proofs.YtnfakamfmkhlbaaGreatDoor.C

open Go.ChangeShapes Go.WideShapes Go.ChangeAt Go.RowKit Go.Shelf

open Go.Proofs.YtnfakamfmkhlbaaGreatDoor.P

attribute [local go_sem] setCell_drewN alloc_drewN

/-- a step: files to the right, ranks up. -/
abbrev Stp := Int × Int

def small (s : Stp) : Prop := -2 ≤ s.1 ∧ s.1 ≤ 2 ∧ -2 ≤ s.2 ∧ s.2 ≤ 2

def szI (s : Stp) : Int := s.1 * s.1 + s.2 * s.2

theorem sq_wrap {a : Int} (h1 : -2 ≤ a) (h2 : a ≤ 2) : wrap64 (a * a) = a * a ∧ 0 ≤ a * a ∧ a * a ≤ 4 := by
  have : a = -2 ∨ a = -1 ∨ a = 0 ∨ a = 1 ∨ a = 2 := by omega
  rcases this with rfl | rfl | rfl | rfl | rfl <;> (unfold wrap64; omega)

theorem ret_bool {a b : Bool} (h : a = b) : Ending.returned (.bool a) = .returned (.bool b) := by rw [h]

theorem ret_ib {k : IntKind} {a b : Int} {x y : Bool} (h : a = b) (g : x = y) : Ending.returned (.tuple #[.int k a, .bool x]) = .returned (.tuple #[.int k b, .bool y]) := by rw [h, g]

theorem stepSize_any (a b : Int) (h : small (a, b)) (w : World) : Calls Tryz.prog 234 #[.agg #[.int .i64 a, .int .i64 b]] w fun e w' => e = .returned (.int .i64 (szI (a, b))) ∧ Gr w w' := by
  obtain ⟨h1, h2, h3, h4⟩ := h
  simp only at h1 h2 h3 h4
  have e1 := sq_wrap h1 h2
  have e2 := sq_wrap h3 h4
  go_enter Tryz.func234, Tryz.ntmps234
  go_wp2
  go_ret
  refine ⟨ret_int ?_, (Gr.refl w).alloc _ _⟩
  rfl

theorem stepBack_any (a b : Int) (h : small (a, b)) (w : World) : Calls Tryz.prog 161 #[.agg #[.int .i64 a, .int .i64 b]] w fun e w' => e = .returned (.agg #[.int .i64 (-a), .int .i64 (-b)]) ∧ Gr w w' := by
  obtain ⟨h1, h2, h3, h4⟩ := h
  simp only at h1 h2 h3 h4
  have e1 : wrap64 (-a) = -a := by unfold wrap64; omega
  have e2 : wrap64 (-b) = -b := by unfold wrap64; omega
  go_enter Tryz.func161, Tryz.ntmps161
  go_wp2
  exact bodyPost_ret (v := .agg #[.int .i64 (-a), .int .i64 (-b)]) (results_cell_row Tryz.results161 _ _ (w.heap.size + 1) 240 #[.int .i64 (-a), .int .i64 (-b)] (0, 0) _ rfl (by have := World.alloc_heap_new (w.alloc (.cells #[.int .i64 a, .int .i64 b] 240)) (.cells #[.int .i64 (-a), .int .i64 (-b)] 240); rw [World.size_alloc] at this; exact this) Tryz.underlying240 rfl (by kernel_rfl)) rfl ⟨rfl, ((Gr.refl w).alloc _ _).alloc _ _⟩

def manB (c : UInt8) (wh : Bool) : Bool := if wh then decide (65 ≤ c.toNat) && decide (c.toNat ≤ 90) else decide (97 ≤ c.toNat) && decide (c.toNat ≤ 122)

theorem isMan_any (c : UInt8) (wh : Bool) (w : World) : Calls Tryz.prog 159 #[.int .u8 (c.toNat : Int), .bool wh] w fun e w' => e = .returned (.bool (manB c wh)) ∧ w' = w := by
  cases wh
  all_goals
    go_enter Tryz.func159, Tryz.ntmps159
    go_wp2
    all_goals
      go_ret
      refine ⟨ret_bool ?_, rfl⟩
      rw [Bool.eq_iff_iff]
      simp only [manB, Bool.and_eq_true, decide_eq_true_eq, Bool.false_eq_true, false_iff, if_true, if_false]
      omega

def nxt (x : Nat) (s : Stp) : Int := 8 * ((x : Int) / 8 + s.2) + ((x : Int) % 8 + s.1)

def onB (x : Nat) (s : Stp) : Bool := decide (0 ≤ (x : Int) % 8 + s.1) && decide ((x : Int) % 8 + s.1 < 8) && decide (0 ≤ (x : Int) / 8 + s.2) && decide ((x : Int) / 8 + s.2 < 8)

theorem next_any (x : Nat) (hx : x < 64) (a b : Int) (h : small (a, b)) (w : World) : Calls Tryz.prog 233 #[.int .i64 (x : Int), .agg #[.int .i64 a, .int .i64 b]] w fun e w' => e = .returned (.tuple #[.int .i64 (nxt x (a, b)), .bool (onB x (a, b))]) ∧ Gr w w' := by
  obtain ⟨h1, h2, h3, h4⟩ := h
  simp only at h1 h2 h3 h4
  go_enter Tryz.func233, Tryz.ntmps233
  go_upto_region 1 with fail
  go_quiet (fail)
  go_wp2
  all_goals
    go_ret2
    refine ⟨ret_ib rfl ?_, ((Gr.refl w).alloc _ _).drewN _⟩
    rw [Bool.eq_iff_iff]
    simp only [onB, Bool.and_eq_true, decide_eq_true_eq, Bool.false_eq_true, false_iff]
    omega

/-- of what lies a step away: does the man attack it? -/
def goesB (c : UInt8) (s : Stp) : Bool :=
  if ((c.toNat : Int) == 80) then (szI s == 2) && (s.2 == 1)
  else if ((c.toNat : Int) == 112) then (szI s == 2) && (s.2 == -1)
  else if ((c.toNat : Int) == 78) || ((c.toNat : Int) == 110) then szI s == 5
  else if ((c.toNat : Int) == 66) || ((c.toNat : Int) == 98) then szI s == 2
  else if ((c.toNat : Int) == 82) || ((c.toNat : Int) == 114) then szI s == 1
  else if ((c.toNat : Int) == 81) || ((c.toNat : Int) == 113) || ((c.toNat : Int) == 75) || ((c.toNat : Int) == 107) then decide (szI s ≤ 2)
  else false

theorem two_in {w : World} {a b : Int} {ty : TypeId} : (w.alloc (.cells #[.int .i64 a, .int .i64 b] ty)).cell? ⟨w.heap.size, 0, none⟩ = some (.int .i64 a) ∧ (w.alloc (.cells #[.int .i64 a, .int .i64 b] ty)).cell? ⟨w.heap.size, 1, none⟩ = some (.int .i64 b) := by
  constructor <;> (rw [World.cell?_alloc_at _ _ _ _ rfl]; rfl)

set_option linter.unusedSimpArgs false in
theorem goes_any (c : UInt8) (a b : Int) (h : small (a, b)) (w : World) : Calls Tryz.prog 160 #[.int .u8 (c.toNat : Int), .agg #[.int .i64 a, .int .i64 b]] w fun e w' => e = .returned (.bool (goesB c (a, b))) ∧ Gr w w' := by
  obtain ⟨z, hz⟩ : ∃ z, Hid (z = szI (a, b)) := ⟨_, hide rfl⟩
  have hs : Hid (∀ W, Calls Tryz.prog 234 #[.agg #[.int .i64 a, .int .i64 b]] W fun e w' => e = .returned (.int .i64 z) ∧ Gr W w') := hide (fun W => by rw [unhide hz]; exact stepSize_any a b h W)
  go_enter Tryz.func160, Tryz.ntmps160
  go_upto_region 1 with fail
  obtain ⟨c0, c1⟩ := two_in (w := w) (a := a) (b := b) (ty := 240)
  have hg0 : Hid (Gr w (w.alloc (.cells #[.int .i64 a, .int .i64 b] 240))) := hide ((Gr.refl w).alloc _ _)
  have hlt : w.heap.size < (w.alloc (.cells #[.int .i64 a, .int .i64 b] 240)).heap.size := by simp
  generalize w.alloc (.cells #[.int .i64 a, .int .i64 b] 240) = wb at c0 c1 hg0 hlt ⊢
  go_wp2_with (go_at_call 234; refine (unhide hs _).mono ?_; rintro e w' ⟨rfl, hg⟩; have d1 := (Below.cell hg (p := ⟨w.heap.size, 1, none⟩) hlt).trans c1; have hg1 := hide (Gr.trans (unhide hg0) hg); clear hg)
  all_goals
    go_ret
    refine ⟨ret_bool ?_, by first | exact unhide hg1 | exact unhide hg0⟩
    simp only [goesB, ← unhide hz]
    simp [*]

end Go.Proofs.YtnfakamfmkhlbaaGreatDoor.C

namespace Go.Proofs.YtnfakamfmkhlbaaGreatDoor.C

open Go.ChangeShapes Go.WideShapes Go.ChangeAt Go.RowKit Go.Shelf

open Go.Proofs.YtnfakamfmkhlbaaGreatDoor.P

attribute [local go_sem] setCell_drewN alloc_drewN Oper.semAt_some

/-! squares one after the other, by steps -/

def stepsL : List Stp := [(0, 1), (1, 1), (1, 0), (1, -1), (0, -1), (-1, -1), (-1, 0), (-1, 1), (1, 2), (2, 1), (2, -1), (1, -2), (-1, -2), (-2, -1), (-2, 1), (-1, 2)]

def nx (x : Nat) (s : Stp) : Nat := (nxt x s).toNat

def wkN (z : Nat → UInt8) (s : Stp) : Nat → Nat → List Nat
  | 0, _ => []
  | n + 1, x => if onB x s then nx x s :: (if z (nx x s) = 46 then wkN z s n (nx x s) else []) else []

/-- how far a square lies off the edge, that way. -/
def dis (x : Nat) (s : Stp) : Nat := if 0 < s.1 then 7 - x % 8 else if s.1 < 0 then x % 8 else if 0 < s.2 then 7 - x / 8 else x / 8

theorem nx_is {x : Nat} {s : Stp} (h : onB x s = true) : nxt x s = (nx x s : Nat) ∧ nx x s < 64 := by
  simp only [onB, Bool.and_eq_true, decide_eq_true_eq] at h
  unfold nx nxt
  omega

theorem dis_lt {x : Nat} {s : Stp} (hx : x < 64) (hs : s.1 ≠ 0 ∨ s.2 ≠ 0) (h : onB x s = true) : dis (nx x s) s < dis x s := by
  simp only [onB, Bool.and_eq_true, decide_eq_true_eq] at h
  unfold dis nx nxt
  split
  · omega
  · split
    · omega
    · split <;> omega

def wkL (z : Nat → UInt8) (s : Stp) (x : Nat) : List Nat := wkN z s 8 x

theorem dis_7 (x : Nat) (hx : x < 64) (s : Stp) : dis x s ≤ 7 := by
  unfold dis
  split
  · omega
  · split
    · omega
    · split <;> omega

def encI (x : Nat) : Array Value := #[.int .i64 (x : Int)]

def isTrue : Value → Bool
  | .bool true => true
  | _ => false

/-- the letters of a board, where they lie. -/
def Bz (z : Nat → UInt8) (a : Nat) (w : World) : Prop := ∀ i, i < 64 → w.cell? ⟨a, i, none⟩ = some (.int .u8 ((z i).toNat : Int))

theorem Bz.fr {z : Nat → UInt8} {a : Nat} {w w' : World} {Q : Nat → Obj → Prop} (h : Bz z a w) (f : Fr Q w w') (hq : ∀ o, Q a o) : Bz z a w' := fun i hi => f.cell (h i hi) (fun o _ => hq o)

structure Wk (z : Nat → UInt8) (x : Nat) (s : Stp) (Bf Bs Bq a : Nat) (w : World) : Prop where
  fr : w.cell? ⟨Bf, 0, none⟩ = some (.int .i64 (x : Int))
  s0 : w.cell? ⟨Bs, 0, none⟩ = some (.int .i64 s.1)
  s1 : w.cell? ⟨Bs, 1, none⟩ = some (.int .i64 s.2)
  qq : w.cell? ⟨Bq, 0, none⟩ = some (.pointer (some ⟨a, 0, none⟩))
  bd : Bz z a w

theorem Wk.fr' {z : Nat → UInt8} {x : Nat} {s : Stp} {Bf Bs Bq a : Nat} {w w' : World} {Q : Nat → Obj → Prop} (h : Wk z x s Bf Bs Bq a w) (f : Fr Q w w') (hq : ∀ k o, (k = Bf ∨ k = Bs ∨ k = Bq ∨ k = a) → Q k o) : Wk z x s Bf Bs Bq a w' :=
  ⟨f.cell h.fr (fun o _ => hq _ o (.inl rfl)), f.cell h.s0 (fun o _ => hq _ o (.inr (.inl rfl))), f.cell h.s1 (fun o _ => hq _ o (.inr (.inl rfl))), f.cell h.qq (fun o _ => hq _ o (.inr (.inr (.inl rfl)))), h.bd.fr f (fun o => hq _ o (.inr (.inr (.inr rfl))))⟩

set_option linter.unusedSimpArgs false in
set_option maxRecDepth 100000 in
set_option maxHeartbeats 4000000 in
theorem walk_it (z : Nat → UInt8) (x : Nat) (hx : x < 64) (a b : Int) (hs : small (a, b)) (hn : a ≠ 0 ∨ b ≠ 0) (Bf Bs Bq A : Nat) (T : Obj → Prop) (w : World) (hw : Wk z x (a, b) Bf Bs Bq A w) :
    It Tryz.prog 232 #[.pointer (some ⟨Bf, 0, none⟩), .pointer (some ⟨Bs, 0, none⟩), .pointer (some ⟨Bq, 0, none⟩)] encI T (fun k => k = Bf ∨ k = Bs ∨ k = Bq ∨ k = A) (wkL z (a, b) x) w := by
  intro l B J Jx W f0 hB hJ hJx hY h0
  have hW := hw.fr' f0 (fun k o h => h)
  clear f0 hw
  have hnx := hide (fun (x : Nat) (hx : x < 64) W => next_any x hx a b hs W)
  refine (callsIn_wide (n := 1)).1 ?_
  refine callsIn_of_wp Tryz.func232 rfl trivial ?_ rfl
  simp only [Tryz.ntmps232, List.size_toArray, List.length_cons, List.length_nil, Nat.reduceAdd, Nat.reduceSub, Array.replicate_succ, Array.replicate_zero, List.push_toArray, List.append_toArray, List.nil_append, List.cons_append]
  have c1 := hW.fr
  have c2 := hW.s0
  have c3 := hW.s1
  gi_wp2_with (refine ⟨trivial, ?_⟩; gi_at_call 233; refine (callsIn_wide.2 (unhide hnx x hx _)).mono ?_; rintro e w' ⟨rfl, hg⟩)
  have hJ0 := hJ _ _ _ h0 (Fr.of_gr hg)
  have hW0 := hW.fr' (Q := fun _ _ => True) (Fr.of_gr hg) (fun _ _ _ => trivial)
  clear c1 c2 c3 hg h0 hW
  gi_loopw [5, 6] (fun sq ok wr => ∃ (pre : List Nat) (y n : Nat), y < 64 ∧ dis y (a, b) < n ∧ sq = .int .i64 (nxt y (a, b)) ∧ ok = .bool (onB y (a, b)) ∧ wkL z (a, b) x = pre ++ wkN z (a, b) n y ∧ Wk z x (a, b) Bf Bs Bq A wr ∧ J pre wr) (fun sq ok _ => if isTrue ok then dis (intOf sq).toNat (a, b) + 1 else 0)
  case atStart => exact ⟨[], x, 8, hx, by have := dis_7 x hx (a, b); omega, rfl, rfl, rfl, hW0, hJ0⟩
  case round =>
    obtain ⟨pre, y, n, hy, hd, rfl, rfl, hxs, hWr, hJr⟩ := hrel
    clear hJ0 hW0
    have hxs' := hide hxs
    have hWr' := hide hWr
    clear hxs hWr
    cases hon : onB y (a, b)
    · have hx2 : wkL z (a, b) x = pre := by
        rw [unhide hxs']
        cases n with
        | zero => simp [wkN]
        | succ n => simp [wkN, hon]
      have hx3 := hide hx2
      clear hx2
      gi_wp2
      go_end0
      exact ⟨⟨_, rfl⟩, .inl (by rw [unhide hx3]; exact hJr)⟩
    · obtain ⟨n, rfl⟩ : ∃ n', n = n' + 1 := ⟨n - 1, by omega⟩
      obtain ⟨e1, e2⟩ := nx_is hon
      have hdl := dis_lt hy hn hon
      rw [e1]
      have hst : wkN z (a, b) (n + 1) y = nx y (a, b) :: (if z (nx y (a, b)) = 46 then wkN z (a, b) n (nx y (a, b)) else []) := by simp [wkN, hon]
      have hxs2 := unhide hxs'
      rw [hst] at hxs2
      generalize nx y (a, b) = m at e2 hdl hst hxs2 ⊢
      have hxs3 := hide hxs2
      have hpm : pre ++ [m] <+: wkL z (a, b) x := ⟨_, by rw [unhide hxs3, List.append_assoc]; rfl⟩
      obtain ⟨fn, tmps, assign, body, hyy, hR⟩ := hY pre m wr hpm hJr
      have hy' : (Instr.yield l #[.int .i64 (m : Int)]).run Tryz.prog wr = .ok (.round l fn tmps assign body) wr := hyy
      clear hxs' hst hxs2 hyy e1 hon
      have hm0 : (0 : Int) ≤ (m : Int) := by omega
      have hm64 : (m : Int) < 64 := by omega
      gi_wp2
      refine hR.mono ?_
      rintro e W3 ⟨f3, ⟨rfl, hJ3⟩ | ⟨rfl, hJx3⟩⟩
      · have hW3 := (unhide hWr').fr' f3 (fun k o h => .inl h)
        have d1 := hW3.qq
        have d2 := hW3.bd m e2
        have d3 := hW3.s0
        have d4 := hW3.s1
        have hW3' := hide hW3
        clear hW3 hWr' hR hy'
        by_cases h46 : z m = 46
        · rw [if_pos h46] at hxs3
          have hz : ((z m).toNat : Int) = 46 := by rw [h46]; rfl
          rw [hz] at d2
          gi_wp2_with (refine ⟨trivial, ?_⟩; gi_at_call 233; refine (callsIn_wide.2 (unhide hnx m e2 _)).mono ?_; rintro e w' ⟨rfl, hg⟩)
          go_roundw
          case rel => exact ⟨pre ++ [m], m, n, e2, by omega, rfl, rfl, by rw [unhide hxs3, List.append_assoc]; rfl, (unhide hW3').fr' (Q := fun _ _ => True) (Fr.of_gr hg) (fun _ _ _ => trivial), hJ _ _ _ hJ3 (Fr.of_gr hg)⟩
          case measure =>
            simp only [intOf, isTrue, if_true, Int.toNat_natCast]
            cases hom : onB m (a, b)
            · simp [isTrue]
            · have := dis_lt e2 hn hom
              simp only [isTrue, if_true]
              unfold nx at this
              omega
        · rw [if_neg h46] at hxs3
          have hz : (((z m).toNat : Int) != 46) = true := by
            simp only [bne_iff_ne]
            intro h
            apply h46
            apply UInt8.toNat_inj.1
            have : (z m).toNat = 46 := by omega
            rw [this]; rfl
          gi_wp2
          refine bodyPost_ret (results_none rfl _ _ _) rfl ?_
          exact ⟨⟨_, rfl⟩, .inl (by rw [unhide hxs3]; exact hJ3)⟩
      · gi_wp2
        refine bodyPost_ret (results_none rfl _ _ _) rfl ?_
        exact ⟨⟨_, rfl⟩, .inr ⟨pre ++ [m], hpm, hJx3⟩⟩

end Go.Proofs.YtnfakamfmkhlbaaGreatDoor.C

namespace Go.Proofs.YtnfakamfmkhlbaaGreatDoor.C

open Go.ChangeShapes Go.WideShapes Go.ChangeAt Go.RowKit Go.Shelf

open Go.Proofs.YtnfakamfmkhlbaaGreatDoor.P

def farB (c : UInt8) : Bool := decide (0 ≤ Lib.indexByte [66, 82, 81, 98, 114, 113] c)

theorem goesFar_any (c : UInt8) (w : World) : Calls Tryz.prog 162 #[.int .u8 (c.toNat : Int)] w fun e w' => e = .returned (.bool (farB c)) ∧ w' = w := by
  have hu : ((c.toNat : Nat) : Int).toNat.toUInt8 = c := by simp
  obtain ⟨ix, hix⟩ : ∃ ix, Lib.indexByte [66, 82, 81, 98, 114, 113] c = ix := ⟨_, rfl⟩
  have hfar : Hid (farB c = decide (0 ≤ ix)) := hide (by unfold farB; rw [hix])
  go_enter Tryz.func162, Tryz.ntmps162
  go_wp2_with (go_at_call 138; refine (Tryz.strings_IndexByte _ _ _).mono ?_; rintro e w' ⟨rfl, rfl⟩)
  go_ret
  refine ⟨ret_bool ?_, rfl⟩
  rw [unhide hfar]

end Go.Proofs.YtnfakamfmkhlbaaGreatDoor.C

namespace Go.Proofs.YtnfakamfmkhlbaaGreatDoor.C

open Go.ChangeShapes Go.WideShapes Go.ChangeAt Go.RowKit Go.Shelf

open Go.Proofs.YtnfakamfmkhlbaaGreatDoor.P

attribute [local go_sem] setCell_drewN alloc_drewN Oper.semAt_some

theorem heapThree (w : World) (o1 o2 o3 : Obj) : (((w.alloc o1).alloc o2).alloc o3).heap[w.heap.size]? = some o1 ∧ (((w.alloc o1).alloc o2).alloc o3).heap[w.heap.size + 1]? = some o2 ∧ (((w.alloc o1).alloc o2).alloc o3).heap[w.heap.size + 2]? = some o3 ∧ (((w.alloc o1).alloc o2).alloc o3).heap.size = w.heap.size + 3 := by
  obtain ⟨h1, h2⟩ := heapTwo w o1 o2
  refine ⟨?_, ?_, ?_, by simp⟩
  · rw [Below.heap_alloc _ _ _ (by simp; omega)]; exact h1
  · rw [Below.heap_alloc _ _ _ (by simp)]; exact h2
  · have := World.alloc_heap_new ((w.alloc o1).alloc o2) o3
    rwa [World.size_alloc, World.size_alloc] at this

/-- what a walk's closure holds. -/
structure WkAt (A x : Nat) (a b : Int) (Bq : Nat) (w : World) : Prop where
  b0 : w.heap[Bq]? = some (.cells #[.pointer (some ⟨A, 0, none⟩)] 243)
  b1 : w.heap[Bq + 1]? = some (.cells #[.int .i64 (x : Int)] 3)
  b2 : w.heap[Bq + 2]? = some (.cells #[.int .i64 a, .int .i64 b] 240)

def wkA (Bq : Nat) : Array Value := #[.pointer (some ⟨Bq + 1, 0, none⟩), .pointer (some ⟨Bq + 2, 0, none⟩), .pointer (some ⟨Bq, 0, none⟩)]

theorem two_cells {V : World} {b : Nat} {x y : Value} {t : TypeId} {fr : Nat × Nat} (h : V.heap[b]? = some (.cells #[x, y] t fr)) : V.cell? ⟨b, 0, none⟩ = some x ∧ V.cell? ⟨b, 1, none⟩ = some y := by
  refine ⟨?_, ?_⟩ <;> simp [World.cell?, h]

theorem WkAt.wk {z : Nat → UInt8} {A x : Nat} {a b : Int} {Bq : Nat} {w : World} (h : WkAt A x a b Bq w) (hb : Bz z A w) : Wk z x (a, b) (Bq + 1) (Bq + 2) Bq A w :=
  ⟨(cell_of_box_l h.b1).1, (two_cells h.b2).1, (two_cells h.b2).2, (cell_of_box_l h.b0).1, hb⟩

theorem walk_mk (A x : Nat) (a b : Int) (w : World) : Calls Tryz.prog 158 #[.pointer (some ⟨A, 0, none⟩), .int .i64 (x : Int), .agg #[.int .i64 a, .int .i64 b]] w fun e w' => e = .returned (.func (.func 232) #[] (wkA w.heap.size)) ∧ WkAt A x a b w.heap.size w' ∧ Gr w w' ∧ w'.heap.size = w.heap.size + 3 := by
  have hmf : ∀ (fn : Fn) (first cap : Array Value) (w : World), (Instr.makeFunc fn first cap).run Tryz.prog w = .ok (.func fn first cap) w := fun _ _ _ _ => rfl
  obtain ⟨h1, h2, h3, h4⟩ := heapThree w (.cells #[.pointer (some ⟨A, 0, none⟩)] 243) (.cells #[.int .i64 (x : Int)] 3) (.cells #[.int .i64 a, .int .i64 b] 240)
  go_enter Tryz.func158, Tryz.ntmps158
  go_wp2
  go_ret
  exact ⟨rfl, ⟨h1, h2, h3⟩, (((Gr.refl w).alloc _ _).alloc _ _).alloc _ _, h4⟩

/-! the table of steps -/

def stepsV : List Value := stepsL.flatMap fun s => [.int .i64 s.1, .int .i64 s.2]

def StTab (w : World) : Prop := w.rangeAt 1 0 stepsV ∧ 1 < w.heap.size

theorem StTab.gr {w w' : World} (h : StTab w) (g : Gr w w') : StTab w' :=
  ⟨fun j v hv => (Below.cell g (p := ⟨_, 0 + j, none⟩) h.2).trans (h.1 j v hv), Nat.lt_of_lt_of_le h.2 (Below.size g)⟩

theorem StTab.fr {Q : Nat → Obj → Prop} {w w' : World} (h : StTab w) (f : Fr Q w w') (hq : ∀ o, Q 1 o) : StTab w' :=
  ⟨fun j v hv => f.cell (h.1 j v hv) (fun o _ => hq o), Nat.lt_of_lt_of_le h.2 f.size⟩

theorem infoS32 : (Tryz.prog.info? 241).map (·.size) = some stepsV.length := by kernel_rfl

def stN (k : Nat) : Stp := stepsL.getD k (0, 1)

theorem stN_small (k : Nat) : small (stN k) ∧ ((stN k).1 ≠ 0 ∨ (stN k).2 ≠ 0) := by
  have h : ∀ s ∈ stepsL, small s ∧ (s.1 ≠ 0 ∨ s.2 ≠ 0) := by
    unfold stepsL small; decide
  unfold stN
  rw [List.getD_eq_getElem?_getD]
  cases e : stepsL[k]? with
  | none => exact ⟨by unfold small; decide, by decide⟩
  | some s => exact h s (List.mem_of_getElem? e)

theorem ixst0 (w : World) : (Instr.index 241 (.agg stepsV.toArray) (.int .i64 0)).run Tryz.prog w = .ok (.agg #[.int .i64 (stN 0).1, .int .i64 (stN 0).2]) w := by kernel_rfl

theorem ixst1 (w : World) : (Instr.index 241 (.agg stepsV.toArray) (.int .i64 1)).run Tryz.prog w = .ok (.agg #[.int .i64 (stN 1).1, .int .i64 (stN 1).2]) w := by kernel_rfl

theorem ixst2 (w : World) : (Instr.index 241 (.agg stepsV.toArray) (.int .i64 2)).run Tryz.prog w = .ok (.agg #[.int .i64 (stN 2).1, .int .i64 (stN 2).2]) w := by kernel_rfl

theorem ixst3 (w : World) : (Instr.index 241 (.agg stepsV.toArray) (.int .i64 3)).run Tryz.prog w = .ok (.agg #[.int .i64 (stN 3).1, .int .i64 (stN 3).2]) w := by kernel_rfl

theorem ixst4 (w : World) : (Instr.index 241 (.agg stepsV.toArray) (.int .i64 4)).run Tryz.prog w = .ok (.agg #[.int .i64 (stN 4).1, .int .i64 (stN 4).2]) w := by kernel_rfl

theorem ixst5 (w : World) : (Instr.index 241 (.agg stepsV.toArray) (.int .i64 5)).run Tryz.prog w = .ok (.agg #[.int .i64 (stN 5).1, .int .i64 (stN 5).2]) w := by kernel_rfl

theorem ixst6 (w : World) : (Instr.index 241 (.agg stepsV.toArray) (.int .i64 6)).run Tryz.prog w = .ok (.agg #[.int .i64 (stN 6).1, .int .i64 (stN 6).2]) w := by kernel_rfl

theorem ixst7 (w : World) : (Instr.index 241 (.agg stepsV.toArray) (.int .i64 7)).run Tryz.prog w = .ok (.agg #[.int .i64 (stN 7).1, .int .i64 (stN 7).2]) w := by kernel_rfl

theorem ixst8 (w : World) : (Instr.index 241 (.agg stepsV.toArray) (.int .i64 8)).run Tryz.prog w = .ok (.agg #[.int .i64 (stN 8).1, .int .i64 (stN 8).2]) w := by kernel_rfl

theorem ixst9 (w : World) : (Instr.index 241 (.agg stepsV.toArray) (.int .i64 9)).run Tryz.prog w = .ok (.agg #[.int .i64 (stN 9).1, .int .i64 (stN 9).2]) w := by kernel_rfl

theorem ixst10 (w : World) : (Instr.index 241 (.agg stepsV.toArray) (.int .i64 10)).run Tryz.prog w = .ok (.agg #[.int .i64 (stN 10).1, .int .i64 (stN 10).2]) w := by kernel_rfl

theorem ixst11 (w : World) : (Instr.index 241 (.agg stepsV.toArray) (.int .i64 11)).run Tryz.prog w = .ok (.agg #[.int .i64 (stN 11).1, .int .i64 (stN 11).2]) w := by kernel_rfl

theorem ixst12 (w : World) : (Instr.index 241 (.agg stepsV.toArray) (.int .i64 12)).run Tryz.prog w = .ok (.agg #[.int .i64 (stN 12).1, .int .i64 (stN 12).2]) w := by kernel_rfl

theorem ixst13 (w : World) : (Instr.index 241 (.agg stepsV.toArray) (.int .i64 13)).run Tryz.prog w = .ok (.agg #[.int .i64 (stN 13).1, .int .i64 (stN 13).2]) w := by kernel_rfl

theorem ixst14 (w : World) : (Instr.index 241 (.agg stepsV.toArray) (.int .i64 14)).run Tryz.prog w = .ok (.agg #[.int .i64 (stN 14).1, .int .i64 (stN 14).2]) w := by kernel_rfl

theorem ixst15 (w : World) : (Instr.index 241 (.agg stepsV.toArray) (.int .i64 15)).run Tryz.prog w = .ok (.agg #[.int .i64 (stN 15).1, .int .i64 (stN 15).2]) w := by kernel_rfl

theorem ixst (k : Nat) (hk : k < 16) (w : World) : (Instr.index 241 (.agg stepsV.toArray) (.int .i64 (k : Int))).run Tryz.prog w = .ok (.agg #[.int .i64 (stN k).1, .int .i64 (stN k).2]) w := by
  have : k = 0 ∨ k = 1 ∨ k = 2 ∨ k = 3 ∨ k = 4 ∨ k = 5 ∨ k = 6 ∨ k = 7 ∨ k = 8 ∨ k = 9 ∨ k = 10 ∨ k = 11 ∨ k = 12 ∨ k = 13 ∨ k = 14 ∨ k = 15 := by omega
  rcases this with rfl | rfl | rfl | rfl | rfl | rfl | rfl | rfl | rfl | rfl | rfl | rfl | rfl | rfl | rfl | rfl
  · exact ixst0 w
  · exact ixst1 w
  · exact ixst2 w
  · exact ixst3 w
  · exact ixst4 w
  · exact ixst5 w
  · exact ixst6 w
  · exact ixst7 w
  · exact ixst8 w
  · exact ixst9 w
  · exact ixst10 w
  · exact ixst11 w
  · exact ixst12 w
  · exact ixst13 w
  · exact ixst14 w
  · exact ixst15 w

end Go.Proofs.YtnfakamfmkhlbaaGreatDoor.C
