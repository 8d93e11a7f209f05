import Derived.Test.YtnfakamfmkhlbaaGreatDoorZg20
import Derived.Test.YtnfakamfmkhlbaaGreatDoorZg19
import Derived.Test.YtnfakamfmkhlbaaGreatDoorZg17
import Derived.Test.YtnfakamfmkhlbaaGreatDoorKz
namespace Go.Proofs.YtnfakamfmkhlbaaGreatDoor.C
open Go.ChangeShapes Go.WideShapes Go.ChangeAt Go.RowKit Go.Shelf
open Go.Proofs.YtnfakamfmkhlbaaGreatDoor.P
attribute [local go_sem] setCell_drewN alloc_drewN Oper.semAt_some
theorem It.gr {α : Type} {P : Program} {g : Nat} {lb : Array Value} {encs : α → Array Value} {T : Obj → Prop} {C : Nat → Prop} {xs : List α} {w w' : World} (h : It P g lb encs T C xs w) (k : Gr w w') : It P g lb encs T C xs w' :=
 fun l B J Jx W f => h l B J Jx W ((Fr.of_gr k).trans f)
theorem owns_mono {w : World} {base base' n s : Nat} {e : TypeId} {v : Value} {xs : List Value} (h : w.ownsRow base e s v n xs) (hb : base' ≤ base) : w.ownsRow base' e s v n xs := by
 refine ⟨h.1, ?_⟩
 rcases h.2 with h2 | ⟨g, cap, cur, hv, h3, rest⟩
 ·exact .inl h2
 ·exact .inr ⟨g, cap, cur, hv, Nat.le_trans hb h3, rest⟩
theorem owns_gr {w w' : World} {base n s : Nat} {e : TypeId} {v : Value} {xs : List Value} (h : w.ownsRow base e s v n xs) (g : Gr w w') : w'.ownsRow base e s v n xs := by
 refine ⟨h.1, ?_⟩
 rcases h.2 with h2 | ⟨k, cap, cur, hv, h3, hk, rest⟩
 ·exact .inl h2
 ·exact .inr ⟨k, cap, cur, hv, h3, (Below.block g _ (Array.getElem?_eq_some_iff.1 hk).1).trans hk, rest⟩
set_option maxRecDepth 100000 in
theorem sortedFunc_any {g : Nat} {lb : Array Value} {C : Nat → Prop} {xs : List Mv} {w : World} (hit : It Tryz.prog g lb encM TM C xs w) (heg : ∀ args w, (callFunc g args).run Tryz.prog w = .ok (.enter g args) w) (hCb : ∀ k, C k → k < w.heap.size) (hx : ∀ x ∈ xs, okM x) (hlen : xs.length ≤ 1000000) (B : Nat) (hB : w.cell? ⟨B, 0, none⟩ = some keyV) :
  Calls Tryz.prog 240 #[.func (.func g) #[] lb, .func (.func 241) #[] #[.pointer (some ⟨B, 0, none⟩)]] w fun e w' => ∃ v, e = .returned v ∧ w'.ownsRow w.heap.size 94 3 v xs.length (rowM (sortM xs)) ∧ Gr w w' := by
 have hc := hide (collect_any hit heg hCb hlen)
 have hb : B < w.heap.size := World.block_lt_of_cell? _ _ hB
 have hs : Hid (∀ v W, W.ownsRow w.heap.size 94 3 v xs.length (rowM xs) → Gr w W → Calls Tryz.prog 288 #[v, .func (.func 241) #[] #[.pointer (some ⟨B, 0, none⟩)]] W fun e w' => e = .returned (.tuple #[]) ∧ w'.ownsRow w.heap.size 94 3 v xs.length (rowM (sortM xs)) ∧ Below w.heap.size W w') := hide (fun v W ho hg => sortFunc_any hx hlen ho ((Below.cell hg hb).trans hB) hb)
 clear hit heg hCb hx hlen hB
 go_enter Tryz.func240, Tryz.ntmps240
 go_wp2_with (first | (go_at_call 287; refine (unhide hc).mono ?_; rintro e w' ⟨v, rfl, hv, hg⟩) | (go_at_call 288; refine (unhide hs _ _ hv hg).mono ?_; rintro e w2 ⟨rfl, hv2, hg2⟩))
 go_ret
 exact ⟨v, rfl, hv2, Below.trans hg hg2⟩
set_option maxRecDepth 100000 in
theorem inOrder_any {g : Nat} {lb : Array Value} {C : Nat → Prop} {xs : List Mv} {w : World} (hit : It Tryz.prog g lb encM TM C xs w) (heg : ∀ args w, (callFunc g args).run Tryz.prog w = .ok (.enter g args) w) (hCb : ∀ k, C k → k < w.heap.size) (hx : ∀ x ∈ xs, okM x) (hlen : xs.length ≤ 1000000) :
  Calls Tryz.prog 167 #[.func (.func g) #[] lb, .func (.func 100) #[] #[]] w fun e w' => ∃ v, e = .returned v ∧ w'.ownsRow w.heap.size 94 3 v xs.length (rowM (sortM xs)) ∧ Gr w w' := by
 have hmf : ∀ (fn : Fn) (first cap : Array Value) (w : World), (Instr.makeFunc fn first cap).run Tryz.prog w = .ok (.func fn first cap) w := fun _ _ _ _ => rfl
 have hg1 : ∀ t, Gr w (w.alloc (.cells #[.func (.func 100) #[] #[]] t)) := fun t => (Gr.refl w).alloc _ _
 have hs : Hid (∀ t, Calls Tryz.prog 240 #[.func (.func g) #[] lb, .func (.func 241) #[] #[.pointer (some ⟨w.heap.size, 0, none⟩)]] (w.alloc (.cells #[.func (.func 100) #[] #[]] t)) fun e w' => ∃ v, e = .returned v ∧ w'.ownsRow w.heap.size 94 3 v xs.length (rowM (sortM xs)) ∧ Gr w w') := hide (fun t => by
  refine (sortedFunc_any (hit.gr (hg1 t)) heg (fun k hk => by have := hCb k hk; rw [World.size_alloc]; omega) hx hlen w.heap.size (by rw [World.cell?_alloc_at _ _ _ _ rfl]; rfl)).mono ?_
  rintro e w' ⟨v, rfl, h1, h2⟩
  exact ⟨v, rfl, owns_mono h1 (by rw [World.size_alloc]; omega), Gr.trans (hg1 t) h2⟩)
 clear hit heg hCb hx hlen
 go_enter Tryz.func167, Tryz.ntmps167
 go_wp2_with (go_at_call 240; refine (unhide hs _).mono ?_; rintro e w' ⟨v, rfl, hv, hg⟩)
 go_ret
 exact ⟨v, rfl, hv, hg⟩
structure MkIt (gm gi : Nat) (PA : Array Value) (xs : List Mv) (w : World) : Prop where
 em : ∀ args w, (callFunc gm args).run Tryz.prog w = .ok (.enter gm args) w
 ei : ∀ args w, (callFunc gi args).run Tryz.prog w = .ok (.enter gi args) w
 go : ∀ T : Obj → Prop, (∀ o, T o → ∃ c fr, o = .cells c 94 fr) → ∀ W, Gr w W → Calls Tryz.prog gm #[.agg PA] W fun e w' => ∃ lb C, e = .returned (.func (.func gi) #[] lb) ∧ Gr W w' ∧ (∀ k, C k → k < w'.heap.size) ∧ It Tryz.prog gi lb encM T C xs w'
 ok : ∀ x ∈ xs, okM x
 len : xs.length ≤ 1000000
theorem MkIt.gr {gm gi : Nat} {PA : Array Value} {xs : List Mv} {w w' : World} (h : MkIt gm gi PA xs w) (g : Gr w w') : MkIt gm gi PA xs w' :=
 ⟨h.em, h.ei, fun T hT W hW => h.go T hT W (Gr.trans g hW), h.ok, h.len⟩
structure Ig (w : World) (gm : Nat) (PA : Array Value) (W : World) : Prop where
 q : W.cell? ⟨w.heap.size, 1, none⟩ = some (.func (.func gm) #[] #[])
 pa : W.heap[w.heap.size + 1]? = some (.cells PA 25)
 gr : Gr w W
theorem Ig.next {w W W' : World} {gm : Nat} {PA : Array Value} (h : Ig w gm PA W) (g : Gr W W') : Ig w gm PA W' :=
 ⟨(Below.cell g (World.block_lt_of_cell? W _ h.q)).trans h.q, (Below.block g _ (Array.getElem?_eq_some_iff.1 h.pa).1).trans h.pa, Gr.trans h.gr g⟩
def wayA (ga gm : Nat) : Array Value := #[.func (.func ga) #[] #[], .func (.func gm) #[] #[]]
set_option linter.unusedSimpArgs false in
set_option maxRecDepth 100000 in
set_option maxHeartbeats 2000000 in
theorem gameMoves_any {ga gm gi : Nat} {PA : Array Value} {xs : List Mv} {w : World} (hsz : PA.size = 72) (m : MkIt gm gi PA xs w) :
  Calls Tryz.prog 99 #[.agg (wayA ga gm), .agg PA] w fun e w' => ∃ v, e = .returned v ∧ w'.ownsRow w.heap.size 94 3 v xs.length (rowM (sortM xs)) ∧ Gr w w' := by
 have hi72 : (Tryz.prog.info? 25).map (·.size) = some PA.toList.length := by rw [Array.length_toList, hsz]; exact infoP72
 have hm := hide m
 have em := m.em
 clear m
 simp only [wayA] at ⊢
 have hA0 : Ig w gm PA ((w.alloc (.cells (wayA ga gm) 84)).alloc (.cells PA 25)) := by
  obtain ⟨e1, e2⟩ := heapTwo w (.cells (wayA ga gm) 84) (.cells PA 25)
  exact ⟨by rw [cell_of_row _ _ _ _ _ _ e1]; rfl, e2, ((Gr.refl w).alloc _ _).alloc _ _⟩
 go_enter Tryz.func99, Tryz.ntmps99
 go_upto_region 1 with fail
 show Code.wp _ _ _ _ ((w.alloc (.cells (wayA ga gm) 84)).alloc (.cells PA 25))
 generalize ((w.alloc (.cells (wayA ga gm) 84)).alloc (.cells PA 25)) = wA at hA0 ⊢
 have c1 := hA0.q
 have kpa := hA0.pa
 have hgA := hide hA0.gr
 have hgo : Hid (Calls Tryz.prog gm #[.agg PA] wA fun e w' => ∃ lb C, e = .returned (.func (.func gi) #[] lb) ∧ Gr wA w' ∧ (∀ k, C k → k < w'.heap.size) ∧ It Tryz.prog gi lb encM TM C xs w') := hide ((unhide hm).go TM (fun _ h => h) wA hA0.gr)
 have hio : Hid (∀ lb C W, (∀ k, C k → k < W.heap.size) → It Tryz.prog gi lb encM TM C xs W → Calls Tryz.prog 167 #[.func (.func gi) #[] lb, .func (.func 100) #[] #[]] W fun e w' => ∃ v, e = .returned v ∧ w'.ownsRow W.heap.size 94 3 v xs.length (rowM (sortM xs)) ∧ Gr W w') := hide (fun lb C W h1 h2 => inOrder_any h2 (unhide hm).ei h1 (unhide hm).ok (unhide hm).len)
 clear hA0 hm
 go_wp2_with (first
  | (refine wpList_load_row rfl 25 _ rfl (w.heap.size + 1) rfl 25 PA (0, 0) _ kpa Tryz.underlying25 rfl (by rw [hsz]; exact infoP) ?_)
  | (go_at_fn gm; refine (unhide hgo).mono ?_; rintro e w' ⟨lb, C, rfl, hga, hCb, hit⟩)
  | (go_at_call 167; refine (unhide hio _ _ _ hCb hit).mono ?_; rintro e w2 ⟨v, rfl, hv, hg2⟩))
 go_ret
 exact ⟨v, rfl, owns_mono hv (Nat.le_trans (Below.size (unhide hgA)) (Below.size hga)), Gr.trans (unhide hgA) (Gr.trans hga hg2)⟩
def txts (xs : List Mv) : List ByteArray := xs.map fun x => str (txt x)
theorem row_form {w : World} {base n : Nat} {v : Value} {ys : List Mv} (h : w.ownsRow base 94 3 v n (rowM ys)) : ∃ p cap, v = .slice p n cap ∧ n ≤ cap ∧ ∀ i, i < n → ∀ (hy : i < ys.length), ∃ g, p = some ⟨g, 0, none⟩ ∧ w.cell? ⟨g, i * 3, none⟩ = some (.int .i64 (ys[i].1 : Int)) ∧ w.cell? ⟨g, i * 3 + 1, none⟩ = some (.int .i64 (ys[i].2.1 : Int)) ∧ w.cell? ⟨g, i * 3 + 2, none⟩ = some (.int .u8 (ys[i].2.2.toNat : Int)) := by
 rcases h.2 with ⟨rfl, rfl⟩ | ⟨g, cap, cur, rfl, hb, hg, hn, hm, hcs, htk⟩
 ·exact ⟨none, 0, rfl, Nat.le_refl _, fun i hi => absurd hi (Nat.not_lt_zero i)⟩
 ·refine ⟨_, _, rfl, hn, fun i hi hy => ⟨g, rfl, ?_⟩⟩
  have hj : ∀ c, c < 3 → w.cell? ⟨g, i * 3 + c, none⟩ = (mvC ys[i]).toList[c]? := fun c hc => by
   have h1 : i * 3 + c < n * 3 := by omega
   simp only [World.cell?]
   rw [hg]
   show cur[i * 3 + c]? = _
   rw [← Array.getElem?_toList, ← List.getElem?_take_of_lt h1, htk, flat_get, show (i * 3 + c) / 3 = i by omega, show (i * 3 + c) % 3 = c by omega, List.getElem?_eq_getElem hy]
   rfl
  exact ⟨hj 0 (by decide), hj 1 (by decide), hj 2 (by decide)⟩
set_option linter.unusedSimpArgs false in
set_option maxRecDepth 100000 in
set_option maxHeartbeats 2000000 in
theorem gameTexts_any {ga gm gi : Nat} {PA : Array Value} {xs : List Mv} {w : World} (hsz : PA.size = 72) (m : MkIt gm gi PA xs w) :
  Calls Tryz.prog 45 #[.agg (wayA ga gm), .agg PA] w fun e w' => ∃ v, e = .returned v ∧ Strs w.heap.size v (txts (sortM xs)) w' ∧ Gr w w' := by
 obtain ⟨i0, hi, hz0, hz1, hz2⟩ := info_parts infoS
 have hi' := hide hi
 clear hi
 have hm := hide m
 clear m
 have hA0 : Ig w gm PA ((w.alloc (.cells (wayA ga gm) 84)).alloc (.cells PA 25)) := by
  obtain ⟨e1, e2⟩ := heapTwo w (.cells (wayA ga gm) 84) (.cells PA 25)
  exact ⟨by rw [cell_of_row _ _ _ _ _ _ e1]; rfl, e2, ((Gr.refl w).alloc _ _).alloc _ _⟩
 have hc0 : ((w.alloc (.cells (wayA ga gm) 84)).alloc (.cells PA 25)).cell? ⟨w.heap.size, 0, none⟩ = some (.func (.func ga) #[] #[]) := by
  obtain ⟨e1, e2⟩ := heapTwo w (.cells (wayA ga gm) 84) (.cells PA 25)
  rw [cell_of_row _ _ _ _ _ _ e1]; rfl
 simp only [wayA] at ⊢
 go_enter Tryz.func45, Tryz.ntmps45
 go_upto_region 1 with fail
 show Code.wp _ _ _ _ ((w.alloc (.cells (wayA ga gm) 84)).alloc (.cells PA 25))
 generalize ((w.alloc (.cells (wayA ga gm) 84)).alloc (.cells PA 25)) = wA at hA0 hc0 ⊢
 have c1 := hA0.q
 have kpa := hA0.pa
 have hgA := hide hA0.gr
 have hgm : Hid (Calls Tryz.prog 99 #[.agg #[.func (.func ga) #[] #[], .func (.func gm) #[] #[]], .agg PA] wA fun e w' => ∃ v, e = .returned v ∧ w'.ownsRow wA.heap.size 94 3 v xs.length (rowM (sortM xs)) ∧ Gr wA w') := hide (gameMoves_any hsz ((unhide hm).gr hA0.gr))
 have hok : ∀ x ∈ sortM xs, okM x := fun x hx => (unhide hm).ok x ((sortM_perm xs).mem_iff.1 hx)
 have hys : (sortM xs).length = xs.length := sortM_len xs
 have hlen := (unhide hm).len
 obtain ⟨ys, hYS⟩ : ∃ ys, Hid (ys = sortM xs) := ⟨_, hide rfl⟩
 rw [← unhide hYS] at hgm hok hys
 clear hA0 hm
 go_wp2_with (first
  | (refine wpList_load_row rfl 25 _ rfl (w.heap.size + 1) rfl 25 PA (0, 0) _ kpa Tryz.underlying25 rfl (by rw [hsz]; exact infoP) ?_)
  | (go_at_call 99; refine (unhide hgm).mono ?_; rintro e w1 ⟨v, rfl, hv, hg1⟩; obtain ⟨p, cap, rfl, hcap, hel⟩ := row_form hv))
 have hgw := hide (Gr.trans (unhide hgA) hg1)
 have hel' := hide hel
 clear hgm hv hg1 hgA kpa c1 hc0 hel
 go_loopg [5, 7, 12] xs.length (fun g v _ i wr => ∃ k : Nat, k + g = xs.length ∧ i = .int .i64 (k : Int) ∧ Strs w1.heap.size v (txts (ys.take k)) wr ∧ Gr w1 wr)
 case atStart => exact ⟨0, by omega, rfl, ⟨rfl, .inl ⟨rfl, rfl⟩⟩, Gr.refl _⟩
 case round =>
  obtain ⟨k, k1, rfl, hst, hgr⟩ := hrel
  by_cases hlt : k < xs.length
  ·obtain ⟨g, rfl, x0, x1, x2⟩ := unhide hel' k hlt (by omega)
   have hblt : g < w1.heap.size := World.block_lt_of_cell? _ _ x0
   have x0 := (Below.cell hgr hblt).trans x0
   have x1 := (Below.cell hgr hblt).trans x1
   have x2 := (Below.cell hgr hblt).trans x2
   have hyk : okM ys[k] := hok _ (List.getElem_mem _)
   have htk : Hid (ys.take (k + 1) = ys.take k ++ [ys[k]]) := hide (List.take_succ_eq_append_getElem (by omega))
   generalize ys[k] = y at x0 x1 x2 hyk htk
   obtain ⟨f, t, u⟩ := y
   have hst' := hide hst
   have hgr' := hide hgr
   have hwz := Below.size hgr
   obtain ⟨S, hS⟩ : ∃ S, Hid (S = str (txt (f, t, u))) := ⟨_, hide rfl⟩
   have hN : Hid (∀ W, Calls Tryz.prog 100 #[.agg #[.int .i64 (f : Int), .int .i64 (t : Int), .int .u8 (u.toNat : Int)]] W fun e w' => e = .returned (.string S) ∧ Gr W w') := hide (fun W => by rw [unhide hS]; exact moveP_any f t hyk.1 hyk.2 u W)
   have hga : Hid (Gr wr (wr.alloc (.cells #[.int .i64 (f : Int), .int .i64 (t : Int), .int .u8 (u.toNat : Int)] 94))) := hide ((Gr.refl _).alloc _ _)
   clear hst hgr hok hyk
   go_upto_region 5 with fail
   have hx := World.alloc_heap_new wr (.cells #[.int .i64 (f : Int), .int .i64 (t : Int), .int .u8 (u.toNat : Int)] 94)
   generalize (wr.alloc (.cells #[.int .i64 (f : Int), .int .i64 (t : Int), .int .u8 (u.toNat : Int)] 94)) = wb at hga hx ⊢
   obtain ⟨y0, y1, y2⟩ := mv_cells hx
   clear hx x0 x1 x2
   go_upto_region 6 with (first
    | (go_at_call 100; refine (unhide hN _).mono ?_; rintro e w2 ⟨rfl, hg2⟩; have hg3 := Gr.trans (unhide hgr') (Gr.trans (unhide hga) hg2); have hs3 := Below.size hg3; have hst2 := hide (owns_gr (unhide hst') (Gr.trans (unhide hga) hg2)))
    | (at_builtin; refine wpList_append_own _ rfl (.tmp 16) (.tmp 19) 37 rfl w1.heap.size 9 i0 (.string ⟨#[]⟩) 1 16 Tryz.underlying37 (unhide hi') hz0 hz1 hz2 rfl (by decide) u5 (txts (ys.take k)).length ((txts (ys.take k)).map Value.string) rfl ((unhide hst2).alloc _) ⟨w2.heap.size, 0, none⟩ 1 1 [.string S] rfl rfl (cell_one_new _ _ _) (by simp [Value.oneCell']) (by unfold maxLen; rw [txts, List.length_map, List.length_take]; omega) (by rw [txts, List.length_map, List.length_take]; omega) (by simp; omega) ?_; intro v' w3 hown' hgrow hnil))
   go_wp2_with fail
   go_roundg (gk - 1)
   case measure => omega
   case rel =>
    refine ⟨k + 1, by omega, by go_num, ?_, ?_⟩
    ·unfold Strs
     rw [unhide htk, txts, List.map_append, List.map_append, List.length_append]
     rw [unhide hS] at hown'
     exact hown'
    ·exact (hg3.alloc _ _).grown hgrow (by simp; omega) (strs_block (unhide hst2))
  ·have ek : k = xs.length := by omega
   rw [ek, ← hys, List.take_length, unhide hYS] at hst
   have hst' := hide hst
   have hgr' := hide hgr
   clear hst hgr hok hel'
   subst ek
   go_wp2_with fail
   go_ret
   exact ⟨_, rfl, owns_mono (unhide hst') (Below.size (unhide hgw)), Gr.trans (unhide hgw) (unhide hgr')⟩
theorem flat_bound {α β : Type} {l : List α} {f : α → List β} {n k : Nat} (hl : l.length ≤ n) (h : ∀ x ∈ l, (f x).length ≤ k) : (l.flatMap f).length ≤ n * k := by
 have h1 : ∀ l : List α, (∀ x ∈ l, (f x).length ≤ k) → (l.flatMap f).length ≤ l.length * k := by
  intro l
  induction l with
  | nil => intro _; simp
  | cons a r ih =>
   intro h
   rw [List.flatMap_cons, List.length_append, List.length_cons, Nat.add_mul, Nat.one_mul]
   have := ih (fun x hx => h x (List.mem_cons_of_mem _ hx))
   have := h a (List.mem_cons_self ..)
   omega
 exact Nat.le_trans (h1 l h) (Nat.mul_le_mul_right k hl)
theorem turns_len (p : Bool) (f t : Nat) : (turnsB p f t).length ≤ 4 := by unfold turnsB; split <;> simp
theorem turns_ok {p : Bool} {f t : Nat} {x : Mv} (hf : f < 64) (ht : t < 64) (h : x ∈ turnsB p f t) : okM x := by
 unfold turnsB at h
 split at h
 ·simp only [List.mem_cons, List.not_mem_nil, or_false] at h
  rcases h with rfl | rfl | rfl | rfl <;> exact ⟨hf, ht⟩
 ·rw [List.mem_singleton.1 h]; exact ⟨hf, ht⟩
theorem movS_ok (z : Nat → UInt8) (wh : Bool) (fc : Nat → Bool) (b : Int) : ∀ x ∈ movS z wh fc b, okM x := by
 intro x hx
 unfold movS uptoS placeS fromS toS at hx
 simp only [List.mem_flatMap] at hx
 obtain ⟨k, _, f, hf, t, ht, h⟩ := hx
 split at h
 ·exact turns_ok (sqs_lt hf) (sqs_lt ht) h
 ·cases h
theorem movS_len (z : Nat → UInt8) (wh : Bool) (fc : Nat → Bool) (b : Int) : (movS z wh fc b).length ≤ 1000000 := by
 have h : (movS z wh fc b).length ≤ 6 * (64 * (64 * 4)) := by
  unfold movS uptoS
  refine flat_bound (by simp) fun k _ => ?_
  refine flat_bound (sqs_len _) fun f _ => ?_
  refine flat_bound (sqs_len _) fun t _ => ?_
  unfold toS
  split
  ·exact turns_len _ _ _
  ·simp
 omega
theorem mkS {z : Nat → UInt8} {wh : Bool} {fc : Nat → Bool} {b h g : Int} {PA : Array Value} (r : Row z wh fc b h g PA) (hok : layOk z = true) (hb0 : -1 ≤ b) (hb1 : b ≤ 63) (w : World) (hT : TabIn w) (hC : CasTab w) :
  MkIt 105 171 PA (movS z wh fc b) w where
 em := enters_of Tryz.func105 (by kernel_rfl) rfl
 ei := enters_of Tryz.func171 (by kernel_rfl) rfl
 ok := movS_ok z wh fc b
 len := movS_len z wh fc b
 go := by
  intro T hTm W hg
  refine (setsMoves_mk PA W).mono ?_
  rintro e w' ⟨rfl, hp, hg2⟩
  have hgw := Gr.trans hg hg2
  refine ⟨_, _, rfl, hg2, ?_, movesS_it r hok hb0 hb1 W.heap.size T hTm w' hp (hT.gr hgw) (hC.gr hgw)⟩
  rintro k (rfl | rfl | rfl)
  ·exact (Array.getElem?_eq_some_iff.1 hp).1
  ·exact (hT.gr hgw).2
  ·exact (hC.gr hgw).2
end Go.Proofs.YtnfakamfmkhlbaaGreatDoor.C
namespace Go.Proofs.YtnfakamfmkhlbaaGreatDoor.C
open Go.ChangeShapes Go.WideShapes Go.ChangeAt Go.RowKit
attribute [local go_sem] setCell_drewN alloc_drewN
set_option maxRecDepth 100000 in
set_option maxHeartbeats 400000 in
theorem passing_any {z : Nat → UInt8} {wh : Bool} {fc : Nat → Bool} {b h g : Int} {PA : Array Value} (r : Row z wh fc b h g PA) (f t : Nat) (hf : f < 64) (ht : t < 64) (u : UInt8) (w : World) : Calls Tryz.prog 195 #[.agg PA, .agg #[.int .i64 (f : Int), .int .i64 (t : Int), .int .u8 (u.toNat : Int)]] w fun e w' => e = .returned (.bool (decide (kdc (z f) = 0) && decide ((t : Int) = b) && decide (f % 8 ≠ t % 8))) ∧ Gr w w' := by
 have hsq := r.sq f hf
 have hb := r.b
 have ef : (f : Int).tmod 8 = ((f % 8 : Nat) : Int) := by rw [Int.tmod_eq_emod_of_nonneg (by omega)]; omega
 have et : (t : Int).tmod 8 = ((t % 8 : Nat) : Int) := by rw [Int.tmod_eq_emod_of_nonneg (by omega)]; omega
 have hk := hide (fun W => kind_any (z f) W)
 have hg2 : Hid (∀ o : Array Value, Gr w ((w.alloc (.cells PA 25)).alloc (.cells o 171))) := hide (fun o => ((Gr.refl w).alloc _ _).alloc _ _)
 generalize kdc (z f) = kd at hk ⊢
 have hne : Hid (((((f % 8 : Nat) : Int) != ((t % 8 : Nat) : Int))) = decide (f % 8 ≠ t % 8)) := hide (by
  by_cases e : f % 8 = t % 8
  ·simp [e]
  ·have : ((f % 8 : Nat) : Int) ≠ ((t % 8 : Nat) : Int) := by omega
   simp only [bne_iff_ne, ne_eq, this, e, not_false_eq_true, decide_true])
 obtain ⟨q, hq⟩ : ∃ q, Hid (decide (f % 8 ≠ t % 8) = q) := ⟨_, hide rfl⟩
 rw [unhide hq]
 have hne' := unhide hne
 rw [unhide hq] at hne'
 clear hq hne
 generalize f % 8 = fm at ef hne'
 generalize t % 8 = tm at et hne'
 by_cases k0 : kd = 0
 ·have k1 : (kd == 0) = true := by simp [k0]
  rw [decide_eq_true k0]
  clear k0
  by_cases t0 : (t : Int) = b
  ·have t1 : ((t : Int) == b) = true := by simp [t0]
   rw [decide_eq_true t0]
   clear t0
   go_enter Tryz.func195, Tryz.ntmps195
   go_wp2_with (go_at_call 86; refine (unhide hk _).mono ?_; rintro e w' ⟨rfl, rfl⟩)
   go_ret
   exact ⟨rfl, unhide hg2 _⟩
  ·have t1 : ((t : Int) == b) = false := by rw [beq_eq_false_iff_ne]; exact t0
   rw [decide_eq_false t0]
   clear t0
   go_enter Tryz.func195, Tryz.ntmps195
   go_wp2_with (go_at_call 86; refine (unhide hk _).mono ?_; rintro e w' ⟨rfl, rfl⟩)
   go_ret
   exact ⟨rfl, unhide hg2 _⟩
 ·have k1 : (kd == 0) = false := by rw [beq_eq_false_iff_ne]; exact k0
  rw [decide_eq_false k0]
  clear k0
  go_enter Tryz.func195, Tryz.ntmps195
  go_wp2_with (go_at_call 86; refine (unhide hk _).mono ?_; rintro e w' ⟨rfl, rfl⟩)
  go_ret
  exact ⟨rfl, unhide hg2 _⟩
def casB (wh : Bool) (fc : Nat → Bool) (f t : Nat) (u : UInt8) (i : Nat) : Bool := fc i && (sdb (decide (i < 2)) == sdb wh) && ((f : Int) == homeK i) && ((t : Int) == homeT i) && ((u.toNat : Int) == 0)
def casF2 (p : Nat → Bool) : Nat → Nat → Int
 | 0, _ => -1
 | n + 1, i => if p i then (i : Int) else casF2 p n (i + 1)
def casR (wh : Bool) (fc : Nat → Bool) (f t : Nat) (u : UInt8) : Int := casF2 (casB wh fc f t u) 4 0
theorem blk_old (W : World) (o : Obj) (j : Nat) (h : j < W.heap.size) : (W.alloc o).heap[j]? = W.heap[j]? := Below.block ((Below.refl W.heap.size W).alloc (Nat.le_refl _) o) j h
set_option maxRecDepth 100000 in
set_option maxHeartbeats 4000000 in
theorem row_at {w w' : World} {PA o : Array Value} {ty ty2 : TypeId} (g : Gr ((w.alloc (.cells PA ty)).alloc (.cells o ty2)) w') : w'.heap[w.heap.size]? = some (.cells PA ty (0, 0)) ∧ w'.heap[w.heap.size + 1]? = some (.cells o ty2 (0, 0)) := by
 constructor
 ·refine (Below.block g _ (by rw [World.size_alloc, World.size_alloc]; omega)).trans ?_
  rw [blk_old _ _ _ (by rw [World.size_alloc]; omega)]
  exact World.alloc_heap_new w _
 ·refine (Below.block g _ (by rw [World.size_alloc, World.size_alloc]; omega)).trans ?_
  have := World.alloc_heap_new (w.alloc (.cells PA ty)) (.cells o ty2)
  rwa [World.size_alloc] at this
theorem cells_at {W : World} {b : Nat} {A : Array Value} {ty : TypeId} (h : W.heap[b]? = some (.cells A ty (0, 0))) (i : Nat) : W.cell? ⟨b, i, none⟩ = A[i]? := by
 simp only [World.cell?]; rw [h]; rfl
theorem rowOf {W : World} {b : Nat} {A : Array Value} {ty : TypeId} (h : W.heap[b]? = some (.cells A ty (0, 0))) : RowAt b A W :=
 ⟨(Array.getElem?_eq_some_iff.1 h).1, fun j v hv => by rw [Nat.zero_add, cells_at h, ← Array.getElem?_toList]; exact hv⟩
set_option maxRecDepth 100000 in
set_option maxHeartbeats 4000000 in
theorem castles_any {z : Nat → UInt8} {wh : Bool} {fc : Nat → Bool} {b h g : Int} {PA : Array Value} (r : Row z wh fc b h g PA) (f t : Nat) (u : UInt8) (w : World) : Calls Tryz.prog 196 #[.agg PA, .agg #[.int .i64 (f : Int), .int .i64 (t : Int), .int .u8 (u.toNat : Int)]] w fun e w' => e = .returned (.int .i64 (casR wh fc f t u)) ∧ Gr w w' := by
 have hz := r.size
 have hca := hide r.c
 have htu := hide (fun W => turn_any r W)
 have hho := hide (fun i hi W => home_any i hi W)
 have hg2 : Hid (∀ o : Array Value, Gr w ((w.alloc (.cells PA 25)).alloc (.cells o 171))) := hide (fun o => ((Gr.refl w).alloc _ _).alloc _ _)
 have hin : Hid (∀ w', Gr ((w.alloc (.cells PA 25)).alloc (.cells #[.int .i64 (f : Int), .int .i64 (t : Int), .int .u8 (u.toNat : Int)] 171)) w' → _) := hide (fun w' g => row_at g)
 unfold casR
 go_enter Tryz.func196, Tryz.ntmps196
 go_wp2_with fail
 have hgw := hide (unhide hg2 #[.int .i64 (f : Int), .int .i64 (t : Int), .int .u8 (u.toNat : Int)])
 generalize ((w.alloc (.cells PA 25)).alloc (.cells #[.int .i64 (f : Int), .int .i64 (t : Int), .int .u8 (u.toNat : Int)] 171)) = w2 at hin hgw ⊢
 clear hg2
 go_loopg [5] 4 (fun gm i wr => ∃ d : Nat, d + gm = 4 ∧ i = .int .i64 (d : Int) ∧ Gr w2 wr ∧ casF2 (casB wh fc f t u) gm d = casF2 (casB wh fc f t u) 4 0)
 case atStart => exact ⟨0, by omega, rfl, Gr.refl _, rfl⟩
 case round =>
  obtain ⟨d, d1, rfl, hG, hcf⟩ := hrel
  have hG' := hide hG
  have hcf' := hide hcf
  clear hG hcf
  by_cases hd : d < 4
  ·obtain ⟨hP, hm⟩ := unhide hin _ (unhide hG')
   have hrow := hide (rowOf hP)
   have hcd : wr.cell? ⟨w.heap.size, 65 + d, none⟩ = some (.bool (fc d)) := by rw [cells_at hP]; exact unhide hca d hd
   have m0 : wr.cell? ⟨w.heap.size + 1, 0, none⟩ = some (.int .i64 (f : Int)) := by rw [cells_at hm]; rfl
   have m1 : wr.cell? ⟨w.heap.size + 1, 1, none⟩ = some (.int .i64 (t : Int)) := by rw [cells_at hm]; rfl
   have m2 : wr.cell? ⟨w.heap.size + 1, 2, none⟩ = some (.int .u8 (u.toNat : Int)) := by rw [cells_at hm]; rfl
   clear hP hm
   have hmv : Hid (∀ w', Gr w2 w' → w'.cell? ⟨w.heap.size + 1, 0, none⟩ = some (.int .i64 (f : Int)) ∧ w'.cell? ⟨w.heap.size + 1, 1, none⟩ = some (.int .i64 (t : Int)) ∧ w'.cell? ⟨w.heap.size + 1, 2, none⟩ = some (.int .u8 (u.toNat : Int))) := hide (fun w' g => by
    have hm := (unhide hin w' g).2
    exact ⟨by rw [cells_at hm]; rfl, by rw [cells_at hm]; rfl, by rw [cells_at hm]; rfl⟩)
   obtain ⟨gg, rfl⟩ : ∃ gg, gk = gg + 1 := ⟨gk - 1, by omega⟩
   have hst : Hid (casF2 (casB wh fc f t u) (gg + 1) d = if fc d && (sdb (decide (d < 2)) == sdb wh) && ((f : Int) == homeK d) && ((t : Int) == homeT d) && ((u.toNat : Int) == 0) then (d : Int) else casF2 (casB wh fc f t u) gg (d + 1)) := hide rfl
   obtain ⟨x1, e1⟩ : ∃ x, (sdb (decide (d < 2)) == sdb wh) = x := ⟨_, rfl⟩
   obtain ⟨x2, e2⟩ : ∃ x, ((f : Int) == homeK d) = x := ⟨_, rfl⟩
   obtain ⟨x3, e3⟩ : ∃ x, ((t : Int) == homeT d) = x := ⟨_, rfl⟩
   obtain ⟨x4, e4⟩ : ∃ x, ((u.toNat : Int) == 0) = x := ⟨_, rfl⟩
   generalize fc d = x0 at hcd hst
   rw [e1, e2, e3, e4] at hst
   have hcf2 := hide ((unhide hst).symm.trans (unhide hcf'))
   clear hst hcf' hin hca m0 m1 m2
   cases x0
   ·clear e1 e2 e3 e4
    go_wp2_with (first
     | (go_at_call 88; refine (unhide hho d hd _).mono ?_; rintro e w' ⟨rfl, hww⟩; have hww' := hww.symm; subst hww'; clear hww)
     | (go_at_call 90; refine (unhide htu _).mono ?_; rintro e w6 ⟨rfl, hg6⟩; obtain ⟨m0, m1, m2⟩ := unhide hmv _ (Gr.trans (unhide hG') hg6); have hG6 := hide (Gr.trans (unhide hG') hg6); clear hg6)
     | (refine wpList_load_pos (by rfl) _ rfl w.heap.size rfl hz (unhide hrow) ?_))
    go_roundg gg
    case measure => omega
    case rel => exact ⟨d + 1, by omega, rfl, unhide hG', unhide hcf2⟩
   ·cases x1
    ·skip
     go_wp2_with (first
      | (go_at_call 88; refine (unhide hho d hd _).mono ?_; rintro e w' ⟨rfl, hww⟩; have hww' := hww.symm; subst hww'; clear hww)
      | (go_at_call 90; refine (unhide htu _).mono ?_; rintro e w6 ⟨rfl, hg6⟩; obtain ⟨m0, m1, m2⟩ := unhide hmv _ (Gr.trans (unhide hG') hg6); have hG6 := hide (Gr.trans (unhide hG') hg6); clear hg6)
      | (refine wpList_load_pos (by rfl) _ rfl w.heap.size rfl hz (unhide hrow) ?_))
     go_roundg gg
     case measure => omega
     case rel => exact ⟨d + 1, by omega, rfl, unhide hG6, unhide hcf2⟩
    ·cases x2
     ·skip
      go_wp2_with (first
       | (go_at_call 88; refine (unhide hho d hd _).mono ?_; rintro e w' ⟨rfl, hww⟩; have hww' := hww.symm; subst hww'; clear hww)
       | (go_at_call 90; refine (unhide htu _).mono ?_; rintro e w6 ⟨rfl, hg6⟩; obtain ⟨m0, m1, m2⟩ := unhide hmv _ (Gr.trans (unhide hG') hg6); have hG6 := hide (Gr.trans (unhide hG') hg6); clear hg6)
       | (refine wpList_load_pos (by rfl) _ rfl w.heap.size rfl hz (unhide hrow) ?_))
      go_roundg gg
      case measure => omega
      case rel => exact ⟨d + 1, by omega, rfl, unhide hG6, unhide hcf2⟩
     ·cases x3
      ·skip
       go_wp2_with (first
        | (go_at_call 88; refine (unhide hho d hd _).mono ?_; rintro e w' ⟨rfl, hww⟩; have hww' := hww.symm; subst hww'; clear hww)
        | (go_at_call 90; refine (unhide htu _).mono ?_; rintro e w6 ⟨rfl, hg6⟩; obtain ⟨m0, m1, m2⟩ := unhide hmv _ (Gr.trans (unhide hG') hg6); have hG6 := hide (Gr.trans (unhide hG') hg6); clear hg6)
        | (refine wpList_load_pos (by rfl) _ rfl w.heap.size rfl hz (unhide hrow) ?_))
       go_roundg gg
       case measure => omega
       case rel => exact ⟨d + 1, by omega, rfl, unhide hG6, unhide hcf2⟩
      ·cases x4
       ·skip
        go_wp2_with (first
         | (go_at_call 88; refine (unhide hho d hd _).mono ?_; rintro e w' ⟨rfl, hww⟩; have hww' := hww.symm; subst hww'; clear hww)
         | (go_at_call 90; refine (unhide htu _).mono ?_; rintro e w6 ⟨rfl, hg6⟩; obtain ⟨m0, m1, m2⟩ := unhide hmv _ (Gr.trans (unhide hG') hg6); have hG6 := hide (Gr.trans (unhide hG') hg6); clear hg6)
         | (refine wpList_load_pos (by rfl) _ rfl w.heap.size rfl hz (unhide hrow) ?_))
        go_roundg gg
        case measure => omega
        case rel => exact ⟨d + 1, by omega, rfl, unhide hG6, unhide hcf2⟩
       ·skip
        go_wp2_with (first
         | (go_at_call 88; refine (unhide hho d hd _).mono ?_; rintro e w' ⟨rfl, hww⟩; have hww' := hww.symm; subst hww'; clear hww)
         | (go_at_call 90; refine (unhide htu _).mono ?_; rintro e w6 ⟨rfl, hg6⟩; obtain ⟨m0, m1, m2⟩ := unhide hmv _ (Gr.trans (unhide hG') hg6); have hG6 := hide (Gr.trans (unhide hG') hg6); clear hg6)
         | (refine wpList_load_pos (by rfl) _ rfl w.heap.size rfl hz (unhide hrow) ?_))
        go_ret
        exact ⟨by rw [← unhide hcf2]; rfl, Gr.trans (unhide hgw) (unhide hG6)⟩
  ·have ed : d = 4 := by omega
   subst ed
   obtain rfl : gk = 0 := by omega
   clear hin hca
   go_wp2_with fail
   go_ret
   exact ⟨by rw [← unhide hcf']; rfl, Gr.trans (unhide hgw) (unhide hG')⟩
def wayP (i : Nat) (j : Nat) : Int := if i % 2 = 0 then homeK i + j else homeK i - j
def wayL (i : Nat) : Nat := if i % 2 = 0 then 3 else 4
def clrH (z : Nat → UInt8) (i : Nat) : Bool := P.freeI (fun n => ((z n).toNat : Int)) (wayP i) (wayL i)
theorem clearH_any (z : Nat → UInt8) (A : Array Value) (hA : ∀ i, i < 64 → A[i]? = some (.int .u8 ((z i).toNat : Int))) (i : Nat) (hi : i < 4) (w : World) : Calls Tryz.prog 230 #[.agg A, .int .i64 (homeK i), .int .i64 (homeR i)] w fun e w' => e = .returned (.bool (clrH z i)) ∧ Gr w w' := by
 have hc : i = 0 ∨ i = 1 ∨ i = 2 ∨ i = 3 := by omega
 refine clear_any A (fun n => ((z n).toNat : Int)) hA (homeK i) (homeR i) ?_ ?_ ?_ ?_ (wayP i) (wayL i) ?_ ?_ ?_ ?_ ?_ ?_ w
 ·rcases hc with rfl | rfl | rfl | rfl <;> decide
 ·rcases hc with rfl | rfl | rfl | rfl <;> decide
 ·rcases hc with rfl | rfl | rfl | rfl <;> decide
 ·rcases hc with rfl | rfl | rfl | rfl <;> decide
 ·rcases hc with rfl | rfl | rfl | rfl <;> decide
 ·rcases hc with rfl | rfl | rfl | rfl <;> decide
 ·intro j
  rcases hc with rfl | rfl | rfl | rfl
  ·show (4 : Int) + ((j + 1 : Nat) : Int) = 4 + (j : Int) + 8 * 0 + 1; omega
  ·show (4 : Int) - ((j + 1 : Nat) : Int) = 4 - (j : Int) + 8 * 0 + (-1); omega
  ·show (60 : Int) + ((j + 1 : Nat) : Int) = 60 + (j : Int) + 8 * 0 + 1; omega
  ·show (60 : Int) - ((j + 1 : Nat) : Int) = 60 - (j : Int) + 8 * 0 + (-1); omega
 ·rcases hc with rfl | rfl | rfl | rfl <;> decide
 ·intro j hj
  rcases hc with rfl | rfl | rfl | rfl
  ·have : j ≤ 3 := hj; show 0 ≤ (4 : Int) + (j : Int) ∧ (4 : Int) + (j : Int) ≤ 63; omega
  ·have : j ≤ 4 := hj; show 0 ≤ (4 : Int) - (j : Int) ∧ (4 : Int) - (j : Int) ≤ 63; omega
  ·have : j ≤ 3 := hj; show 0 ≤ (60 : Int) + (j : Int) ∧ (60 : Int) + (j : Int) ≤ 63; omega
  ·have : j ≤ 4 := hj; show 0 ≤ (60 : Int) - (j : Int) ∧ (60 : Int) - (j : Int) ≤ 63; omega
 ·intro j h1 hj
  rcases hc with rfl | rfl | rfl | rfl
  ·have : j < 3 := hj; show (4 : Int) + (j : Int) ≠ 7; omega
  ·have : j < 4 := hj; show (4 : Int) - (j : Int) ≠ 0; omega
  ·have : j < 3 := hj; show (60 : Int) + (j : Int) ≠ 63; omega
  ·have : j < 4 := hj; show (60 : Int) - (j : Int) ≠ 56; omega
theorem homes_in (i : Nat) (hi : i < 4) : 0 ≤ homeK i ∧ homeK i ≤ 63 ∧ 0 ≤ homeT i ∧ homeT i ≤ 63 ∧ IntKind.i64.wrap (homeK i + homeT i) = homeK i + homeT i ∧ 0 ≤ (homeK i + homeT i).tdiv 2 ∧ (homeK i + homeT i).tdiv 2 ≤ 63 ∧ IntKind.i64.wrap (-(sdb (decide (i < 2)))) = sdb (!decide (i < 2)) := by
 have hc : i = 0 ∨ i = 1 ∨ i = 2 ∨ i = 3 := by omega
 rcases hc with rfl | rfl | rfl | rfl <;> decide +kernel
def freeC (z : Nat → UInt8) (i : Nat) : Bool := clrH z i && !(attR z (homeK i) (!decide (i < 2))) && !(attR z ((homeK i + homeT i).tdiv 2) (!decide (i < 2))) && !(attR z (homeT i) (!decide (i < 2)))
theorem mid_at {W : World} {b : Nat} {A : Array Value} (h : RowAt b A W) : W.rangeAt b 0 (A.toList.take 64) := fun j v hv => h.2 j v (by
 rw [List.getElem?_take] at hv
 split at hv
 ·exact hv
 ·cases hv)
set_option maxRecDepth 100000 in
set_option maxHeartbeats 2000000 in
theorem free_any {z : Nat → UInt8} {wh : Bool} {fc : Nat → Bool} {b h g : Int} {PA : Array Value} (r : Row z wh fc b h g PA) (i : Nat) (hi : i < 4) (w : World) : Calls Tryz.prog 278 #[.agg PA, .int .i64 (i : Int)] w fun e w' => e = .returned (.bool (freeC z i)) ∧ Gr w w' := by
 have hho := hide (fun W => home_any i hi W)
 obtain ⟨bs, bA⟩ := board_of r
 obtain ⟨k0, k1, t0, t1, kt, q0, q1, hs⟩ := homes_in i hi
 have hclr := hide (fun W => clearH_any z _ bA i hi W)
 have hatt := hide (fun y y0 y1 W => attackedR_any z _ bs bA y y0 y1 (!decide (i < 2)) W)
 have hmid := hide (fun W (h : RowAt w.heap.size PA W) => mid_at h)
 have hrow : Hid (∀ W, Gr (w.alloc (.cells PA 25)) W → RowAt w.heap.size PA W) := hide (fun W g => rowOf ((Below.block g _ (by rw [World.size_alloc]; omega)).trans (World.alloc_heap_new w _)))
 have hg0 := hide ((Gr.refl w).alloc PA 25)
 have hi64 : (Tryz.prog.info? 22).map (·.size) = some (PA.toList.take 64).length := by rw [info64]; simp [r.size]
 have hi64' := hide hi64
 have hfr : Hid (freeC z i = (clrH z i && !(attR z (homeK i) (!decide (i < 2))) && !(attR z ((homeK i + homeT i).tdiv 2) (!decide (i < 2))) && !(attR z (homeT i) (!decide (i < 2))))) := hide rfl
 generalize freeC z i = F at hfr ⊢
 generalize (PA.toList.take 64) = L at hclr hatt hmid hi64'
 clear bs bA hi64
 generalize homeK i = K at *
 generalize homeT i = T at *
 generalize homeR i = R at *
 generalize sdb (decide (i < 2)) = sd at *
 go_enter Tryz.func278, Tryz.ntmps278
 go_upto_region 2 with (go_at_call 88; refine (unhide hho _).mono ?_; rintro e w' ⟨rfl, hww⟩; have hww' := hww.symm; subst hww'; clear hww)
 have hga := hide (Gr.refl (w.alloc (.cells PA 25)))
 generalize w.alloc (.cells PA 25) = wa at hga hrow hg0 ⊢
 go_upto_region 3 with (first
  | (go_at_call 230; refine (unhide hclr _).mono ?_; rintro e w3 ⟨rfl, hg3⟩)
  | (refine wpList_load_mid rfl 22 _ rfl w.heap.size 0 rfl L _ (unhide hmid _ (unhide hrow _ (unhide hga))) Tryz.underlying22 rfl (unhide hi64') ?_))
 have hgb := hide (Gr.trans (unhide hga) hg3)
 clear hga hg3 hclr
 go_upto_region 4 with (first
  | (go_at_call 91; refine (unhide hatt _ k0 k1 _).mono ?_; rintro e w4 ⟨rfl, hg4⟩)
  | (refine wpList_load_mid rfl 22 _ rfl w.heap.size 0 rfl L _ (unhide hmid _ (unhide hrow _ (unhide hgb))) Tryz.underlying22 rfl (unhide hi64') ?_))
 have hgc := hide (Gr.trans (unhide hgb) hg4)
 clear hgb hg4
 have kt' : IntKind.i64.wrap ((K + T).tdiv 2) = (K + T).tdiv 2 := by rw [IntKind.wrap_i64]; omega
 go_upto_region 5 with (first
  | (go_at_call 91; refine (unhide hatt _ q0 q1 _).mono ?_; rintro e w5 ⟨rfl, hg5⟩)
  | (refine wpList_load_mid rfl 22 _ rfl w.heap.size 0 rfl L _ (unhide hmid _ (unhide hrow _ (unhide hgc))) Tryz.underlying22 rfl (unhide hi64') ?_))
 have hgd := hide (Gr.trans (unhide hgc) hg5)
 clear hgc hg5 kt' kt
 generalize (K + T).tdiv 2 = M at q0 q1 hfr ⊢
 go_upto_region 6 with (first
  | (go_at_call 91; refine (unhide hatt _ t0 t1 _).mono ?_; rintro e w6 ⟨rfl, hg6⟩)
  | (refine wpList_load_mid rfl 22 _ rfl w.heap.size 0 rfl L _ (unhide hmid _ (unhide hrow _ (unhide hgd))) Tryz.underlying22 rfl (unhide hi64') ?_))
 have hge := hide (Gr.trans (unhide hg0) (Gr.trans (unhide hgd) hg6))
 clear hgd hg6 hatt hmid hrow hg0 hi64' hho
 generalize attR z K (!decide (i < 2)) = a1 at hfr ⊢
 generalize attR z M (!decide (i < 2)) = a2 at hfr ⊢
 generalize attR z T (!decide (i < 2)) = a3 at hfr ⊢
 generalize clrH z i = c1 at hfr ⊢
 cases c1 <;> cases a1 <;> cases a2 <;> cases a3
 all_goals
  go_wp2_with fail
  go_ret
  exact ⟨by rw [unhide hfr]; rfl, unhide hge⟩
end Go.Proofs.YtnfakamfmkhlbaaGreatDoor.C
