import Derived.Test.YtnfakamfmkhlbabDoorMr5
namespace Go.Proofs.YtnfakamfmkhlbabDoor.C
open Go.ChangeShapes Go.WideShapes Go.ChangeAt Go.RowKit Go.Shelf
open Go.Proofs.YtnfakamfmkhlbabDoor.P
theorem pick_in (m : List Nat) (j : Nat) (hj : j < m.length) (r : Nat) (o : BitVec 64) (h : r % 2 = 1) : sumB (picked (m.drop j) r) o = sumB (picked (m.drop (j + 1)) (r / 2)) (o + 1#64 <<< m[j]) := by
  rw [List.drop_eq_getElem_cons hj, picked, if_pos h]; rfl
theorem pick_out (m : List Nat) (j : Nat) (hj : j < m.length) (r : Nat) (o : BitVec 64) (h : ¬ r % 2 = 1) : sumB (picked (m.drop j) r) o = sumB (picked (m.drop (j + 1)) (r / 2)) o := by
  rw [List.drop_eq_getElem_cons hj, picked, if_neg h]
theorem rng_drop (k x n c : Nat) (h : c < n) : (vwsR k x n).drop c = (setR k x c, reachB k x (setR k x c)) :: (vwsR k x n).drop (c + 1) := by
  unfold vwsR
  rw [List.drop_eq_getElem_cons (by simpa using h), List.getElem_map, List.getElem_range]

def pw (j : Nat) : Nat := 2 ^ j
theorem pw_dbl : ∀ j, j < 12 → IntKind.i64.wrap (2 * ((pw j : Nat) : Int)) = ((pw (j + 1) : Nat) : Int) := by decide +kernel
theorem pw_le : ∀ j, j ≤ 12 → 1 ≤ pw j ∧ pw j ≤ 4096 := by decide +kernel
attribute [local go_sem] mk_4096

set_option linter.unusedSimpArgs false in
set_option maxRecDepth 100000 in
set_option maxHeartbeats 8000000 in
theorem magicR_any (k x : Nat) (hk : k = 4 ∨ k = 5) (hx : x < 64) (f : BitVec 64) (b : Nat) (hb1 : 1 ≤ b) (hb2 : b ≤ 12) (w : World) :
    Calls Tryd.prog 15 #[.int .i64 (k : Int), .int .i64 (x : Int), .int .u64 (U f), .int .i64 (b : Int)] w fun e w' => e = .returned (.bool (fits (vws k x) f b)) ∧ Gr w w' := by
  rw [← fits_same k x hk hx f b, show 2 ^ (mtrR k x).length = pw (mtrR k x).length from rfl]
  obtain ⟨q, hq⟩ : ∃ q, Hid (fits (vwsR k x (pw (mtrR k x).length)) f b = q) := ⟨_, hide rfl⟩
  rw [unhide hq]
  have hml : 1 ≤ (mtrR k x).length ∧ (mtrR k x).length ≤ 12 := by
    have := mtrR_len x hx
    rcases hk with rfl | rfl <;> omega
  obtain ⟨hm1, hm2⟩ := hml
  have hmt := hide (matterR_any k x hk hx w)
  have hln := hide (fun W => lines_any k x hk hx W)
  have hsn := hide (fun A t W h => seenR_any k x hk hx A t W h)
  have hone : Hid ((1 : Int) = U (1#64 <<< 0)) := hide (by decide +kernel)
  go_enter Tryd.func15, Tryd.ntmps15
  go_wp2_with (first
    | (go_at_call 17; refine (unhide hmt).mono ?_; rintro e w1 ⟨v, rfl, hv, hg1⟩; obtain ⟨ma, mcap, rfl, hform⟩ := hv.form; have hv' := hide hv; have hg1' := hide hg1; clear hv hg1 hform)
    | (go_at_call 22; refine (unhide hln _).mono ?_; rintro e w2 ⟨A, rfl, hsz, hA, hg2⟩; have hA' := hide hA; have hg2' := hide hg2; clear hA hg2)
    | (refine wpList_store_row rfl 52 _ _ rfl w2.heap.size A rfl rfl 52 _ (World.alloc_heap_new w2 _) (by rw [hsz]; exact info4) (by rw [hsz]; rfl) (lines_ones hsz (unhide hA')) ?_))
  have hM0 := hide (Mg.start (unhide hv') (unhide hg1') (unhide hA') (unhide hg2') #[.slice none 0 0, .slice none 0 0, .slice none 0 0, .slice none 0 0])
  clear hv' hg1' hA' hg2' hmt hln
  generalize ((w2.alloc (.cells #[.slice none 0 0, .slice none 0 0, .slice none 0 0, .slice none 0 0] 52)).setRow w2.heap.size A) = w3 at hM0 ⊢
  generalize w3.alloc (.cells (madeCells #[.int .u64 0] 4096) 22) = wt at hM0 ⊢
  generalize w2.heap.size + 1 = tb at hM0 ⊢
  generalize w2.heap.size = bL at hM0 ⊢
  obtain ⟨s, hs⟩ : ∃ s, s + b = 64 := ⟨64 - b, by omega⟩
  have hs64 : s < 64 := by omega
  clear w1 w2 w3
  go_loopg [12, 13] s (fun g sh i wr => ∃ j : Nat, j + g = s ∧ i = .int .i64 (j : Int) ∧ sh = .int .u64 (U (1#64 <<< j)) ∧ wr = wt)
  case atStart => exact ⟨0, by omega, rfl, by rw [← unhide hone], rfl⟩
  case round =>
    obtain ⟨j, j1, rfl, rfl, hww⟩ := hrel
    subst hww
    by_cases hlt : j < s
    · have hd := dbl_bit j (by omega)
      go_wp2_with fail
      go_roundg (gk - 1)
      case measure => omega
      case rel => exact ⟨j + 1, by omega, rfl, rfl, rfl⟩
    · have ej : j = s := by omega
      subst ej
      clear hone
      go_wp2_with fail
      have hp1 : Hid ((1 : Int) = ((pw 0 : Nat) : Int)) := hide (by decide +kernel)
      have hset : Hid (∀ c, setR k x c = sumB (picked ((mtrR k x).drop 0) c) 0#64) := hide (fun _ => rfl)
      have hlt64 : Hid (∀ (j : Nat) (hj : j < (mtrR k x).length), (mtrR k x)[j] < 64) := hide (fun j hj => (mtrR_ok k x hk hx).2 _ (List.getElem_mem hj))
      have hcell : Hid (∀ T W, Mg w k x bL tb A (.slice ma (mtrR k x).length mcap) T W → ∃ g, ma = some ⟨g, 0, none⟩ ∧ (mtrR k x).length ≤ mcap ∧ ∀ (j : Nat) (hj : j < (mtrR k x).length), W.cell? ⟨g, j, none⟩ = some (.int .i64 ((mtrR k x)[j] : Int))) := hide (fun T W h => by
        obtain ⟨a, cap, e, h2⟩ := h.m.form
        simp only [Value.slice.injEq, true_and] at e
        obtain ⟨rfl, rfl⟩ := e
        exact h2 (by omega))
      generalize hm : mtrR k x = m at *
      go_loopg [14, 15] m.length (fun g t i wr2 => ∃ d : Nat, d + g = m.length ∧ i = .int .i64 (d : Int) ∧ t = .int .i64 ((pw d : Nat) : Int) ∧ wr2 = wr)
      case atStart => exact ⟨0, by omega, rfl, by rw [← unhide hp1], rfl⟩
      case round =>
        obtain ⟨d, d1, rfl, rfl, hww⟩ := hrel
        subst hww
        clear hp1
        by_cases hd : d < m.length
        · have hd2 := pw_dbl d (by omega)
          have hpl := pw_le d (by omega)
          go_wp2_with fail
          go_roundg (gk - 1)
          case measure => omega
          case rel => exact ⟨d + 1, by omega, rfl, rfl, rfl⟩
        · have ed : d = m.length := by omega
          subst ed
          have hpl := pw_le m.length hm2
          have hdrop : Hid (∀ c, c < pw m.length → (vwsR k x (pw m.length)).drop c = (setR k x c, reachB k x (setR k x c)) :: (vwsR k x (pw m.length)).drop (c + 1)) := hide (fun c hc => rng_drop k x _ c hc)
          have hlast : Hid ((vwsR k x (pw m.length)).drop (pw m.length) = []) := hide (by rw [List.drop_eq_nil_iff]; unfold vwsR; simp)
          generalize pw m.length = n at hpl hdrop hlast hq ⊢
          generalize vwsR k x n = L at hdrop hlast hq
          generalize hshe : U (1#64 <<< j) = sh
          have hsh := hide hshe
          clear hshe
          go_wp2_with fail
          go_loopg [16] n (fun g i wr2 => ∃ c : Nat, c + g = n ∧ i = .int .i64 (c : Int) ∧ ∃ T, Mg w k x bL tb A (.slice ma m.length mcap) T wr2 ∧ fitsT f b T (L.drop c) = q)
          case atStart => exact ⟨0, by omega, rfl, _, unhide hM0, unhide hq⟩
          case round =>
            clear hM0 hq
            obtain ⟨c, c1, rfl, T, hM, hfit⟩ := hrel
            have hM' := hide hM
            have hfit' := hide hfit
            clear hM hfit
            by_cases hc : c < n
            · go_wp2_with fail
              have hz0 : Hid ((0 : Int) = U 0#64) := hide U_zero
              have hse := hide ((unhide hset c).symm)
              have hdc := hide (unhide hdrop c hc)
              generalize setR k x c = z at hse hdc
              go_loopg [17, 18, 19] m.length (fun g st rs i wr3 => ∃ (d r : Nat) (o : BitVec 64), d + g = m.length ∧ i = .int .i64 (d : Int) ∧ rs = .int .i64 (r : Int) ∧ st = .int .u64 (U o) ∧ r ≤ 4096 ∧ sumB (picked (m.drop d) r) o = z ∧ wr3 = wr)
              case atStart => exact ⟨0, c, 0#64, by omega, rfl, rfl, by rw [← unhide hz0], by omega, unhide hse, rfl⟩
              case round =>
                obtain ⟨d, r, o, d1, rfl, rfl, rfl, hr, hsum, hww⟩ := hrel
                subst hww
                have hsum' := hide hsum
                clear hsum hse hz0
                by_cases hd' : d < m.length
                · have e1 : (r : Int).tmod 2 = ((r % 2 : Nat) : Int) := by rw [Int.tmod_eq_emod_of_nonneg (by omega)]; omega
                  have e2 : (r : Int).tdiv 2 = ((r / 2 : Nat) : Int) := by rw [Int.tdiv_eq_ediv_of_nonneg (by omega)]; omega
                  have hr2 : r / 2 ≤ 4096 := by omega
                  obtain ⟨g, hma, hcap, hcs⟩ := unhide hcell _ _ (unhide hM')
                  subst hma
                  have hcd := hcs d hd'
                  have h64 := unhide hlt64 d hd'
                  have hbit := hide (fun W => bit_any m[d] h64 W)
                  have e3 : IntKind.u64.wrap (U o + U (1#64 <<< m[d])) = U (o + 1#64 <<< m[d]) := add_U _ _
                  clear hcs
                  by_cases ho : r % 2 = 1
                  · have hnx := hide (pick_in m d hd' r o ho)
                    rw [ho] at e1
                    generalize m[d] = y at hcd h64 hbit e3 hnx
                    generalize r / 2 = r2 at e2 hr2 hnx
                    go_wp2_with (go_at_call 23; refine (unhide hbit _).mono ?_; rintro e w' ⟨rfl, hww⟩; have hww' := hww.symm; subst hww'; clear hww)
                    go_roundg (gk - 1)
                    case measure => omega
                    case rel => exact ⟨d + 1, r2, _, by omega, rfl, rfl, rfl, hr2, by rw [← unhide hnx]; exact unhide hsum', rfl⟩
                  · have hnx := hide (pick_out m d hd' r o ho)
                    rw [show r % 2 = 0 from by omega] at e1
                    generalize r / 2 = r2 at e2 hr2 hnx
                    go_wp2_with fail
                    go_roundg (gk - 1)
                    case measure => omega
                    case rel => exact ⟨d + 1, r2, _, by omega, rfl, rfl, rfl, hr2, by rw [← unhide hnx]; exact unhide hsum', rfl⟩
                · have ed : d = m.length := by omega
                  subst ed
                  have hoz : o = z := by rw [← unhide hsum', List.drop_length]; rfl
                  subst hoz
                  clear hsum'
                  have e0 : (0 : Int) < sh := by rw [← unhide hsh, pow_U j hs64]; exact Int.natCast_pos.2 (Nat.two_pow_pos _)
                  have e00 : sh ≠ 0 := by omega
                  have e01 : (sh == 0) = false := by rw [beq_eq_false_iff_ne]; exact e00
                  have e1 := mul_U o f
                  have e2 : IntKind.u64.wrap ((U (o * f)).tdiv sh) = ((plc f b o : Nat) : Int) := by
                    rw [← unhide hsh, div_U _ j hs64, show j = 64 - b from by omega]; rfl
                  have hp : plc f b o < 4096 := by
                    have h1 := plc_lt f b hb1 (by omega) o
                    have h2 : 2 ^ b ≤ 4096 := Nat.pow_le_pow_right (by decide) hb2
                    omega
                  have hca : Hid (clash T (plc f b o) (reachB k x o) = true → q = false) := hide (fun h => by
                    rw [← unhide hfit', unhide hdc, fitsT, if_pos h])
                  have hcb : Hid (clash T (plc f b o) (reachB k x o) = false → fitsT f b (upd T (plc f b o) (reachB k x o)) (L.drop (c + 1)) = q) := hide (fun h => by
                    rw [← unhide hfit', unhide hdc, fitsT, if_neg (by rw [h]; decide)])
                  have hsee := hide (unhide hsn A o wr (fun i hi => by obtain ⟨u, u1, u2, _⟩ := (unhide hM').ln i hi; exact ⟨u, u1, _, u2⟩))
                  clear hfit' hdc hset hlt64 hcell hdrop
                  generalize plc f b o = p at hp hca hcb e2
                  generalize reachB k x o = r at hca hcb hsee
                  generalize hof : U (o * f) = of at e1 e2
                  clear hof
                  by_cases hz : T p = 0#64
                  · have h0 : (U (T p) != 0) = false := by rw [hz]; decide +kernel
                    have hnx := hide (unhide hcb (by unfold clash; simp [hz]))
                    clear hca hcb hz
                    go_wp2_with (first
                      | (go_at_call 24; refine (unhide hsee).mono ?_; rintro e w6 ⟨rfl, hg6⟩; have hM6 := (unhide hM').step hg6; have ht := (hM6.tbl p hp).1; have hfz := (hM6.tbl p hp).2; have hM6' := hide hM6; clear hM6 hg6)
                      | (refine wpList_load_row rfl 52 _ rfl bL rfl 52 A (0, 0) _ (unhide hM').box Tryd.underlying52 rfl (by rw [hsz]; exact info4) ?_))
                    go_roundg (n - c - 1)
                    case measure => omega
                    case rel => exact ⟨c + 1, by omega, rfl, _, (unhide hM6').put hp r, unhide hnx⟩
                  · by_cases he : T p = r
                    · have h0 : (U (T p) != 0) = true := by rw [U_zero]; exact U_ne hz
                      have h1 : (U (T p) != U r) = false := by rw [he]; simp
                      have hnx := hide (unhide hcb (by unfold clash; simp [he]))
                      clear hca hcb hz he
                      go_wp2_with (first
                        | (go_at_call 24; refine (unhide hsee).mono ?_; rintro e w6 ⟨rfl, hg6⟩; have hM6 := (unhide hM').step hg6; have ht := (hM6.tbl p hp).1; have hfz := (hM6.tbl p hp).2; have hM6' := hide hM6; clear hM6 hg6)
                        | (refine wpList_load_row rfl 52 _ rfl bL rfl 52 A (0, 0) _ (unhide hM').box Tryd.underlying52 rfl (by rw [hsz]; exact info4) ?_))
                      go_roundg (n - c - 1)
                      case measure => omega
                      case rel => exact ⟨c + 1, by omega, rfl, _, (unhide hM6').put hp r, unhide hnx⟩
                    · have h0 : (U (T p) != 0) = true := by rw [U_zero]; exact U_ne hz
                      have h1 : (U (T p) != U r) = true := U_ne he
                      have hno := hide (unhide hca (by unfold clash; simp [hz, he]))
                      clear hca hcb hz he
                      go_wp2_with (first
                        | (go_at_call 24; refine (unhide hsee).mono ?_; rintro e w6 ⟨rfl, hg6⟩; have hM6 := (unhide hM').step hg6; have ht := (hM6.tbl p hp).1; have hfz := (hM6.tbl p hp).2; have hM6' := hide hM6; clear hM6 hg6)
                        | (refine wpList_load_row rfl 52 _ rfl bL rfl 52 A (0, 0) _ (unhide hM').box Tryd.underlying52 rfl (by rw [hsz]; exact info4) ?_))
                      go_ret
                      exact ⟨by rw [unhide hno]; rfl, (unhide hM6').gr⟩
            · have ec : c = n := by omega
              have hend : Hid (q = true) := hide (by rw [← unhide hfit', ec, unhide hlast]; rfl)
              clear hfit' hlast hdrop
              subst ec
              go_wp2_with fail
              go_ret
              exact ⟨by rw [unhide hend]; rfl, (unhide hM').gr⟩

end Go.Proofs.YtnfakamfmkhlbabDoor.C
