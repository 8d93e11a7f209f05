import Derived.Test.YtnfakamfmkhlbabGreatDoorKnt
import Derived.Test.YtnfakamfmkhlbabGreatDoorKb31
import Derived.Test.YtnfakamfmkhlbabGreatDoorKb39
namespace Go.Proofs.YtnfakamfmkhlbabGreatDoor.C
open Go.ChangeShapes Go.WideShapes Go.ChangeAt Go.RowKit Go.Shelf
open Go.Proofs.YtnfakamfmkhlbabGreatDoor.P

theorem div_0 {s : ByteArray} {p : Pos} {wn : Int} {base : Nat} {e : Ending} {w' : World} (hr : readS s = some p) (hc : posCan p = true) (h : DivEnd s 0 wn base e w') : e = .returned (.tuple #[.slice none 0 0, .int .i64 5]) := by
  rcases h with ⟨k', a, rfl⟩ | ⟨p, _, _, _, rfl⟩ | ⟨p, _, _, a, _⟩ | ⟨q, v, m', a, b, e', _⟩
  · exact (bad_no a hr hc).elim
  · rfl
  · omega
  · omega
theorem want_le {j n : Nat} (h : K.wantL[j]? = some n) : n ≤ 1000000 := (show ∀ n ∈ K.wantL, n ≤ 1000000 by decide) n (List.mem_of_getElem? h)
theorem fen_same : K.fenL = fenM := rfl
theorem want_same : K.wantL = wantM := rfl
/-- THE LAW'S WALK. -/
theorem known_any (which depth way : Int) (b1 : -9223372036854775808 ≤ which ∧ which ≤ 9223372036854775807) (b2 : -9223372036854775808 ≤ depth ∧ depth ≤ 9223372036854775807) (b3 : -9223372036854775808 ≤ way ∧ way ≤ 9223372036854775807) (m : Int) (w : World) (hc : Ct m w) (htb : Tabs w) :
    Calls Tryz.prog 3 #[.int .i64 which, .int .i64 depth, .int .i64 way] w fun e w' => e = .returned (.bool true) ∧ Gr w w' := by
  have hi := pkN_lt which (n := 6) (by omega)
  have hd := pkN_lt depth (n := 4) (by omega)
  have hx := pkN_lt way (n := 2) (by omega)
  obtain ⟨s, hs, hsz, p, hr, hcan, hnum⟩ := K.known_num _ hi
  have hq1 := hnum _ hd
  have hq2 := hnum 1 (by omega)
  refine known_walk which depth way w _ _ _ hi hd hx (pickK_any which b1.1 b1.2 6 (by omega)) (pickK_any depth b2.1 b2.2 4 (by omega)) (pickK_any way b3.1 b3.2 2 (by omega)) s (fen_same ▸ hs) _ _ (want_same ▸ hq1) (want_same ▸ hq2) ⟨want_le hq1, want_le hq2⟩ (fun w0 bc W => ∃ g, CacI bc g 1000 W ∧ w0.heap.size ≤ bc ∧ w0.heap.size ≤ g) ?_
  have hX : 1 + ((pkN way 2 : Nat) : Int) = 1 ∨ 1 + ((pkN way 2 : Nat) : Int) = 2 := by omega
  generalize pkN depth 4 = d at hd
  generalize 1 + ((pkN way 2 : Nat) : Int) = X at hX
  clear hq1 hq2 hnum hs
  constructor
  · intro w0 g
    refine (newC_any 1000 (by decide) w0 (tabs_wt (hc.gr g) (htb.gr g))).mono ?_
    rintro e w' ⟨⟨bc, q, rfl, h1, h2, h3⟩, h4⟩
    exact ⟨⟨bc, rfl, q, h1, h2, h3⟩, h4⟩
  · rintro w0 bc W g ⟨q, h1, h2, h3⟩ g'
    refine (perft_any bc q 1000 s hsz (d : Int) X m W (hc.gr (Gr.trans g g')) (htb.gr (Gr.trans g g')) h1 ((tabs_wt (hc.gr g) (htb.gr g)).lt h2)).mono ?_
    rintro e w' ⟨k1, k2, k3⟩
    exact ⟨prf_is hr hcan (by omega) hX k1, (Fx.trans (Fx.of g') k2).gr h3⟩
  · intro hz W g
    refine (rookDivide_any s hsz (d : Int) X m W (hc.gr g) (htb.gr g)).mono ?_
    rintro e w' ⟨k1, k2⟩
    rw [hz] at k1
    exact ⟨div_0 hr hcan k1, k2⟩
  · intro hz W g
    obtain ⟨n, rfl⟩ : ∃ n, d = n + 1 := ⟨d - 1, by omega⟩
    refine (rookDivide_any s hsz ((n + 1 : Nat) : Int) X m W (hc.gr g) (htb.gr g)).mono ?_
    rintro e w' ⟨k1, k2⟩
    obtain ⟨v, rfl, hv⟩ := div_is hr hcan (by omega) hX k1
    obtain ⟨a, c, rfl, _, hel⟩ := cts_form hv
    have hlen : (divL n (posZ p) p.white (fcN p.castle) p.behind (sortM (movS (posZ p) p.white (fcN p.castle) p.behind))).length = pathsN 1 (posZ p) p.white (fcN p.castle) p.behind := by
      unfold divL
      rw [List.length_map, sortM_len, paths_one]
    refine ⟨⟨a, c, _, by rw [← hlen], hlen, ?_, fun i hi => ?_⟩, k2⟩
    · unfold divL
      rw [List.map_map]
      exact paths_perm (sortM_perm _) n
    · obtain ⟨g, e1, _, e2⟩ := hel i hi
      exact ⟨g, e1, e2⟩
end Go.Proofs.YtnfakamfmkhlbabGreatDoor.C
