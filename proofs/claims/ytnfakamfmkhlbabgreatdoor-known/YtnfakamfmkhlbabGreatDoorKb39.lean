import Derived.Test.YtnfakamfmkhlbabGreatDoorKb34
import Derived.Test.YtnfakamfmkhlbabGreatDoorKb35
import Derived.Test.YtnfakamfmkhlbabGreatDoorKb36
import Derived.Test.YtnfakamfmkhlbabGreatDoorKb37
import Derived.Test.YtnfakamfmkhlbabGreatDoorKb38
namespace Go.Proofs.YtnfakamfmkhlbabGreatDoor.K

open Go.Proofs.YtnfakamfmkhlbabGreatDoor.P Go.Proofs.YtnfakamfmkhlbabGreatDoor.C

set_option maxRecDepth 100000

/-! the six positions and their numbers -/

theorem first_1 : perft 1 0 97032380768794308449441285979680596459474913353707286838394105995181839223187889142195312493370793615095293926859546551539363339406871270705411026206201340045547817539046129034720960955363239532833988542812301261310744151143284480 15 0 = 20 := by decide +kernel

theorem first_2 : perft 2 0 97032380768794308449441285979680596459474913353707286838394105995181839223187889142195312493370793615095293926859546551539363339406871270705411026206201340045547817539046129034720960955363239532833988542812301261310744151143284480 15 0 = 400 := by decide +kernel

def wantL : List Nat := [1, 20, 400, 8902, 1, 48, 2039, 97862, 1, 14, 191, 2812, 1, 6, 264, 9467, 1, 44, 1486, 62379, 1, 46, 2079, 89890]

def fenL : List ByteArray := [firstB, fen1, fen2, fen3, fen4, fen5]

theorem num_of {s : ByteArray} {S r a b c : Nat} (h : (readS s).map (repOk S r) = some true) (h1 : perft 1 0 S r 0 = a) (h2 : perft 2 0 S r 0 = b) (h3 : perft 3 0 S r 0 = c) : ∃ p, readS s = some p ∧ posCan p = true ∧ ∀ d v, [1, a, b, c][d]? = some v → pathsN d (posZ p) p.white (fcN p.castle) p.behind = v := by
  obtain ⟨p, e1, e2, e3⟩ := known_of h
  refine ⟨p, e1, e2, fun d v hv => ?_⟩
  rw [e3]
  match d, hv with
  | 0, hv => exact Option.some.inj hv
  | 1, hv => rw [h1]; exact Option.some.inj hv
  | 2, hv => rw [h2]; exact Option.some.inj hv
  | 3, hv => rw [h3]; exact Option.some.inj hv

theorem known_num : ∀ i, i < 6 → ∃ s, fenL[i]? = some s ∧ s.size < 4294967281 ∧ ∃ p, readS s = some p ∧ posCan p = true ∧ ∀ d, d < 4 → wantL[4 * i + d]? = some (pathsN d (posZ p) p.white (fcN p.castle) p.behind) := by
  have key : ∀ (i : Nat) (s : ByteArray) (a b c : Nat), fenL[i]? = some s → s.size < 4294967281 → (∀ d, d < 4 → wantL[4 * i + d]? = [1, a, b, c][d]?) → (∃ p, readS s = some p ∧ posCan p = true ∧ ∀ d v, [1, a, b, c][d]? = some v → pathsN d (posZ p) p.white (fcN p.castle) p.behind = v) → ∃ s, fenL[i]? = some s ∧ s.size < 4294967281 ∧ ∃ p, readS s = some p ∧ posCan p = true ∧ ∀ d, d < 4 → wantL[4 * i + d]? = some (pathsN d (posZ p) p.white (fcN p.castle) p.behind) := by
    intro i s a b c h1 h2 h3 ⟨p, e1, e2, e3⟩
    refine ⟨s, h1, h2, p, e1, e2, fun d hd => ?_⟩
    rw [h3 d hd]
    have : ∃ v, [1, a, b, c][d]? = some v := ⟨_, List.getElem?_eq_getElem (by simpa using hd)⟩
    obtain ⟨v, hv⟩ := this
    rw [e3 d v hv, hv]
  intro i hi
  have : i = 0 ∨ i = 1 ∨ i = 2 ∨ i = 3 ∨ i = 4 ∨ i = 5 := by omega
  rcases this with rfl | rfl | rfl | rfl | rfl | rfl
  · exact key 0 firstB 20 400 8902 rfl (by decide +kernel) (by decide) (num_of first_rep first_1 first_2 first_3)
  · exact key 1 fen1 48 2039 97862 rfl (by decide +kernel) (by decide) (num_of rep1 num1_1 num1_2 num1_3)
  · exact key 2 fen2 14 191 2812 rfl (by decide +kernel) (by decide) (num_of rep2 num2_1 num2_2 num2_3)
  · exact key 3 fen3 6 264 9467 rfl (by decide +kernel) (by decide) (num_of rep3 num3_1 num3_2 num3_3)
  · exact key 4 fen4 44 1486 62379 rfl (by decide +kernel) (by decide) (num_of rep4 num4_1 num4_2 num4_3)
  · exact key 5 fen5 46 2079 89890 rfl (by decide +kernel) (by decide) (num_of rep5 num5_1 num5_2 num5_3)

end Go.Proofs.YtnfakamfmkhlbabGreatDoor.K
