import Derived.Test.YtnfakamfmkhlbabGreatDoorKnownStep
namespace Go.Proofs.YtnfakamfmkhlbabGreatDoor.known
open Go.ChangeShapes Go.WideShapes Go.ChangeAt Go.RowKit
open Go.Proofs.YtnfakamfmkhlbabGreatDoor.C Go.Proofs.YtnfakamfmkhlbabGreatDoor.P
set_option maxRecDepth 100000
theorem inPlaceT : Tryz.pinned.checked.prog.inPlace 3 = Rows.knownRow.inPlace := by kernel_rfl
theorem unfollowedT : Tryz.pinned.checked.prog.unfollowed 3 = Rows.knownRow.unfollowed := by kernel_rfl
theorem recursesT : Tryz.pinned.checked.prog.recurses 3 = Rows.knownRow.recurses := by kernel_rfl
theorem namedT : Tryz.pinned.checked.prog.varsNamed 3 = Rows.knownRow.named := by kernel_rfl
theorem closedT : joinedFacts Tryz.pinned.checked.prog 3 Tryz.f3 (OpenSpec.ofChange Rows.knownSpec).bare Rows.knownRow = true := by
  unfold joinedFacts
  rw [inPlaceT, unfollowedT, recursesT, namedT]
  kernel_rfl
theorem nameT : Tryz.pinned.checked.prog.funcNamed Rows.knownRow.func = some 3 := by kernel_rfl
theorem instT : Tryz.f3.isInstance Tryz.pinned.checked.prog Rows.knownRow.origin Rows.knownRow.targs := of_decide_eq_true (by kernel_rfl)
theorem wrapT : Tryz.f3.isWrapper Tryz.pinned.checked.prog Rows.knownRow.wrapper Rows.knownRow.mainSum := by
  unfold Func.isWrapper; first | (rw [if_pos (by decide +kernel)]; kernel_rfl) | (rw [if_neg (by decide +kernel)]; exact ⟨rfl, rfl⟩)
theorem said : Rows.KnownSaid :=
  OpenClaim.holds_of_cond 3 Tryz.f3 rfl rfl rfl rfl rfl rfl rfl ⟨rfl, rfl, rfl, rfl, rfl⟩ rfl rfl rfl rfl rfl nameT Tryz.func3 closedT instT wrapT
    (fun os started H enc _ F => by rw [OpenClaim.pre_eq_preRow]; exact lifted os started H enc F)

theorem plain (f : FuncId) (fn : Func) (hf : Tryz.pinned.checked.prog.funcNamed "rook/rookkeep.Known" = some f) (hfn : Tryz.pinned.checked.prog.funcs[f]? = some fn) :
    false = Tryz.pinned.checked.prog.looks [] ∧ ∀ (j : Nat) t, fn.params[j]? = some t → Tryz.pinned.checked.prog.wantsStandIn t = false := by
  obtain rfl : f = 3 := Option.some.inj ((show Tryz.prog.funcNamed "rook/rookkeep.Known" = some 3 by kernel_rfl).symm.trans hf) |>.symm
  obtain rfl : fn = Tryz.f3 := (Option.some.inj (Tryz.func3.symm.trans hfn)).symm
  refine ⟨by kernel_rfl, fun j t ht => ?_⟩
  rw [Tryz.params3] at ht
  have ht' : t = 3 := by
    have := Array.mem_of_getElem? ht
    simpa using this
  rw [ht']
  exact (show Tryz.prog.wantsStandIn 3 = false by kernel_rfl)

theorem noGo : Tryz.pinned.checked.prog.funcs.any Func.goes = false := by kernel_rfl
theorem goes_no {P : Program} (h : P.funcs.any Func.goes = false) (f : FuncId) : P.goes f = false := by
  unfold Program.goes
  rw [h, Bool.and_false, Bool.or_false, List.any_eq_false]
  intro g _ hg
  rw [Option.any_eq_true] at hg
  obtain ⟨fn, h1, h2⟩ := hg
  have h3 : P.funcs.any Func.goes = true := by
    rw [Array.any_eq_true]
    obtain ⟨hlt, he⟩ := Array.getElem?_eq_some_iff.1 h1
    exact ⟨g, hlt, by rw [he]; exact h2⟩
  rw [h] at h3
  cases h3
theorem goesBy_no {P : Program} (h : P.funcs.any Func.goes = false) (c : OpenClaim) (hs : c.start = .entering) : false = c.goesBy P := by
  have h1 : P.goesFrom c.func = false := by
    unfold Program.goesFrom
    cases P.funcNamed c.func with
    | none => rfl
    | some f => exact goes_no h f
  unfold OpenClaim.goesBy Program.goesAt
  rw [h1, hs]
  rfl
theorem hwT : Rows.knownRow.wfByText (OpenSpec.ofChange Rows.knownSpec) = true := by kernel_rfl
theorem card : Rows.KnownCardSaid :=
  Claim7.holds_tied_plain_at .later [] _ _ _ _ said (fun _ h => by cases h) hwT (fun _ h => by cases h) known_row_tie rfl ⟨rfl, rfl⟩ (by kernel_rfl) rfl plain (goesBy_no noGo _ rfl)
end Go.Proofs.YtnfakamfmkhlbabGreatDoor.known
namespace Go.Proofs.YtnfakamfmkhlbabGreatDoor
theorem known_holds : Rows.KnownCardSaid := known.card
end Go.Proofs.YtnfakamfmkhlbabGreatDoor
