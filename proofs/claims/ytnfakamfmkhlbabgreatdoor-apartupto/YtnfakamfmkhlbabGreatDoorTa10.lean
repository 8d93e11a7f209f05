import Derived.Test.YtnfakamfmkhlbabGreatDoorTa9
namespace Go.Proofs.YtnfakamfmkhlbabGreatDoor.apart

open Go.ChangeShapes Go.WideShapes Go.ChangeAt Go.RowKit

open Go.Proofs.YtnfakamfmkhlbabGreatDoor.C Go.Proofs.YtnfakamfmkhlbabGreatDoor.P

set_option maxRecDepth 100000

theorem inPlaceT : Tryz.pinned.checked.prog.inPlace 5 = Rows.apartUptoRow.inPlace := by kernel_rfl

theorem unfollowedT : Tryz.pinned.checked.prog.unfollowed 5 = Rows.apartUptoRow.unfollowed := by kernel_rfl

theorem recursesT : Tryz.pinned.checked.prog.recurses 5 = Rows.apartUptoRow.recurses := by kernel_rfl

theorem namedT : Tryz.pinned.checked.prog.varsNamed 5 = Rows.apartUptoRow.named := by kernel_rfl

theorem closedT : joinedFacts Tryz.pinned.checked.prog 5 Tryz.f5 (Rows.OpenSpec.upto Rows.apartSpec).bare Rows.apartUptoRow = true := by
  unfold joinedFacts
  rw [inPlaceT, unfollowedT, recursesT, namedT]
  kernel_rfl

theorem nameT : Tryz.pinned.checked.prog.funcNamed Rows.apartUptoRow.func = some 5 := by kernel_rfl

theorem instT : Tryz.f5.isInstance Tryz.pinned.checked.prog Rows.apartUptoRow.origin Rows.apartUptoRow.targs := of_decide_eq_true (by kernel_rfl)

theorem wrapT : Tryz.f5.isWrapper Tryz.pinned.checked.prog Rows.apartUptoRow.wrapper Rows.apartUptoRow.mainSum := by
  unfold Func.isWrapper; first | (rw [if_pos (by decide +kernel)]; kernel_rfl) | (rw [if_neg (by decide +kernel)]; exact ⟨rfl, rfl⟩)

theorem saidUpto : Rows.ApartUptoSaid :=
  OpenClaim.holds_of_cond 5 Tryz.f5 rfl rfl rfl rfl rfl rfl rfl ⟨rfl, rfl, rfl, rfl, rfl⟩ rfl rfl rfl rfl rfl nameT Tryz.func5 closedT instT wrapT
    (fun os started H enc _ F => by rw [OpenClaim.pre_eq_preRow]; exact liftedUpto os started H enc F)

theorem plain (f : FuncId) (fn : Func) (hf : Tryz.pinned.checked.prog.funcNamed "rook/rookkeep.Apart" = some f) (hfn : Tryz.pinned.checked.prog.funcs[f]? = some fn) :
    false = Tryz.pinned.checked.prog.looks [] ∧ ∀ (j : Nat) t, fn.params[j]? = some t → Tryz.pinned.checked.prog.wantsStandIn t = false := by
  obtain rfl : f = 5 := Option.some.inj ((show Tryz.prog.funcNamed "rook/rookkeep.Apart" = some 5 by kernel_rfl).symm.trans hf) |>.symm
  obtain rfl : fn = Tryz.f5 := (Option.some.inj (Tryz.func5.symm.trans hfn)).symm
  refine ⟨by kernel_rfl, fun j t ht => ?_⟩
  rw [Tryz.params5] at ht
  have ht' : t = 9 := by
    have := Array.mem_of_getElem? ht
    simpa using this
  rw [ht']
  exact (show Tryz.prog.wantsStandIn 9 = false by kernel_rfl)

theorem noGo : Tryz.pinned.checked.prog.funcs.any Func.goes = false := by kernel_rfl

theorem goes_no {P : Program} (h : P.funcs.any Func.goes = false) (f : FuncId) : P.goes f = false := by
  unfold Program.goes
  rw [h, Bool.and_false, Bool.or_false, List.any_eq_false]
  intro g _ hg
  rw [Option.any_eq_true] at hg
  obtain ⟨fn, h1, h2⟩ := hg
  have h3 : P.funcs.any Func.goes = true := by
    rw [Array.any_eq_true]
    obtain ⟨hlt, he⟩ := Array.getElem?_eq_some_iff.1 h1
    exact ⟨g, hlt, by rw [he]; exact h2⟩
  rw [h] at h3
  cases h3

theorem goesBy_no {P : Program} (h : P.funcs.any Func.goes = false) (c : OpenClaim) (hs : c.start = .entering) : false = c.goesBy P := by
  have h1 : P.goesFrom c.func = false := by
    unfold Program.goesFrom
    cases P.funcNamed c.func with
    | none => rfl
    | some f => exact goes_no h f
  unfold OpenClaim.goesBy Program.goesAt
  rw [h1, hs]
  rfl

theorem hwT : Rows.apartUptoRow.wfByText (Rows.OpenSpec.upto Rows.apartSpec) = true := by kernel_rfl

theorem cardUpto : Rows.ApartUptoCardSaid :=
  Claim7.holds_tied_plain_at .later [] _ _ _ _ saidUpto (fun _ h => by cases h) hwT (fun _ h => by cases h) apartUpto_row_tie rfl ⟨rfl, rfl⟩ (by kernel_rfl) rfl plain (goesBy_no noGo _ rfl)

end Go.Proofs.YtnfakamfmkhlbabGreatDoor.apart

namespace Go.Proofs.YtnfakamfmkhlbabGreatDoor

theorem apartUpto_holds : Rows.ApartUptoCardSaid := apart.cardUpto

end Go.Proofs.YtnfakamfmkhlbabGreatDoor
