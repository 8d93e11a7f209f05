import Derived.Test.YtnfakamfmkhlbaaGreatDoorZw5
namespace Go.Proofs.YtnfakamfmkhlbaaGreatDoor.turned
open Go.ChangeShapes Go.WideShapes Go.ChangeAt Go.RowKit
open Go.Proofs.YtnfakamfmkhlbaaGreatDoor.C Go.Proofs.YtnfakamfmkhlbaaGreatDoor.P
set_option maxRecDepth 100000
theorem inPlaceT : Tryz.pinned.checked.prog.inPlace 8 = Rows.turnedUptoRow.inPlace := by kernel_rfl
theorem unfollowedT : Tryz.pinned.checked.prog.unfollowed 8 = Rows.turnedUptoRow.unfollowed := by kernel_rfl
theorem recursesT : Tryz.pinned.checked.prog.recurses 8 = Rows.turnedUptoRow.recurses := by kernel_rfl
theorem namedT : Tryz.pinned.checked.prog.varsNamed 8 = Rows.turnedUptoRow.named := by kernel_rfl
theorem closedT : joinedFacts Tryz.pinned.checked.prog 8 Tryz.f8 (Rows.OpenSpec.upto Rows.turnedSpec).bare Rows.turnedUptoRow = true := by
  unfold joinedFacts
  rw [inPlaceT, unfollowedT, recursesT, namedT]
  kernel_rfl
theorem nameT : Tryz.pinned.checked.prog.funcNamed Rows.turnedUptoRow.func = some 8 := by kernel_rfl
theorem instT : Tryz.f8.isInstance Tryz.pinned.checked.prog Rows.turnedUptoRow.origin Rows.turnedUptoRow.targs := of_decide_eq_true (by kernel_rfl)
theorem wrapT : Tryz.f8.isWrapper Tryz.pinned.checked.prog Rows.turnedUptoRow.wrapper Rows.turnedUptoRow.mainSum := by
  unfold Func.isWrapper; first | (rw [if_pos (by decide +kernel)]; kernel_rfl) | (rw [if_neg (by decide +kernel)]; exact ⟨rfl, rfl⟩)
theorem saidUpto : Rows.TurnedUptoSaid :=
  OpenClaim.holds_of_cond 8 Tryz.f8 rfl rfl rfl rfl rfl rfl rfl ⟨rfl, rfl, rfl, rfl, rfl⟩ rfl rfl rfl rfl rfl nameT Tryz.func8 closedT instT wrapT
    (fun os started H enc _ F => by rw [OpenClaim.pre_eq_preRow]; exact liftedUpto os started H enc F)
theorem plain (f : FuncId) (fn : Func) (hf : Tryz.pinned.checked.prog.funcNamed "rook/rookkeep.Turned" = some f) (hfn : Tryz.pinned.checked.prog.funcs[f]? = some fn) :
    false = Tryz.pinned.checked.prog.looks [] ∧ ∀ (j : Nat) t, fn.params[j]? = some t → Tryz.pinned.checked.prog.wantsStandIn t = false := by
  obtain rfl : f = 8 := Option.some.inj ((show Tryz.prog.funcNamed "rook/rookkeep.Turned" = some 8 by kernel_rfl).symm.trans hf) |>.symm
  obtain rfl : fn = Tryz.f8 := (Option.some.inj (Tryz.func8.symm.trans hfn)).symm
  refine ⟨by kernel_rfl, fun j t ht => ?_⟩
  rw [Tryz.params8] at ht
  have ht' : t = 9 := by simpa using Array.mem_of_getElem? ht
  subst ht'
  exact (show Tryz.prog.wantsStandIn 9 = false by kernel_rfl)
theorem cardUpto : Rows.TurnedUptoCardSaid :=
  Claim7.holds_tied_plain_at .later [] _ _ _ _ saidUpto (fun _ h => by cases h) (by kernel_rfl) (fun _ h => by cases h) turnedUpto_row_tie rfl ⟨rfl, rfl⟩ (by kernel_rfl) rfl plain (by kernel_rfl)
end Go.Proofs.YtnfakamfmkhlbaaGreatDoor.turned
namespace Go.Proofs.YtnfakamfmkhlbaaGreatDoor
theorem turnedUpto_holds : Rows.TurnedUptoCardSaid := turned.cardUpto
end Go.Proofs.YtnfakamfmkhlbaaGreatDoor
