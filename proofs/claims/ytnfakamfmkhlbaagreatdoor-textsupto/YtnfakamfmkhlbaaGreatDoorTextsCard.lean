import Derived.Test.YtnfakamfmkhlbaaGreatDoorTextsStep
namespace Go.Proofs.YtnfakamfmkhlbaaGreatDoor.texts
open Go.ChangeShapes Go.WideShapes Go.ChangeAt Go.RowKit
open Go.Proofs.YtnfakamfmkhlbaaGreatDoor.C Go.Proofs.YtnfakamfmkhlbaaGreatDoor.P
set_option maxRecDepth 100000
theorem inPlaceT : Tryz.pinned.checked.prog.inPlace 3 = Rows.textsUptoRow.inPlace := by kernel_rfl
theorem unfollowedT : Tryz.pinned.checked.prog.unfollowed 3 = Rows.textsUptoRow.unfollowed := by kernel_rfl
theorem recursesT : Tryz.pinned.checked.prog.recurses 3 = Rows.textsUptoRow.recurses := by kernel_rfl
theorem namedT : Tryz.pinned.checked.prog.varsNamed 3 = Rows.textsUptoRow.named := by kernel_rfl
theorem closedT : joinedFacts Tryz.pinned.checked.prog 3 Tryz.f3 (Rows.OpenSpec.upto Rows.textsSpec).bare Rows.textsUptoRow = true := by
  unfold joinedFacts
  rw [inPlaceT, unfollowedT, recursesT, namedT]
  kernel_rfl
theorem nameT : Tryz.pinned.checked.prog.funcNamed Rows.textsUptoRow.func = some 3 := by kernel_rfl
theorem instT : Tryz.f3.isInstance Tryz.pinned.checked.prog Rows.textsUptoRow.origin Rows.textsUptoRow.targs := of_decide_eq_true (by kernel_rfl)
theorem wrapT : Tryz.f3.isWrapper Tryz.pinned.checked.prog Rows.textsUptoRow.wrapper Rows.textsUptoRow.mainSum := by
  unfold Func.isWrapper; first | (rw [if_pos (by decide +kernel)]; kernel_rfl) | (rw [if_neg (by decide +kernel)]; exact ⟨rfl, rfl⟩)
theorem saidUpto : Rows.TextsUptoSaid :=
  OpenClaim.holds_of_cond 3 Tryz.f3 rfl rfl rfl rfl rfl rfl rfl ⟨rfl, rfl, rfl, rfl, rfl⟩ rfl rfl rfl rfl rfl nameT Tryz.func3 closedT instT wrapT
    (fun os started H enc _ F => by rw [OpenClaim.pre_eq_preRow]; exact liftedUpto os started H enc F)

theorem plain (f : FuncId) (fn : Func) (hf : Tryz.pinned.checked.prog.funcNamed "rook/rooklaw.Texts" = some f) (hfn : Tryz.pinned.checked.prog.funcs[f]? = some fn) :
    false = Tryz.pinned.checked.prog.looks [] ∧ ∀ (j : Nat) t, fn.params[j]? = some t → Tryz.pinned.checked.prog.wantsStandIn t = false := by
  obtain rfl : f = 3 := Option.some.inj ((show Tryz.prog.funcNamed "rook/rooklaw.Texts" = some 3 by kernel_rfl).symm.trans hf) |>.symm
  obtain rfl : fn = Tryz.f3 := (Option.some.inj (Tryz.func3.symm.trans hfn)).symm
  refine ⟨by kernel_rfl, fun j t ht => ?_⟩
  rw [Tryz.params3] at ht
  have ht' : t = 9 ∨ t = 25 := by simpa using Array.mem_of_getElem? ht
  rcases ht' with rfl | rfl
  · exact (show Tryz.prog.wantsStandIn 9 = false by kernel_rfl)
  · exact (show Tryz.prog.wantsStandIn 25 = false by kernel_rfl)

theorem cardUpto : Rows.TextsUptoCardSaid :=
  Claim7.holds_tied_plain_at .later [] _ _ _ _ saidUpto (fun _ h => by cases h) (by kernel_rfl) (fun _ h => by cases h) textsUpto_row_tie rfl ⟨rfl, rfl⟩ (by kernel_rfl) rfl plain (by kernel_rfl)

end Go.Proofs.YtnfakamfmkhlbaaGreatDoor.texts
namespace Go.Proofs.YtnfakamfmkhlbaaGreatDoor
theorem textsUpto_holds : Rows.TextsUptoCardSaid := texts.cardUpto
end Go.Proofs.YtnfakamfmkhlbaaGreatDoor
