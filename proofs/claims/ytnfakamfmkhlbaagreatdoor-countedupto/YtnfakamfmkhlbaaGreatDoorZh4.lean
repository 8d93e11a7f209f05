import Derived.Test.YtnfakamfmkhlbaaGreatDoorZh3
namespace Go.Proofs.YtnfakamfmkhlbaaGreatDoor.counted
open Go.ChangeShapes Go.WideShapes Go.ChangeAt Go.RowKit
open Go.Proofs.YtnfakamfmkhlbaaGreatDoor.C Go.Proofs.YtnfakamfmkhlbaaGreatDoor.P
set_option maxRecDepth 100000
theorem inPlaceT : Tryz.pinned.checked.prog.inPlace 11 = Rows.countedUptoRow.inPlace := by kernel_rfl
theorem unfollowedT : Tryz.pinned.checked.prog.unfollowed 11 = Rows.countedUptoRow.unfollowed := by kernel_rfl
theorem recursesT : Tryz.pinned.checked.prog.recurses 11 = Rows.countedUptoRow.recurses := by kernel_rfl
theorem namedT : Tryz.pinned.checked.prog.varsNamed 11 = Rows.countedUptoRow.named := by kernel_rfl
theorem closedT : joinedFacts Tryz.pinned.checked.prog 11 Tryz.f11 (Rows.OpenSpec.upto Rows.countedSpec).bare Rows.countedUptoRow = true := by
  unfold joinedFacts
  rw [inPlaceT, unfollowedT, recursesT, namedT]
  kernel_rfl
theorem nameT : Tryz.pinned.checked.prog.funcNamed Rows.countedUptoRow.func = some 11 := by kernel_rfl
theorem instT : Tryz.f11.isInstance Tryz.pinned.checked.prog Rows.countedUptoRow.origin Rows.countedUptoRow.targs := of_decide_eq_true (by kernel_rfl)
theorem wrapT : Tryz.f11.isWrapper Tryz.pinned.checked.prog Rows.countedUptoRow.wrapper Rows.countedUptoRow.mainSum := by
  unfold Func.isWrapper; first | (rw [if_pos (by decide +kernel)]; kernel_rfl) | (rw [if_neg (by decide +kernel)]; exact ⟨rfl, rfl⟩)
theorem saidUpto : Rows.CountedUptoSaid :=
  OpenClaim.holds_of_cond 11 Tryz.f11 rfl rfl rfl rfl rfl rfl rfl ⟨rfl, rfl, rfl, rfl, rfl⟩ rfl rfl rfl rfl rfl nameT Tryz.func11 closedT instT wrapT
    (fun os started H enc _ F => by rw [OpenClaim.pre_eq_preRow]; exact liftedUpto os started H enc F)
theorem plain (f : FuncId) (fn : Func) (hf : Tryz.pinned.checked.prog.funcNamed "rook/rookkeep.Counted" = some f) (hfn : Tryz.pinned.checked.prog.funcs[f]? = some fn) :
    false = Tryz.pinned.checked.prog.looks [] ∧ ∀ (j : Nat) t, fn.params[j]? = some t → Tryz.pinned.checked.prog.wantsStandIn t = false := by
  obtain rfl : f = 11 := Option.some.inj ((show Tryz.prog.funcNamed "rook/rookkeep.Counted" = some 11 by kernel_rfl).symm.trans hf) |>.symm
  obtain rfl : fn = Tryz.f11 := (Option.some.inj (Tryz.func11.symm.trans hfn)).symm
  refine ⟨by kernel_rfl, fun j t ht => ?_⟩
  rw [Tryz.params11] at ht
  have ht' : t = 9 ∨ t = 3 := by
    have := Array.mem_of_getElem? ht
    simp at this
    omega
  rcases ht' with rfl | rfl
  · exact (show Tryz.prog.wantsStandIn 9 = false by kernel_rfl)
  · exact (show Tryz.prog.wantsStandIn 3 = false by kernel_rfl)
theorem cardUpto : Rows.CountedUptoCardSaid :=
  Claim7.holds_tied_plain_at .later [] _ _ _ _ saidUpto (fun _ h => by cases h) (by kernel_rfl) (fun _ h => by cases h) countedUpto_row_tie rfl ⟨rfl, rfl⟩ (by kernel_rfl) rfl plain (by kernel_rfl)
end Go.Proofs.YtnfakamfmkhlbaaGreatDoor.counted
namespace Go.Proofs.YtnfakamfmkhlbaaGreatDoor
theorem countedUpto_holds : Rows.CountedUptoCardSaid := counted.cardUpto
end Go.Proofs.YtnfakamfmkhlbaaGreatDoor
