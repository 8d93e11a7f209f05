import Derived.Test.YtnfakamfmkhlbaaGreatDoorZt30
namespace Go.Proofs.YtnfakamfmkhlbaaGreatDoor.twin

open Go.ChangeShapes Go.WideShapes Go.ChangeAt Go.RowKit

open Go.Proofs.YtnfakamfmkhlbaaGreatDoor.C Go.Proofs.YtnfakamfmkhlbaaGreatDoor.P

set_option maxRecDepth 100000

theorem inPlaceT : Tryz.pinned.checked.prog.inPlace 5 = Rows.twinUptoRow.inPlace := by kernel_rfl

theorem unfollowedT : Tryz.pinned.checked.prog.unfollowed 5 = Rows.twinUptoRow.unfollowed := by kernel_rfl

theorem recursesT : Tryz.pinned.checked.prog.recurses 5 = Rows.twinUptoRow.recurses := by kernel_rfl

theorem namedT : Tryz.pinned.checked.prog.varsNamed 5 = Rows.twinUptoRow.named := by kernel_rfl

theorem closedT : joinedFacts Tryz.pinned.checked.prog 5 Tryz.f5 (Rows.OpenSpec.upto Rows.twinSpec).bare Rows.twinUptoRow = true := by
  unfold joinedFacts
  rw [inPlaceT, unfollowedT, recursesT, namedT]
  kernel_rfl

theorem nameT : Tryz.pinned.checked.prog.funcNamed Rows.twinUptoRow.func = some 5 := by kernel_rfl

theorem instT : Tryz.f5.isInstance Tryz.pinned.checked.prog Rows.twinUptoRow.origin Rows.twinUptoRow.targs := of_decide_eq_true (by kernel_rfl)

theorem wrapT : Tryz.f5.isWrapper Tryz.pinned.checked.prog Rows.twinUptoRow.wrapper Rows.twinUptoRow.mainSum := by
  unfold Func.isWrapper; first | (rw [if_pos (by decide +kernel)]; kernel_rfl) | (rw [if_neg (by decide +kernel)]; exact ⟨rfl, rfl⟩)

theorem saidUpto : Rows.TwinUptoSaid :=
  OpenClaim.holds_of_cond 5 Tryz.f5 rfl rfl rfl rfl rfl rfl rfl ⟨rfl, rfl, rfl, rfl, rfl⟩ rfl rfl rfl rfl rfl nameT Tryz.func5 closedT instT wrapT
    (fun os started H enc _ F => by rw [OpenClaim.pre_eq_preRow]; exact liftedUpto os started H enc F)

theorem plain (f : FuncId) (fn : Func) (hf : Tryz.pinned.checked.prog.funcNamed "rook/rookkeep.Twin" = some f) (hfn : Tryz.pinned.checked.prog.funcs[f]? = some fn) :
    false = Tryz.pinned.checked.prog.looks [] ∧ ∀ (j : Nat) t, fn.params[j]? = some t → Tryz.pinned.checked.prog.wantsStandIn t = false := by
  obtain rfl : f = 5 := Option.some.inj ((show Tryz.prog.funcNamed "rook/rookkeep.Twin" = some 5 by kernel_rfl).symm.trans hf) |>.symm
  obtain rfl : fn = Tryz.f5 := (Option.some.inj (Tryz.func5.symm.trans hfn)).symm
  refine ⟨by kernel_rfl, fun j t ht => ?_⟩
  rw [Tryz.params5] at ht
  have ht' : t = 9 := by simpa using Array.mem_of_getElem? ht
  subst ht'
  exact (show Tryz.prog.wantsStandIn 9 = false by kernel_rfl)

theorem cardUpto : Rows.TwinUptoCardSaid :=
  Claim7.holds_tied_plain_at .later [] _ _ _ _ saidUpto (fun _ h => by cases h) (by kernel_rfl) (fun _ h => by cases h) twinUpto_row_tie rfl ⟨rfl, rfl⟩ (by kernel_rfl) rfl plain (by kernel_rfl)

end Go.Proofs.YtnfakamfmkhlbaaGreatDoor.twin

namespace Go.Proofs.YtnfakamfmkhlbaaGreatDoor

theorem twinUpto_holds : Rows.TwinUptoCardSaid := twin.cardUpto

end Go.Proofs.YtnfakamfmkhlbaaGreatDoor
