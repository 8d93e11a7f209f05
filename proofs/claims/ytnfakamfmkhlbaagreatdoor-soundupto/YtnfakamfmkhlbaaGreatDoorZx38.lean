import Derived.Test.YtnfakamfmkhlbaaGreatDoorZx37
set_option maxRecDepth 100000
set_option maxHeartbeats 4000000
set_option linter.unusedSimpArgs false
namespace Go.Proofs.YtnfakamfmkhlbaaGreatDoor.sound
open Go.ChangeShapes Go.WideShapes Go.ChangeAt Go.RowKit
open Go.Proofs.YtnfakamfmkhlbaaGreatDoor.C Go.Proofs.YtnfakamfmkhlbaaGreatDoor.P
set_option maxRecDepth 100000
theorem inPlaceT:Tryz.pinned.checked.prog.inPlace 7=Rows.soundUptoRow.inPlace:=by kernel_rfl
theorem unfollowedT:Tryz.pinned.checked.prog.unfollowed 7=Rows.soundUptoRow.unfollowed:=by kernel_rfl
theorem recursesT:Tryz.pinned.checked.prog.recurses 7=Rows.soundUptoRow.recurses:=by kernel_rfl
theorem namedT:Tryz.pinned.checked.prog.varsNamed 7=Rows.soundUptoRow.named:=by kernel_rfl
theorem closedT:joinedFacts Tryz.pinned.checked.prog 7 Tryz.f7 (Rows.OpenSpec.upto Rows.soundSpec).bare Rows.soundUptoRow=true:=by
 unfold joinedFacts;rw [inPlaceT,unfollowedT,recursesT,namedT]
 kernel_rfl
theorem nameT:Tryz.pinned.checked.prog.funcNamed Rows.soundUptoRow.func=some 7:=by kernel_rfl
theorem instT:Tryz.f7.isInstance Tryz.pinned.checked.prog Rows.soundUptoRow.origin Rows.soundUptoRow.targs:=of_decide_eq_true (by kernel_rfl)
theorem wrapT:Tryz.f7.isWrapper Tryz.pinned.checked.prog Rows.soundUptoRow.wrapper Rows.soundUptoRow.mainSum:=by
 unfold Func.isWrapper;first|(rw [if_pos (by decide +kernel)];kernel_rfl)|(rw [if_neg (by decide +kernel)];exact ⟨rfl,rfl⟩)
theorem saidUpto:Rows.SoundUptoSaid :=
 OpenClaim.holds_of_cond 7 Tryz.f7 rfl rfl rfl rfl rfl rfl rfl ⟨rfl,rfl,rfl,rfl,rfl⟩ rfl rfl rfl rfl rfl nameT Tryz.func7 closedT instT wrapT
  (fun os started H enc _ F=>by rw [OpenClaim.pre_eq_preRow];exact liftedUpto os started H enc F)
theorem plain (f : FuncId) (fn : Func) (hf : Tryz.pinned.checked.prog.funcNamed "rook/rookkeep.Sound" = some f) (hfn : Tryz.pinned.checked.prog.funcs[f]? = some fn) :
  false=Tryz.pinned.checked.prog.looks []/\∀ (j:Nat) t,fn.params[j]?=some t->Tryz.pinned.checked.prog.wantsStandIn t=false:=by
 obtain rfl : f = 7 := Option.some.inj ((show Tryz.prog.funcNamed "rook/rookkeep.Sound" = some 7 by kernel_rfl).symm.trans hf) |>.symm
 obtain rfl:fn=Tryz.f7:=(Option.some.inj (Tryz.func7.symm.trans hfn)).symm;refine ⟨by kernel_rfl,fun j t ht=>?_⟩;rw [Tryz.params7] at ht;have ht':t=9:=by simpa using Array.mem_of_getElem? ht
 subst ht';exact (show Tryz.prog.wantsStandIn 9=false by kernel_rfl)
theorem cardUpto:Rows.SoundUptoCardSaid :=
 Claim7.holds_tied_plain_at .later [] _ _ _ _ saidUpto (fun _ h=>by cases h) (by kernel_rfl) (fun _ h=>by cases h) soundUpto_row_tie rfl ⟨rfl,rfl⟩ (by kernel_rfl) rfl plain (by kernel_rfl)
end Go.Proofs.YtnfakamfmkhlbaaGreatDoor.sound
namespace Go.Proofs.YtnfakamfmkhlbaaGreatDoor
theorem soundUpto_holds:Rows.SoundUptoCardSaid:=sound.cardUpto
end Go.Proofs.YtnfakamfmkhlbaaGreatDoor
