import Derived.Test.YtnfakamfmkhlbaaGreatDoorZs49
set_option maxRecDepth 100000
set_option maxHeartbeats 4000000
set_option linter.unusedSimpArgs false
namespace Go.Proofs.YtnfakamfmkhlbaaGreatDoor.plays
open Go.ChangeShapes Go.WideShapes Go.ChangeAt Go.RowKit
open Go.Proofs.YtnfakamfmkhlbaaGreatDoor.C Go.Proofs.YtnfakamfmkhlbaaGreatDoor.P
set_option maxRecDepth 100000
theorem inPlaceT:Tryz.pinned.checked.prog.inPlace 6=Rows.playsUptoRow.inPlace:=by kernel_rfl
theorem unfollowedT:Tryz.pinned.checked.prog.unfollowed 6=Rows.playsUptoRow.unfollowed:=by kernel_rfl
theorem recursesT:Tryz.pinned.checked.prog.recurses 6=Rows.playsUptoRow.recurses:=by kernel_rfl
theorem namedT:Tryz.pinned.checked.prog.varsNamed 6=Rows.playsUptoRow.named:=by kernel_rfl
theorem closedT:joinedFacts Tryz.pinned.checked.prog 6 Tryz.f6 (Rows.OpenSpec.upto Rows.playsSpec).bare Rows.playsUptoRow=true:=by
 unfold joinedFacts;rw [inPlaceT,unfollowedT,recursesT,namedT]
 kernel_rfl
theorem nameT:Tryz.pinned.checked.prog.funcNamed Rows.playsUptoRow.func=some 6:=by kernel_rfl
theorem instT:Tryz.f6.isInstance Tryz.pinned.checked.prog Rows.playsUptoRow.origin Rows.playsUptoRow.targs:=of_decide_eq_true (by kernel_rfl)
theorem wrapT:Tryz.f6.isWrapper Tryz.pinned.checked.prog Rows.playsUptoRow.wrapper Rows.playsUptoRow.mainSum:=by
 unfold Func.isWrapper;first|(rw [if_pos (by decide +kernel)];kernel_rfl)|(rw [if_neg (by decide +kernel)];exact ⟨rfl,rfl⟩)
theorem saidUpto:Rows.PlaysUptoSaid :=
 OpenClaim.holds_of_cond 6 Tryz.f6 rfl rfl rfl rfl rfl rfl rfl ⟨rfl,rfl,rfl,rfl,rfl⟩ rfl rfl rfl rfl rfl nameT Tryz.func6 closedT instT wrapT
  (fun os started H enc _ F=>by rw [OpenClaim.pre_eq_preRow];exact liftedUpto os started H enc F)
theorem plain (f : FuncId) (fn : Func) (hf : Tryz.pinned.checked.prog.funcNamed "rook/rooklaw.Plays" = some f) (hfn : Tryz.pinned.checked.prog.funcs[f]? = some fn) :
  false=Tryz.pinned.checked.prog.looks []/\∀ (j:Nat) t,fn.params[j]?=some t->Tryz.pinned.checked.prog.wantsStandIn t=false:=by
 obtain rfl : f = 6 := Option.some.inj ((show Tryz.prog.funcNamed "rook/rooklaw.Plays" = some 6 by kernel_rfl).symm.trans hf) |>.symm
 obtain rfl:fn=Tryz.f6:=(Option.some.inj (Tryz.func6.symm.trans hfn)).symm;refine ⟨by kernel_rfl,fun j t ht=>?_⟩;rw [Tryz.params6] at ht;have ht':t=9:=by simpa using Array.mem_of_getElem? ht
 subst ht';exact (show Tryz.prog.wantsStandIn 9=false by kernel_rfl)
theorem cardUpto:Rows.PlaysUptoCardSaid :=
 Claim7.holds_tied_plain_at .later [] _ _ _ _ saidUpto (fun _ h=>by cases h) (by kernel_rfl) (fun _ h=>by cases h) playsUpto_row_tie rfl ⟨rfl,rfl⟩ (by kernel_rfl) rfl plain (by kernel_rfl)
end Go.Proofs.YtnfakamfmkhlbaaGreatDoor.plays
namespace Go.Proofs.YtnfakamfmkhlbaaGreatDoor
theorem playsUpto_holds:Rows.PlaysUptoCardSaid:=plays.cardUpto
end Go.Proofs.YtnfakamfmkhlbaaGreatDoor
