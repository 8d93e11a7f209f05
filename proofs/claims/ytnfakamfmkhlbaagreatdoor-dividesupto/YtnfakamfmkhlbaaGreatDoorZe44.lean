import Derived.Test.YtnfakamfmkhlbaaGreatDoorZe43
set_option maxRecDepth 100000
set_option maxHeartbeats 4000000
set_option linter.unusedSimpArgs false
namespace Go.Proofs.YtnfakamfmkhlbaaGreatDoor.divides
open Go.ChangeShapes Go.WideShapes Go.ChangeAt Go.RowKit
open Go.Proofs.YtnfakamfmkhlbaaGreatDoor.C Go.Proofs.YtnfakamfmkhlbaaGreatDoor.P
set_option maxRecDepth 100000
theorem inPlaceT:Tryz.pinned.checked.prog.inPlace 9=Rows.dividesUptoRow.inPlace:=by kernel_rfl
theorem unfollowedT:Tryz.pinned.checked.prog.unfollowed 9=Rows.dividesUptoRow.unfollowed:=by kernel_rfl
theorem recursesT:Tryz.pinned.checked.prog.recurses 9=Rows.dividesUptoRow.recurses:=by kernel_rfl
theorem namedT:Tryz.pinned.checked.prog.varsNamed 9=Rows.dividesUptoRow.named:=by kernel_rfl
theorem closedT:joinedFacts Tryz.pinned.checked.prog 9 Tryz.f9 (Rows.OpenSpec.upto Rows.dividesSpec).bare Rows.dividesUptoRow=true:=by
 unfold joinedFacts;rw [inPlaceT,unfollowedT,recursesT,namedT]
 kernel_rfl
theorem nameT:Tryz.pinned.checked.prog.funcNamed Rows.dividesUptoRow.func=some 9:=by kernel_rfl
theorem instT:Tryz.f9.isInstance Tryz.pinned.checked.prog Rows.dividesUptoRow.origin Rows.dividesUptoRow.targs:=of_decide_eq_true (by kernel_rfl)
theorem wrapT:Tryz.f9.isWrapper Tryz.pinned.checked.prog Rows.dividesUptoRow.wrapper Rows.dividesUptoRow.mainSum:=by
 unfold Func.isWrapper;first|(rw [if_pos (by decide +kernel)];kernel_rfl)|(rw [if_neg (by decide +kernel)];exact ⟨rfl,rfl⟩)
theorem saidUpto:Rows.DividesUptoSaid :=
 OpenClaim.holds_of_cond 9 Tryz.f9 rfl rfl rfl rfl rfl rfl rfl ⟨rfl,rfl,rfl,rfl,rfl⟩ rfl rfl rfl rfl rfl nameT Tryz.func9 closedT instT wrapT
  (fun os started H enc _ F=>by rw [OpenClaim.pre_eq_preRow];exact liftedUpto os started H enc F)
theorem plain (f : FuncId) (fn : Func) (hf : Tryz.pinned.checked.prog.funcNamed "rook/rooklaw.Divides" = some f) (hfn : Tryz.pinned.checked.prog.funcs[f]? = some fn) :
  false=Tryz.pinned.checked.prog.looks []/\∀ (j:Nat) t,fn.params[j]?=some t->Tryz.pinned.checked.prog.wantsStandIn t=false:=by
 obtain rfl : f = 9 := Option.some.inj ((show Tryz.prog.funcNamed "rook/rooklaw.Divides" = some 9 by kernel_rfl).symm.trans hf) |>.symm
 obtain rfl:fn=Tryz.f9:=(Option.some.inj (Tryz.func9.symm.trans hfn)).symm;refine ⟨by kernel_rfl,fun j t ht=>?_⟩;rw [Tryz.params9] at ht
 have ht':t=9\/t=3:=by
  have:=Array.mem_of_getElem? ht;simp at this;omega
 rcases ht' with rfl|rfl
 ·exact (show Tryz.prog.wantsStandIn 9=false by kernel_rfl)
 ·exact (show Tryz.prog.wantsStandIn 3=false by kernel_rfl)
theorem cardUpto:Rows.DividesUptoCardSaid :=
 Claim7.holds_tied_plain_at .later [] _ _ _ _ saidUpto (fun _ h=>by cases h) (by kernel_rfl) (fun _ h=>by cases h) dividesUpto_row_tie rfl ⟨rfl,rfl⟩ (by kernel_rfl) rfl plain (by kernel_rfl)
end Go.Proofs.YtnfakamfmkhlbaaGreatDoor.divides
namespace Go.Proofs.YtnfakamfmkhlbaaGreatDoor
theorem dividesUpto_holds:Rows.DividesUptoCardSaid:=divides.cardUpto
end Go.Proofs.YtnfakamfmkhlbaaGreatDoor
