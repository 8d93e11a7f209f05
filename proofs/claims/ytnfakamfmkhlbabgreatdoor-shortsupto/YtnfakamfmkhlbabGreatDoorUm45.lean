import Derived.Test.YtnfakamfmkhlbabGreatDoorUm44
set_option maxRecDepth 100000
set_option maxHeartbeats 4000000
set_option linter.unusedSimpArgs false
namespace Go.Proofs.YtnfakamfmkhlbabGreatDoor.shorts
open Go.ChangeShapes Go.WideShapes Go.ChangeAt Go.RowKit Go.Proofs.YtnfakamfmkhlbabGreatDoor.C Go.Proofs.YtnfakamfmkhlbabGreatDoor.P
set_option maxRecDepth 100000
theorem su:Tryz.pinned.checked.prog.inPlace 4=Rows.shortsUptoRow.inPlace:=by kernel_rfl
theorem c7:Tryz.pinned.checked.prog.unfollowed 4=Rows.shortsUptoRow.unfollowed:=by kernel_rfl
theorem mG:Tryz.pinned.checked.prog.recurses 4=Rows.shortsUptoRow.recurses:=by kernel_rfl
theorem D5:Tryz.pinned.checked.prog.varsNamed 4=Rows.shortsUptoRow.named:=by kernel_rfl
theorem CM:joinedFacts Tryz.pinned.checked.prog 4 Tryz.f4 (Rows.OpenSpec.upto Rows.shortsSpec).bare Rows.shortsUptoRow=true:=by
 unfold joinedFacts;rw[su,c7,mG,D5]
 kernel_rfl
theorem GE:Tryz.pinned.checked.prog.funcNamed Rows.shortsUptoRow.func=some 4:=by kernel_rfl
theorem G2:Tryz.f4.isInstance Tryz.pinned.checked.prog Rows.shortsUptoRow.origin Rows.shortsUptoRow.targs:=q8 (by kernel_rfl)
theorem FY:Tryz.f4.isWrapper Tryz.pinned.checked.prog Rows.shortsUptoRow.wrapper Rows.shortsUptoRow.mainSum:=by
 unfold Func.isWrapper;first|(rw[qI (by decide +kernel)];kernel_rfl)|(rw[qF (by decide +kernel)];exact⟨rfl,rfl⟩)
theorem rF:Rows.ShortsUptoSaid :=
 OpenClaim.holds_of_cond 4 Tryz.f4 rfl rfl rfl rfl rfl rfl rfl ⟨rfl,rfl,rfl,rfl,rfl⟩ rfl rfl rfl rfl rfl GE Tryz.func4 CM G2 FY
  (fun os started H enc _ F=>by rw[OpenClaim.pre_eq_preRow];exact fD os started H enc F)
theorem plain (f : FuncId) (fn : Func) (hf : Tryz.pinned.checked.prog.funcNamed "rook/rooklaw.Shorts" = some f) (hfn : Tryz.pinned.checked.prog.funcs[f]? = some fn) :
  false=Tryz.pinned.checked.prog.looks []/\∀(j:Nat) t,fn.params[j]?=some t->Tryz.pinned.checked.prog.wantsStandIn t=false:=by
 obtain rfl : f = 4 := qP ((show Tryz.prog.funcNamed "rook/rooklaw.Shorts" = some 4 by kernel_rfl).symm.trans hf) |>.symm
 obtain rfl:fn=Tryz.f4:=(qP (Tryz.func4.symm.trans hfn)).symm;refine⟨by kernel_rfl,fun j t ht=>?_⟩;rw[Tryz.params4]at ht
 have ht':t=9:=by
  have:=Array.mem_of_getElem? ht;simpa using this
 rw[ht'];exact(show Tryz.prog.wantsStandIn 9=false by kernel_rfl)
theorem noGo:Tryz.pinned.checked.prog.funcs.any Func.goes=false:=by kernel_rfl
theorem CA{P:Program}(h:P.funcs.any Func.goes=false)(f:FuncId):P.goes f=false:=by
 unfold Program.goes;rw[h,Bool.and_false,Bool.or_false,List.any_eq_false];intro g _ hg;rw[Option.any_eq_true]at hg;obtain⟨fn,h1,h2⟩:=hg
 have h3:P.funcs.any Func.goes=true:=by
  rw[Array.any_eq_true];obtain⟨hlt,he⟩:=qB.1 h1;exact⟨g,hlt,by rw[he];exact h2⟩
 rw[h]at h3;cases h3
theorem m5{P:Program}(h:P.funcs.any Func.goes=false)(c:OpenClaim)(hs:c.start=.entering):false=c.goesBy P:=by
 have h1:P.goesFrom c.func=false:=by
  unfold Program.goesFrom;cases P.funcNamed c.func with
  | none=>rfl
  | some f=>exact CA h f
 unfold OpenClaim.goesBy Program.goesAt;rw[h1,hs];rfl
theorem hwT:Rows.shortsUptoRow.wfByText (Rows.OpenSpec.upto Rows.shortsSpec)=true:=by kernel_rfl
theorem cardUpto:Rows.ShortsUptoCardSaid :=
 Claim7.holds_tied_plain_at .later [] _ _ _ _ rF (fun _ h=>by cases h) hwT (fun _ h=>by cases h) shortsUpto_row_tie rfl ⟨rfl,rfl⟩ (by kernel_rfl) rfl plain (m5 noGo _ rfl)
end Go.Proofs.YtnfakamfmkhlbabGreatDoor.shorts
namespace Go.Proofs.YtnfakamfmkhlbabGreatDoor
theorem shortsUpto_holds:Rows.ShortsUptoCardSaid:=shorts.cardUpto
end Go.Proofs.YtnfakamfmkhlbabGreatDoor
