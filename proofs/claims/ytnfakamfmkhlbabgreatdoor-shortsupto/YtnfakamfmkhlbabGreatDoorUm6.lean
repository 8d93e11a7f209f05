import Derived.Test.YtnfakamfmkhlbabGreatDoorUm5
import Derived.Deep.QuietTactic
import Derived.BigQuiet
set_option maxRecDepth 100000
set_option maxHeartbeats 4000000
set_option linter.unusedSimpArgs false
namespace Go.Proofs.YtnfakamfmkhlbabGreatDoor.C
open Go.ChangeShapes Go.WideShapes Go.ChangeAt Go.RowKit Go.Proofs.YtnfakamfmkhlbabGreatDoor.P
section
attribute [local go_sem] qd qe
def vp:List Value:=[.int .i64 4,.int .u8 75,.int .i64 7,.int .u8 82,.int .i64 4,.int .u8 75,.int .i64 0,.int .u8 82,.int .i64 60,.int .u8 107,.int .i64 63,.int .u8 114,.int .i64 60,.int .u8 107,.int .i64 56,.int .u8 114]
def vJ(w:World):Prop:=w.rangeAt 1 0 vp/\1<w.heap.size
theorem vJ.gr{w w':World}(h:vJ w)(g:Gr w w'):vJ w' :=
 ⟨fun j v hv=>(Below.cell g (p:=⟨_,0+j,none⟩) h.2).trans (h.1 j v hv),qN h.2 (Below.size g)⟩
theorem ss:(Tryz.prog.info? 269).map (·.size)=some vp.length:=by kernel_rfl
def xN(z:Nat->UInt8)(f:Nat->Bool)(ks:Nat)(kl:Int)(rs:Nat)(rl:Int)(k:Nat):Bool:=!(f k)||(decide (((z ks).toNat:Int)=kl)&&decide (((z rs).toNat:Int)=rl))
def zX(z:Nat->UInt8)(f:Nat->Bool):Nat->Bool
 | 0=>xN z f 4 75 7 82 0
 | 1=>xN z f 4 75 0 82 1
 | 2=>xN z f 60 107 63 114 2
 | 3=>xN z f 60 107 56 114 3
 | _=>true
def jH(z:Nat->UInt8)(f:Nat->Bool):Bool:=(List.range 4).all (zX z f)
theorem xt{z:Nat->UInt8}{f:Nat->Bool}{k:Nat}(hk:k<4)(h:zX z f k=false):jH z f=false:=by
 unfold jH;rw[List.all_eq_false];exact⟨k,qK.2 hk,by rw[h];decide⟩
theorem qvw{z:Nat->UInt8}{f:Nat->Bool}(h:∀j,j<4->zX z f j=true):jH z f=true:=by
 unfold jH;rw[qW];intro j hj;exact h j (qK.1 hj)
theorem Gl(w:World):(Instr.index 269 (.agg vp.toArray) (.int .i64 0)).run Tryz.prog w=.ok (.agg #[.int .i64 4,.int .u8 75,.int .i64 7,.int .u8 82]) w:=by kernel_rfl
theorem Gk(w:World):(Instr.index 269 (.agg vp.toArray) (.int .i64 1)).run Tryz.prog w=.ok (.agg #[.int .i64 4,.int .u8 75,.int .i64 0,.int .u8 82]) w:=by kernel_rfl
theorem Gj(w:World):(Instr.index 269 (.agg vp.toArray) (.int .i64 2)).run Tryz.prog w=.ok (.agg #[.int .i64 60,.int .u8 107,.int .i64 63,.int .u8 114]) w:=by kernel_rfl
theorem Gi(w:World):(Instr.index 269 (.agg vp.toArray) (.int .i64 3)).run Tryz.prog w=.ok (.agg #[.int .i64 60,.int .u8 107,.int .i64 56,.int .u8 114]) w:=by kernel_rfl
theorem tj{z:Nat->UInt8}{wh:Bool}{f:Nat->Bool}{b h g:Int}{PA:Array Value}(r:jE z wh f b h g PA)(w:World)(hH:vJ w):Calls Tryz.prog 143 #[.agg PA] w fun e w'=>e=.returned (.bool (jH z f))/\Gr w w':=by
 have r':=qC r;clear r;have hH':=qC hH;clear hH;have hc:Hid (∀o,(w.alloc (.cells PA 70)).cell? ⟨w.heap.size,o,none⟩=PA[o]?):=qC (fun o=>World.cell?_alloc_at _ _ _ _ rfl);have hg0:Hid (Gr w (w.alloc (.cells PA 70))):=qC ((Gr.refl w).alloc _ _);have hsz:Hid (w.heap.size<(w.alloc (.cells PA 70)).heap.size):=qC (by rw[World.size_alloc];omega);generalize hL:vp.toArray=HL;go_enter Tryz.func143,Tryz.ntmps143;go_wp2_with(refine wpList_load_mid rfl 269 _ rfl 1 0 rfl vp _ ((qa hH').gr (qa hg0)).1 Tryz.underlying269 rfl ss ?_);go_loopg [6] 4 (fun gg n wr=>∃k:Nat,k+gg=4/\n=.int .i64 k/\(∀j,j<k->zX z f j=true)/\Gr (w.alloc (.cells PA 70)) wr)
 case atStart=>exact⟨0,rfl,rfl,fun j hj=>absurd hj (Nat.not_lt_zero j),Gr.refl _⟩
 case round =>
  obtain⟨k,k1,rfl,k3,hgr⟩:=hrel;have k3':=qC k3;have hgr':=qC hgr;clear k3;have hcell:∀o v,PA[o]?=some v->wr.cell? ⟨w.heap.size,o,none⟩=some v:=fun o v hv=>(Below.cell hgr (p:=⟨w.heap.size,o,none⟩) (qa hsz)).trans ((qa hc o).trans hv)
  have hwr:w.heap.size<wr.heap.size:=qN (qa hsz) (Below.size hgr);clear hgr;by_cases hlt:k<4
  ·have hk:k=0\/k=1\/k=2\/k=3:=by omega
   rcases hk with rfl|rfl|rfl|rfl
   ·have hix:=Gl;rw[hL]at hix;have hA:∀o v,PA[o]?=some v->(wr.alloc (.cells #[.int .i64 4,.int .u8 75,.int .i64 7,.int .u8 82] 268)).cell? ⟨w.heap.size,o,none⟩=some v:=fun o v hv=>(Below.cell ((Gr.refl wr).alloc _ _) (p:=⟨w.heap.size,o,none⟩) hwr).trans (hcell o v hv)
    have hF:(wr.alloc (.cells #[.int .i64 4,.int .u8 75,.int .i64 7,.int .u8 82] 268)).cell? ⟨w.heap.size,65,none⟩=some (.bool (f 0)):=hA _ _ ((qa r').c 0 (by decide));have hK:(wr.alloc (.cells #[.int .i64 4,.int .u8 75,.int .i64 7,.int .u8 82] 268)).cell? ⟨w.heap.size,4,none⟩=some (.int .u8 ((z 4).toNat:Int)):=hA _ _ ((qa r').sq 4 (by decide));have hR:(wr.alloc (.cells #[.int .i64 4,.int .u8 75,.int .i64 7,.int .u8 82] 268)).cell? ⟨w.heap.size,7,none⟩=some (.int .u8 ((z 7).toNat:Int)):=hA _ _ ((qa r').sq 7 (by decide));clear hA hcell;obtain⟨cc,hcc⟩:∃cc,Hid (f 0=cc):=⟨_,qC rfl⟩;obtain⟨x,hx⟩:∃x,Hid (((z 4).toNat:Int)=x):=⟨_,qC rfl⟩;obtain⟨y,hy⟩:∃y,Hid (((z 7).toNat:Int)=y):=⟨_,qC rfl⟩;rw[qa hcc]at hF;rw[qa hx]at hK;rw[qa hy]at hR;cases cc
    ·skip
     go_wp2;go_quiet(fail);go_wp2;go_roundg (gk-1)
     case measure=>omega
     case rel=>exact⟨0+1,by omega,by go_num,(by
      intro j hj;by_cases hjk:j=0
      ·subst hjk;show xN z f 4 75 7 82 0=true;unfold xN;rw[qa hcc];rfl
      ·exact qa k3' j (by omega)),Gr.drewN ((qa hgr').alloc _ _) _⟩
    ·by_cases hxe:x=75
     ·subst hxe;by_cases hye:y=82
      ·subst hye;go_wp2;go_quiet(fail);go_wp2;go_roundg (gk-1)
       case measure=>omega
       case rel=>exact⟨0+1,by omega,by go_num,(by
        intro j hj;by_cases hjk:j=0
        ·subst hjk;show xN z f 4 75 7 82 0=true;unfold xN;rw[qa hcc,qa hx,qa hy];rfl
        ·exact qa k3' j (by omega)),Gr.drewN ((qa hgr').alloc _ _) _⟩
      ·have hyb:(y != 82)=true:=qU.2 hye;have e:=qC (show jH z f=false from xt (k:=0) (by decide) (show xN z f 4 75 7 82 0=false by unfold xN;rw[qa hcc,qa hy,qE hye,Bool.and_false];rfl));go_wp2;go_quiet(fail);go_wp2;go_ret;exact⟨by rw[qa e];rfl,Gr.trans (qa hg0) (Gr.drewN ((qa hgr').alloc _ _) _)⟩
     ·have hxb:(x != 75)=true:=qU.2 hxe;have e:=qC (show jH z f=false from xt (k:=0) (by decide) (show xN z f 4 75 7 82 0=false by unfold xN;rw[qa hcc,qa hx,qE hxe,Bool.false_and];rfl));go_wp2;go_quiet(fail);go_wp2;go_ret;exact⟨by rw[qa e];rfl,Gr.trans (qa hg0) (Gr.drewN ((qa hgr').alloc _ _) _)⟩
   ·have hix:=Gk;rw[hL]at hix;have hA:∀o v,PA[o]?=some v->(wr.alloc (.cells #[.int .i64 4,.int .u8 75,.int .i64 0,.int .u8 82] 268)).cell? ⟨w.heap.size,o,none⟩=some v:=fun o v hv=>(Below.cell ((Gr.refl wr).alloc _ _) (p:=⟨w.heap.size,o,none⟩) hwr).trans (hcell o v hv)
    have hF:(wr.alloc (.cells #[.int .i64 4,.int .u8 75,.int .i64 0,.int .u8 82] 268)).cell? ⟨w.heap.size,66,none⟩=some (.bool (f 1)):=hA _ _ ((qa r').c 1 (by decide));have hK:(wr.alloc (.cells #[.int .i64 4,.int .u8 75,.int .i64 0,.int .u8 82] 268)).cell? ⟨w.heap.size,4,none⟩=some (.int .u8 ((z 4).toNat:Int)):=hA _ _ ((qa r').sq 4 (by decide));have hR:(wr.alloc (.cells #[.int .i64 4,.int .u8 75,.int .i64 0,.int .u8 82] 268)).cell? ⟨w.heap.size,0,none⟩=some (.int .u8 ((z 0).toNat:Int)):=hA _ _ ((qa r').sq 0 (by decide));clear hA hcell;obtain⟨cc,hcc⟩:∃cc,Hid (f 1=cc):=⟨_,qC rfl⟩;obtain⟨x,hx⟩:∃x,Hid (((z 4).toNat:Int)=x):=⟨_,qC rfl⟩;obtain⟨y,hy⟩:∃y,Hid (((z 0).toNat:Int)=y):=⟨_,qC rfl⟩;rw[qa hcc]at hF;rw[qa hx]at hK;rw[qa hy]at hR;cases cc
    ·skip
     go_wp2;go_quiet(fail);go_wp2;go_roundg (gk-1)
     case measure=>omega
     case rel=>exact⟨1+1,by omega,by go_num,(by
      intro j hj;by_cases hjk:j=1
      ·subst hjk;show xN z f 4 75 0 82 1=true;unfold xN;rw[qa hcc];rfl
      ·exact qa k3' j (by omega)),Gr.drewN ((qa hgr').alloc _ _) _⟩
    ·by_cases hxe:x=75
     ·subst hxe;by_cases hye:y=82
      ·subst hye;go_wp2;go_quiet(fail);go_wp2;go_roundg (gk-1)
       case measure=>omega
       case rel=>exact⟨1+1,by omega,by go_num,(by
        intro j hj;by_cases hjk:j=1
        ·subst hjk;show xN z f 4 75 0 82 1=true;unfold xN;rw[qa hcc,qa hx,qa hy];rfl
        ·exact qa k3' j (by omega)),Gr.drewN ((qa hgr').alloc _ _) _⟩
      ·have hyb:(y != 82)=true:=qU.2 hye;have e:=qC (show jH z f=false from xt (k:=1) (by decide) (show xN z f 4 75 0 82 1=false by unfold xN;rw[qa hcc,qa hy,qE hye,Bool.and_false];rfl));go_wp2;go_quiet(fail);go_wp2;go_ret;exact⟨by rw[qa e];rfl,Gr.trans (qa hg0) (Gr.drewN ((qa hgr').alloc _ _) _)⟩
     ·have hxb:(x != 75)=true:=qU.2 hxe;have e:=qC (show jH z f=false from xt (k:=1) (by decide) (show xN z f 4 75 0 82 1=false by unfold xN;rw[qa hcc,qa hx,qE hxe,Bool.false_and];rfl));go_wp2;go_quiet(fail);go_wp2;go_ret;exact⟨by rw[qa e];rfl,Gr.trans (qa hg0) (Gr.drewN ((qa hgr').alloc _ _) _)⟩
   ·have hix:=Gj;rw[hL]at hix;have hA:∀o v,PA[o]?=some v->(wr.alloc (.cells #[.int .i64 60,.int .u8 107,.int .i64 63,.int .u8 114] 268)).cell? ⟨w.heap.size,o,none⟩=some v:=fun o v hv=>(Below.cell ((Gr.refl wr).alloc _ _) (p:=⟨w.heap.size,o,none⟩) hwr).trans (hcell o v hv)
    have hF:(wr.alloc (.cells #[.int .i64 60,.int .u8 107,.int .i64 63,.int .u8 114] 268)).cell? ⟨w.heap.size,67,none⟩=some (.bool (f 2)):=hA _ _ ((qa r').c 2 (by decide));have hK:(wr.alloc (.cells #[.int .i64 60,.int .u8 107,.int .i64 63,.int .u8 114] 268)).cell? ⟨w.heap.size,60,none⟩=some (.int .u8 ((z 60).toNat:Int)):=hA _ _ ((qa r').sq 60 (by decide));have hR:(wr.alloc (.cells #[.int .i64 60,.int .u8 107,.int .i64 63,.int .u8 114] 268)).cell? ⟨w.heap.size,63,none⟩=some (.int .u8 ((z 63).toNat:Int)):=hA _ _ ((qa r').sq 63 (by decide));clear hA hcell;obtain⟨cc,hcc⟩:∃cc,Hid (f 2=cc):=⟨_,qC rfl⟩;obtain⟨x,hx⟩:∃x,Hid (((z 60).toNat:Int)=x):=⟨_,qC rfl⟩;obtain⟨y,hy⟩:∃y,Hid (((z 63).toNat:Int)=y):=⟨_,qC rfl⟩;rw[qa hcc]at hF;rw[qa hx]at hK;rw[qa hy]at hR;cases cc
    ·skip
     go_wp2;go_quiet(fail);go_wp2;go_roundg (gk-1)
     case measure=>omega
     case rel=>exact⟨2+1,by omega,by go_num,(by
      intro j hj;by_cases hjk:j=2
      ·subst hjk;show xN z f 60 107 63 114 2=true;unfold xN;rw[qa hcc];rfl
      ·exact qa k3' j (by omega)),Gr.drewN ((qa hgr').alloc _ _) _⟩
    ·by_cases hxe:x=107
     ·subst hxe;by_cases hye:y=114
      ·subst hye;go_wp2;go_quiet(fail);go_wp2;go_roundg (gk-1)
       case measure=>omega
       case rel=>exact⟨2+1,by omega,by go_num,(by
        intro j hj;by_cases hjk:j=2
        ·subst hjk;show xN z f 60 107 63 114 2=true;unfold xN;rw[qa hcc,qa hx,qa hy];rfl
        ·exact qa k3' j (by omega)),Gr.drewN ((qa hgr').alloc _ _) _⟩
      ·have hyb:(y != 114)=true:=qU.2 hye;have e:=qC (show jH z f=false from xt (k:=2) (by decide) (show xN z f 60 107 63 114 2=false by unfold xN;rw[qa hcc,qa hy,qE hye,Bool.and_false];rfl));go_wp2;go_quiet(fail);go_wp2;go_ret;exact⟨by rw[qa e];rfl,Gr.trans (qa hg0) (Gr.drewN ((qa hgr').alloc _ _) _)⟩
     ·have hxb:(x != 107)=true:=qU.2 hxe;have e:=qC (show jH z f=false from xt (k:=2) (by decide) (show xN z f 60 107 63 114 2=false by unfold xN;rw[qa hcc,qa hx,qE hxe,Bool.false_and];rfl));go_wp2;go_quiet(fail);go_wp2;go_ret;exact⟨by rw[qa e];rfl,Gr.trans (qa hg0) (Gr.drewN ((qa hgr').alloc _ _) _)⟩
   ·have hix:=Gi;rw[hL]at hix;have hA:∀o v,PA[o]?=some v->(wr.alloc (.cells #[.int .i64 60,.int .u8 107,.int .i64 56,.int .u8 114] 268)).cell? ⟨w.heap.size,o,none⟩=some v:=fun o v hv=>(Below.cell ((Gr.refl wr).alloc _ _) (p:=⟨w.heap.size,o,none⟩) hwr).trans (hcell o v hv)
    have hF:(wr.alloc (.cells #[.int .i64 60,.int .u8 107,.int .i64 56,.int .u8 114] 268)).cell? ⟨w.heap.size,68,none⟩=some (.bool (f 3)):=hA _ _ ((qa r').c 3 (by decide));have hK:(wr.alloc (.cells #[.int .i64 60,.int .u8 107,.int .i64 56,.int .u8 114] 268)).cell? ⟨w.heap.size,60,none⟩=some (.int .u8 ((z 60).toNat:Int)):=hA _ _ ((qa r').sq 60 (by decide));have hR:(wr.alloc (.cells #[.int .i64 60,.int .u8 107,.int .i64 56,.int .u8 114] 268)).cell? ⟨w.heap.size,56,none⟩=some (.int .u8 ((z 56).toNat:Int)):=hA _ _ ((qa r').sq 56 (by decide));clear hA hcell;obtain⟨cc,hcc⟩:∃cc,Hid (f 3=cc):=⟨_,qC rfl⟩;obtain⟨x,hx⟩:∃x,Hid (((z 60).toNat:Int)=x):=⟨_,qC rfl⟩;obtain⟨y,hy⟩:∃y,Hid (((z 56).toNat:Int)=y):=⟨_,qC rfl⟩;rw[qa hcc]at hF;rw[qa hx]at hK;rw[qa hy]at hR;cases cc
    ·skip
     go_wp2;go_quiet(fail);go_wp2;go_roundg (gk-1)
     case measure=>omega
     case rel=>exact⟨3+1,by omega,by go_num,(by
      intro j hj;by_cases hjk:j=3
      ·subst hjk;show xN z f 60 107 56 114 3=true;unfold xN;rw[qa hcc];rfl
      ·exact qa k3' j (by omega)),Gr.drewN ((qa hgr').alloc _ _) _⟩
    ·by_cases hxe:x=107
     ·subst hxe;by_cases hye:y=114
      ·subst hye;go_wp2;go_quiet(fail);go_wp2;go_roundg (gk-1)
       case measure=>omega
       case rel=>exact⟨3+1,by omega,by go_num,(by
        intro j hj;by_cases hjk:j=3
        ·subst hjk;show xN z f 60 107 56 114 3=true;unfold xN;rw[qa hcc,qa hx,qa hy];rfl
        ·exact qa k3' j (by omega)),Gr.drewN ((qa hgr').alloc _ _) _⟩
      ·have hyb:(y != 114)=true:=qU.2 hye;have e:=qC (show jH z f=false from xt (k:=3) (by decide) (show xN z f 60 107 56 114 3=false by unfold xN;rw[qa hcc,qa hy,qE hye,Bool.and_false];rfl));go_wp2;go_quiet(fail);go_wp2;go_ret;exact⟨by rw[qa e];rfl,Gr.trans (qa hg0) (Gr.drewN ((qa hgr').alloc _ _) _)⟩
     ·have hxb:(x != 107)=true:=qU.2 hxe;have e:=qC (show jH z f=false from xt (k:=3) (by decide) (show xN z f 60 107 56 114 3=false by unfold xN;rw[qa hcc,qa hx,qE hxe,Bool.false_and];rfl));go_wp2;go_quiet(fail);go_wp2;go_ret;exact⟨by rw[qa e];rfl,Gr.trans (qa hg0) (Gr.drewN ((qa hgr').alloc _ _) _)⟩
  ·have ek:k=4:=by omega
   subst ek;go_wp2;go_ret;exact⟨by rw[qvw (qa k3')];rfl,Gr.trans (qa hg0) (qa hgr')⟩
end
section
attribute [local go_sem] qd qe Oper.semAt_some
theorem Db(n:Nat)(hn:1<=n)(l Bn n₀:Nat)(_hB:Bn<n₀)(ht0:2<n₀)(s:BitVec 64)(J Jx:List (Fin 64)->World->Prop)
  (hY:∀pre x W,J pre W->pre.length<(vD s).length->YieldAt Fence.wide (n-1) Tryz.prog l #[.int .i64 ((x.val:Nat):Int)] W fun e W' =>
   (e=.returned (.bool true)/\J (pre++[x]) W'/\Below n₀ W W')\/(e=.returned (.bool false)/\Jx (pre++[x]) W'))
  (W:World) (hBn:W.cell? ⟨Bn,0,none⟩=some (.int .u64 (U s))) (hT:kL W) (h0:J [] W) :
  CallsIn Fence.wide n Tryz.prog 207 #[.func (.yield l) #[] #[],.pointer (some ⟨Bn,0,none⟩)] W fun e W'=>(∃v,e=.returned v) ∧
   ((∃ys:List (Fin 64),ys.map (·.val)=vD s/\J ys W')\/(∃pre:List (Fin 64),pre.map (·.val) <+: vD s/\Jx pre W')):=by
 refine callsIn_of_wp Tryz.func207 rfl trivial ?_ rfl;simp only[Tryz.ntmps207,List.size_toArray,List.length_cons,List.length_nil,Nat.reduceAdd,Nat.reduceSub,Array.replicate_succ,Array.replicate_zero,List.push_toArray,List.append_toArray,List.nil_append,List.cons_append];gi_wp2;gi_loopw [3] (fun p wr=>∃(pre:List (Fin 64)) (r:BitVec 64),p=.int .u64 (U r)/\vD s=pre.map (·.val)++vD r/\kL wr/\J pre wr) (fun p _=>(vD (BitVec.ofInt 64 (intOf p))).length)
 case atStart=>exact⟨[],s,rfl,rfl,hT,h0⟩
 case round =>
  obtain⟨pre,r,rfl,hx,htb,hJs⟩:=hrel;by_cases hr:r=0#64
  ·subst hr;have hz:(U 0#64 != 0)=false:=by decide +kernel
   rw[qv8,List.append_nil]at hx;have hx':=qC hx;clear hx;gi_wp2;go_end0;exact⟨⟨_,rfl⟩,.inl ⟨pre,(qa hx').symm,hJs⟩⟩
  ·obtain⟨t,t1,t2,t3⟩:=qji r hr;have hst:=qv9 r t t1 t2 t3
   have hnz:(U r != 0)=true:=by
    simp only[qU];intro e;exact hr (pE (e.trans (by decide +kernel)))
   have htz:=qC (eI r t t2 t3);obtain⟨fn,tmps,assign,body,hy,hR⟩:=hY pre ⟨t,t1⟩ wr hJs (by rw[hx,hst];simp);have hx':=qC hx;have hst':=qC hst;have htb':=qC htb;clear hx hst htb hr t2 t3;gi_wp2_with (refine⟨trivial,?_⟩;gi_at_call 208;refine(callsIn_wide.2 (qa htz _ (qa htb'))).mono ?_;rintro e w' ⟨rfl,rfl⟩);refine hR.mono ?_;rintro e W3 (⟨rfl,hJ3,hk3⟩|⟨rfl,hJx3⟩)
   ·have e1:IntKind.u64.wrap (U r-1)=U (r-1#64):=by
     rw[show(1:Int)=U 1#64 from by decide +kernel];exact bJ r 1#64
    have e2:bits .and .u64 (U r) (U (r-1#64))=U (r &&& (r-1#64)):=im _ _;gi_wp2;go_roundw
    case rel=>exact⟨pre++[⟨t,t1⟩],r &&& (r-1#64),rfl,by rw[qa hx',qa hst'];simp,(qa htb').below hk3 ht0,hJ3⟩
    case measure=>simp only[intOf];rw[jh,jh,qa hst'];simp
   ·gi_wp2;refine bodyPost_ret (results_none rfl _ _ _) rfl ?_;exact⟨⟨_,rfl⟩,.inr ⟨pre++[⟨t,t1⟩],⟨vD (r &&& (r-1#64)),by rw[qa hx',qa hst'];simp⟩,hJx3⟩⟩
theorem l8(n:Nat)(hn:1<=n)(Bn n₀:Nat)(hB:Bn<n₀)(ht0:2<n₀)(s:BitVec 64)(w:World)(hn₀:n₀<=w.heap.size)(hc:w.cell? ⟨Bn,0,none⟩=some (.int .u64 (U s)))(hT:kL w) :
  SeqStopsK Fence.wide n Tryz.prog 207 #[.pointer (some ⟨Bn,0,none⟩)] (fun x:Fin 64=>#[Value.int .i64 ((x.val:Nat):Int)]) (Below n₀) (fun ys=>ys.map (·.val)=vD s) (fun pre=>pre.map (·.val) <+: vD s) (vD s).length w:=fun l J Jx W hW _ _ hY h0 =>
 Db n hn l Bn n₀ hB ht0 s J Jx hY W ((hW.cell (p:=⟨Bn,0,none⟩) (qN hB hn₀)).trans hc) (hT.below hW (qN ht0 hn₀)) h0
theorem Gr.others{W W':World}(g:Gr W W'):KeepsOthers W W':=⟨Below.size g,fun k _ hk _=>(Below.block g k (qB.1 hk).1).trans hk⟩
theorem xf{F:Fence}{n:Nat}{ops:Array Oper}{rest:List Oper}{o:Oper}{a:Act}{w:World}{M:Array Value}{Q:Exit->Act->World->Prop}(hg:o.guard=none)(x:Operand)(ho:o.op=.load 197 x)(b:Nat)(hx:a.eval x=.pointer (some ⟨b,0,none⟩))(hh:vh b M w)
  (h:wpListIn F n Tryz.prog ops Q rest (a.put o.dst (.agg M)) w):wpListIn F n Tryz.prog ops Q (o :: rest) a w :=
 wpListIn_plain hg fun K hK=>by
  refine⟨fun f hf=>?_,?_⟩
  ·simp[Oper.about,ho]at hf
  ·rw[Oper.semAt_eq _ _ _ (by rw[ho];intro c e;cases e)]
   have hr:(execOp a.eval o).run Tryz.prog w=.ok (.value (.agg M)) w:=by
    have:=run_loadVar_mid (P:=Tryz.prog) w b 0 197 M.toList _ hh.2.1 Tryz.underlying197 rfl (by rw[uF];simp[hh.2.2]);rw[Array.toArray_toList]at this;unfold execOp;simp only[ho,hx,Instr.loadAt,Instr.sureAddr,Sem.run_bind,Sem.run_pure,Result.andThen_ok,this]
   rw[hr,Oper.uponIn_value];exact hK _ _ h
theorem jt{W:World}{b:Nat}{M:Array Value}(h:W.heap[b]?=some (.cells M 197))(hz:M.size=12):vh b M W :=
 ⟨(qB.1 h).1,fun j v hv=>by rw[cell_of_row _ _ _ _ _ _ h,Nat.zero_add,<-qO];exact hv,hz⟩
theorem jm{W:World}{b:Nat}{u v:Value}{t:TypeId}(h:W.heap[b]?=some (.cells #[u] t)):(W.setCell ⟨b,0,none⟩ v).heap[b]?=some (.cells #[v] t):=by
 have hb:=(qB.1 h).1;have h':W.heap[b]=.cells #[u] t:=(qB.1 h).2;simp[World.setCell,hb,Array.getElem_modify,h']
theorem DA{W:World}{b D:Nat}{o o':Obj}(h:W.heap[b]?=some o)(hne:b≠D):(W.putObj D o').heap[b]?=some o:=(World.putObj_heap_other hne).trans h
theorem ie(tmps:Array Value)(w:World)(b:Nat)(v:Value)(hp:tmps.getD 4 undef=.pointer (some ⟨b,0,none⟩))(hc:w.cell? ⟨b,0,none⟩=some v):(results Tryz.f146 tmps).run Tryz.prog w=.ok v w:=by
 have hp':tmps[4]?.getD undef=.pointer (some ⟨b,0,none⟩):=by simpa using hp
 simp[results,Tryz.results146,hp',asAddr,go_sem,hc]
def kD(m:Nat->BitVec 64)(wh:Bool):Bool:=(vD (m (bg (!wh)+5))).any fun y=>xV m (y:Int) wh
theorem mS(m:Nat->BitVec 64)(M:Array Value)(hM:jS m M)(wh:Bool)(w:World)(hT:jF w):Calls Tryz.prog 146 #[.agg M,.bool wh] w fun e w'=>e=.returned (.bool (kD m wh))/\Gr w w':=by
 have hM':=qC hM;have hT':=qC hT;clear hM hT;have hh:Hid (∀o1 o2 o3,_):=qC (lM w);have hheld3:=jt (qa hh (.cells M 197) (.cells #[.bool wh] 4) (.cells #[.bool false] 4)).1 (qa hM').1;refine(callsIn_wide (n:=3)).1 ?_;refine callsIn_of_wp_marks Tryz.func146 rfl trivial ?_ rfl;simp only[Tryz.ntmps146,List.size_toArray,List.length_cons,List.length_nil,Nat.reduceAdd,Nat.reduceSub,Array.replicate_succ,Array.replicate_zero,List.push_toArray,List.append_toArray,List.nil_append,List.cons_append]
 gi_wp2_with (first
  | (refine xf rfl _ rfl w.heap.size rfl hheld3 ?_)
  | (refine⟨trivial,?_⟩;gi_at_call 213;refine(callsIn_wide.2 (FL m M (qa hM') _ _)).mono ?_;rintro e w4 ⟨rfl,hg⟩)
  | (refine⟨trivial,?_⟩;gi_at_call 132;refine(callsIn_wide.2 (xn _ _)).mono ?_;rintro e w5 ⟨rfl,rfl⟩))
 clear hheld3;obtain⟨h1,h2,h3⟩:=qa hh (.cells M 197) (.cells #[.bool wh] 4) (.cells #[.bool false] 4);obtain⟨s,hs⟩:∃s,Hid (m (bg (!wh)+5)=s):=⟨_,qC rfl⟩;rw[qa hs];obtain⟨w5,hw5⟩:∃w5,w5=w4.alloc (.cells #[.int .u64 (U s)] 195):=⟨_,rfl⟩;rw[<-hw5];have hg5:Gr (((w.alloc (.cells M 197)).alloc (.cells #[.bool wh] 4)).alloc (.cells #[.bool false] 4)) w5:=by rw[hw5];exact hg.alloc _ _
 have hz3:(((w.alloc (.cells M 197)).alloc (.cells #[.bool wh] 4)).alloc (.cells #[.bool false] 4)).heap.size=w.heap.size+3:=by simp
 have b0:=(Below.block hg5 w.heap.size (by rw[hz3];omega)).trans h1;have b1:=(Below.block hg5 (w.heap.size+1) (by rw[hz3];omega)).trans h2;have b2:=(Below.block hg5 (w.heap.size+2) (by rw[hz3];omega)).trans h3;have hs5:w.heap.size+3<=w5.heap.size:=by rw[<-hz3];exact Below.size hg5
 have hG5:Gr w w5:=Gr.trans ((((Gr.refl w).alloc _ _).alloc _ _).alloc _ _) hg5;have hT5:=(qa hT').gr hG5;have hBn:w4.heap.size<w5.heap.size:=by rw[hw5,World.size_alloc];omega
 have hcB:w5.cell? ⟨w4.heap.size,0,none⟩=some (.int .u64 (U s)):=by rw[hw5,World.cell?_alloc_at _ _ _ _ rfl];rfl
 clear hg5 hw5 hg h1 h2 h3 hz3 hh;generalize w4.heap.size=Bn at hBn hcB ⊢
 refine wpIn_rangeFunc_ownF rfl (by omega) (gf:=207) (lb:=#[.pointer (some ⟨Bn,0,none⟩)]) rfl trivial (enters_of Tryz.func207 (by kernel_rfl) rfl)
  (l8 _ (by omega) Bn w5.heap.size hBn hT5.2 s _ (qL _) hcB hT5.1) belowK_t (belowK_b (qL _)) (Below.refl _ _) (fun _=>rfl)
  (fun pre W=>(∀y∈pre,xV m ((y:Fin 64).val:Int) wh=false)/\Below w5.heap.size w5 W)
  (fun c pre W=>c=.ret/\(∃y∈pre,xV m ((y:Fin 64).val:Int) wh=true)/\∃W0:World,(W0.heap[w.heap.size+2]?=some (.cells #[.bool true] 4)/\Gr w W0/\w5.heap.size<=W0.heap.size)/\Below w5.heap.size W0 W)
  (OwnFrom.and (fun _ _ _ _ hs _ _=>hs) (ownFrom_below (qL _) (qL _)))
  (fun _ _ _ _ _ hs hg hr=>⟨hs.1,hs.2.1,hs.2.2.choose,hs.2.2.choose_spec.1,ownFrom_below (β:=List (Fin 64)) hs.2.2.choose_spec.1.2.2 (qL _) [] _ _ _ hs.2.2.choose_spec.2 hg hr⟩)
  ⟨fun y hy=>absurd hy (List.not_mem_nil),Below.refl _ _⟩
  (fun x=>{ tmps:=#[.agg M,.bool wh,.pointer (some ⟨w.heap.size,0,none⟩),.pointer (some ⟨w.heap.size+1,0,none⟩),.pointer (some ⟨w.heap.size+1+1,0,none⟩),.int .i64 ((x:Fin 64).val:Nat),.agg M,.bool wh,.bool !wh,.int .u64 (U s),.func (.func 207) #[] #[.pointer (some ⟨Bn,0,none⟩)],.int .i64 ((x:Fin 64).val:Nat),undef,undef,undef,undef],defers:=[] }) ?assign ?body ?done ?stop
 case assign =>
  intro l x W K hK;gi_wp2;simpa using hK
 case body =>
  rintro l pre x W ⟨hpre,hB⟩ hlt;have hx0:(0:Int)<=(x.val:Int):=by omega
  have hx1:(x.val:Int)<=63:=by have:=x.isLt;omega
  have d0:=(Below.block hB w.heap.size (by omega)).trans b0;have d1:=qi ((Below.block hB (w.heap.size+1) (by omega)).trans b1);have d2:=(Below.block hB (w.heap.size+2) (by omega)).trans b2;have hheld:=jt d0 (qa hM').1;obtain⟨d1a,d1b⟩:=d1;obtain⟨v,hv⟩:∃v,Hid (xV m (x.val:Int) wh=v):=⟨_,qC rfl⟩;have hat:=qC (qq0 m M (qa hM') (x.val:Int) hx0 hx1 wh W);rw[qa hv]at hat;have hpre':=qC hpre;have hB':=qC hB;have d2':=qC d2;have b':=qC (And.intro b0 (And.intro b1 b2));have hszW:w.heap.size+1+1<W.heap.size:=by have:=Below.size hB;omega
  clear hpre hB d0 d2 b0 b1 b2 hcB hlt;cases v
  ·gi_wp2_with (first
    | (refine xf rfl _ rfl w.heap.size rfl hheld ?_)
    | (refine⟨trivial,?_⟩;gi_at_call 127;refine(CallsIn.inRound l (callsIn_wide.2 (qa hat))).mono ?_;rintro e w' ⟨rfl,hg⟩))
   refine⟨hg.others,Below.mono hg (Below.size (qa hB')),fun y hy=>?_,(qa hB').trans (Below.mono hg (Below.size (qa hB')))⟩;rcases List.mem_append.1 hy with h|h
   ·exact qa hpre' y h
   ·rw[qT]at h;subst h;exact qa hv
  ·gi_wp2_with (first
    | (refine xf rfl _ rfl w.heap.size rfl hheld ?_)
    | (refine⟨trivial,?_⟩;gi_at_call 127;refine(CallsIn.inRound l (callsIn_wide.2 (qa hat))).mono ?_;rintro e w' ⟨rfl,hg⟩;have d3:=(Below.block hg (w.heap.size+1+1) hszW).trans (qa d2');have d4:=qi d3;obtain⟨d4a,d4b⟩:=d4))
   exact⟨hg.others.trans (KeepsOthers.setCell _ _ _),rfl,⟨x,List.mem_append.2 (.inr (qT.2 rfl)),qa hv⟩,_,⟨jm d3,Below.setCell (Gr.trans (Gr.trans hG5 (qa hB')) hg) (show w.heap.size<=w.heap.size+1+1 by omega) _,by
    have e1:=Below.size (qa hB');have e2:=Below.size hg;simp[World.setCell];omega⟩,Below.refl _ _⟩
 case done =>
  rintro D ys W hD hys ⟨hpre,hB⟩ hK;have d2:=(Below.block hB (w.heap.size+1+1) (by omega)).trans b2;obtain⟨d2a,d2b⟩:=qi d2;have hK':=qC ((KeepsOthers.setCell W ⟨w.heap.size+1+1,0,none⟩ (.bool false)).same D _ hK rfl)
  have hv:Hid (kD m wh=false):=qC (by
   unfold kD;rw[qa hs,<-hys,List.any_eq_false];intro y hy;obtain⟨x,hx,rfl⟩:=List.mem_map.1 hy;rw[hpre x hx];decide)
  have hres:=qC (qi (DA (D:=D) (o':=.deferred none) (jm (v:=.bool false) d2) (by omega))).1;have hgr:Hid (Gr w ((W.setCell ⟨w.heap.size+1+1,0,none⟩ (.bool false)).putObj D (.deferred none))):=qC ((Below.setCell (Gr.trans hG5 hB) (show w.heap.size<=w.heap.size+1+1 by omega) _).trans (belowK_b (w:=w5) (n₀:=w.heap.size) (by omega) _ D _ _ hD (qa hK') rfl rfl));clear hpre hys hB b0 b1 b2 d2;gi_wp2;refine⟨by simp,.inl ⟨_,_,rfl,run_takeDeferred (qa hK'),?_⟩⟩;exact⟨_,ie _ _ _ _ rfl (qa hres),by rw[qa hv],qa hgr⟩
 case stop =>
  rintro D c pre W hD hpre ⟨rfl,⟨y,hy1,hy2⟩,W0,⟨c1,c2,c3⟩,hB⟩ hK;have d2:=(Below.block hB (w.heap.size+2) (by omega)).trans c1
  have hv:Hid (kD m wh=true):=qC (by
   unfold kD;rw[qa hs,qY];exact⟨y.val,hpre.subset (List.mem_map.2 ⟨y,hy1,rfl⟩),hy2⟩)
  have hres:=qC (qi (DA (D:=D) (o':=.deferred none) d2 (by omega))).1;have hgr:Hid (Gr w (W.putObj D (.deferred none))):=qC ((Below.trans c2 (Below.mono hB (by omega))).trans (belowK_b (w:=w5) (n₀:=w.heap.size) (by omega) _ D _ _ hD hK rfl rfl));gi_wp2;refine⟨by simp,.inl ⟨_,_,rfl,run_takeDeferred hK,?_⟩⟩;exact⟨_,ie _ _ _ _ rfl (qa hres),by rw[qa hv],qa hgr⟩
end
end Go.Proofs.YtnfakamfmkhlbabGreatDoor.C
