import Derived.Test.YtnfakamfmkhlbabGreatDoorUm8
import Derived.Test.YtnfakamfmkhlbabGreatDoorKz2
import Derived.Test.YtnfakamfmkhlbabGreatDoorKz3
set_option maxRecDepth 100000
set_option maxHeartbeats 4000000
set_option linter.unusedSimpArgs false
namespace Go.Proofs.YtnfakamfmkhlbabGreatDoor.C
open Go.ChangeShapes Go.WideShapes Go.ChangeAt Go.RowKit Go.Shelf Go.Proofs.YtnfakamfmkhlbabGreatDoor.P
attribute [local go_sem] qd qe
variable {m:Nat->BitVec 64}{wh:Bool}{own oth beh:BitVec 64}{fc:Nat->Bool}{FA:Array Value}
def xE(i:Nat):Nat:=if i=0 then 6 else if i=1 then 2 else if i=2 then 62 else 58
def yX(i:Nat):BitVec 64:=if i=0 then 96#64 else if i=1 then 14#64 else if i=2 then 6917529027641081856#64 else 1008806316530991104#64
def yW(i:Nat):BitVec 64:=if i=0 then 112#64 else if i=1 then 28#64 else if i=2 then 8070450532247928832#64 else 2017612633061982208#64
def yD(m:Nat->BitVec 64)(wh:Bool)(own oth:BitVec 64)(fc:Nat->Bool)(i:Nat):Bool:=fc i&&(wh==decide (i<2))&&decide ((own ||| oth) &&& yX i=0#64)&&!(uG m (yW i) wh)
def kp(m:Nat->BitVec 64)(wh:Bool)(own oth:BitVec 64)(fc:Nat->Bool):Nat->BitVec 64
 | 0=>0#64
 | k+1=>if yD m wh own oth fc k then kp m wh own oth fc k ||| 1#64 <<< xE k else kp m wh own oth fc k
def pY:List Value:=[.int .i64 6,.int .u64 96,.int .u64 112,.int .i64 2,.int .u64 14,.int .u64 28,.int .i64 62,.int .u64 6917529027641081856,.int .u64 8070450532247928832,.int .i64 58,.int .u64 1008806316530991104,.int .u64 2017612633061982208]
def jQ(w:World):Prop:=w.rangeAt 3 0 pY/\3<w.heap.size
theorem jQ.gr{w w':World}(h:jQ w)(g:Gr w w'):jQ w' :=
 ⟨fun j v hv=>(Below.cell g (p:=⟨_,0+j,none⟩) h.2).trans (h.1 j v hv),qN h.2 (Below.size g)⟩
theorem Bo:(Tryz.prog.info? 315).map (·.size)=some pY.length:=by kernel_rfl
theorem ixc0(w:World):(Instr.index 315 (.agg pY.toArray) (.int .i64 0)).run Tryz.prog w=.ok (.agg #[.int .i64 6,.int .u64 96,.int .u64 112]) w:=by kernel_rfl
theorem ixc1(w:World):(Instr.index 315 (.agg pY.toArray) (.int .i64 1)).run Tryz.prog w=.ok (.agg #[.int .i64 2,.int .u64 14,.int .u64 28]) w:=by kernel_rfl
theorem ixc2(w:World):(Instr.index 315 (.agg pY.toArray) (.int .i64 2)).run Tryz.prog w=.ok (.agg #[.int .i64 62,.int .u64 6917529027641081856,.int .u64 8070450532247928832]) w:=by kernel_rfl
theorem ixc3(w:World):(Instr.index 315 (.agg pY.toArray) (.int .i64 3)).run Tryz.prog w=.ok (.agg #[.int .i64 58,.int .u64 1008806316530991104,.int .u64 2017612633061982208]) w:=by kernel_rfl
theorem ixc5(k:Nat)(hk:k<4)(w:World):(Instr.index 315 (.agg pY.toArray) (.int .i64 (k:Int))).run Tryz.prog w=.ok (.agg #[.int .i64 (xE k:Nat),.int .u64 (U (yX k)),.int .u64 (U (yW k))]) w:=by
 have:k=0\/k=1\/k=2\/k=3:=by omega
 rcases this with rfl|rfl|rfl|rfl
 ·exact(ixc0 w).trans (by rfl)
 ·exact(ixc1 w).trans (by rfl)
 ·exact(ixc2 w).trans (by rfl)
 ·exact(ixc3 w).trans (by rfl)
theorem Uz(x:BitVec 64):U x=0↔x=0#64:=⟨fun h=>pE (h.trans (by decide +kernel)),fun h=>by rw[h];decide +kernel⟩
theorem lP(k:Nat):xE k<64:=by unfold xE;split<;>(try split)<;>(try split)<;>omega
theorem aQ(r:pO m wh own oth beh fc FA)(w:World)(hT:jF w)(hC:jQ w):Calls Tryz.prog 210 #[.agg FA] w fun e w'=>e=.returned (.int .u64 (U (kp m wh own oth fc 4)))/\Gr w w':=by
 have hr:=qC r;have hz:=qC r.size;have hg0:=qC ((Gr.refl w).alloc FA 202);have hfa:=qC (yk.new w FA 202);have hC':=qC hC;have hT':=qC hT;clear r hC hT;generalize hL:pY.toArray=CL;go_enter Tryz.func210,Tryz.ntmps210;go_wp2_with(refine wpList_load_mid rfl 315 _ rfl 3 0 rfl pY _ ((qa hC').gr (qa hg0)).1 Tryz.underlying315 rfl Bo ?_);generalize w.alloc (.cells FA 202)=w1 at hg0 hfa ⊢;go_loopg [3,7] 4 (fun gg x n wr=>∃k:Nat,k+gg=4/\n=.int .i64 k/\x=.int .u64 (U (kp m wh own oth fc k))/\Gr w1 wr)
 case atStart=>exact⟨0,rfl,rfl,by rfl,Gr.refl _⟩
 case round =>
  obtain⟨k,k1,rfl,rfl,hgr⟩:=hrel;have hgr':=qC hgr;clear hgr;by_cases hlt:k<4
  ·have hix:=ixc5 k hlt;rw[hL]at hix;have hA:=qC (((qa hfa).gr (qa hgr')).gr ((Gr.refl wr).alloc #[.int .i64 (xE k:Nat),.int .u64 (U (yX k)),.int .u64 (U (yW k))] 314));have c12:=(qa hA).cell (qa hr).wh;have c13:=(qa hA).cell (qa hr).own;have c14:=(qa hA).cell (qa hr).oth;have c16:=(qa hA).cell ((qa hr).c k hlt);have hk0:(0:Int)<=(k:Int):=by omega
   have hk4:(k:Int)<4:=by omega
   have hany:=qC (fun W hT=>qv0 (qa hr) (yW k) W hT);have hTk:=qC ((qa hT').gr (Gr.trans (Gr.trans (qa hg0) (qa hgr')) ((Gr.refl wr).alloc #[.int .i64 (xE k:Nat),.int .u64 (U (yX k)),.int .u64 (U (yW k))] 314)));have hone:=qC (fun W=>A9 (xE k:Nat) (by omega) (by have:=lP k;omega) W);rw[rp _ (lP k)]at hone;have hor:∀x y:BitVec 64,bits .or .u64 (U x) (U y)=U (x ||| y):=uQ;have hand:∀x y:BitVec 64,bits .and .u64 (U x) (U y)=U (x &&& y):=im;have hok:Hid (yD m wh own oth fc k=(fc k&&(wh==decide (k<2))&&decide ((own ||| oth) &&& yX k=0#64)&&!(uG m (yW k) wh))):=qC rfl;have hst:Hid (kp m wh own oth fc (k+1)=if yD m wh own oth fc k then kp m wh own oth fc k ||| 1#64 <<< xE k else kp m wh own oth fc k):=qC rfl
   have hz0:(U ((own ||| oth) &&& yX k)==0)=decide ((own ||| oth) &&& yX k=0#64):=by
    rw[Bool.eq_iff_iff];simp[Uz]
   have hi2:decide ((k:Int)<2)=decide (k<2):=by simp;omega
   generalize yD m wh own oth fc k=OK at hok hst;generalize decide ((own ||| oth) &&& yX k=0#64)=c3 at hok hz0;generalize decide (k<2)=c2 at hok hi2;generalize fc k=c1 at hok c16;generalize uG m (yW k) wh=c4 at hok hany;generalize hQN:kp m wh own oth fc (k+1)=QN at hst;have hQN':=qC hQN;clear hQN;have cb0:(wr.alloc (.cells #[.int .i64 (xE k:Nat),.int .u64 (U (yX k)),.int .u64 (U (yW k))] 314)).cell? ⟨wr.heap.size,0,none⟩=some (.int .i64 (xE k:Nat)):=by rw[World.cell?_alloc_at _ _ _ _ rfl];rfl
   have cb1:(wr.alloc (.cells #[.int .i64 (xE k:Nat),.int .u64 (U (yX k)),.int .u64 (U (yW k))] 314)).cell? ⟨wr.heap.size,1,none⟩=some (.int .u64 (U (yX k))):=by rw[World.cell?_alloc_at _ _ _ _ rfl];rfl
   have cb2:(wr.alloc (.cells #[.int .i64 (xE k:Nat),.int .u64 (U (yX k)),.int .u64 (U (yW k))] 314)).cell? ⟨wr.heap.size,2,none⟩=some (.int .u64 (U (yW k))):=by rw[World.cell?_alloc_at _ _ _ _ rfl];rfl
   have hgk:=qC ((qa hgr').alloc #[.int .i64 (xE k:Nat),.int .u64 (U (yX k)),.int .u64 (U (yW k))] 314);have hBk:wr.heap.size<(wr.alloc (.cells #[.int .i64 (xE k:Nat),.int .u64 (U (yX k)),.int .u64 (U (yW k))] 314)).heap.size:=by rw[World.size_alloc];omega
   have hBk':=qC hBk;clear hBk;go_upto_region 5 with fail;clear hix;generalize (wr.alloc (.cells #[.int .i64 (xE k:Nat),.int .u64 (U (yX k)),.int .u64 (U (yW k))] 314))=wk at hA hTk c12 c13 c14 c16 cb0 cb1 cb2 hgk hBk' ⊢;generalize wr.heap.size=Bk at cb0 cb1 cb2 hBk' ⊢;clear hgr';by_cases hq:(c1&&(wh==c2)&&c3)=true
   ·obtain⟨⟨rfl,hw2⟩,rfl⟩:(c1=true/\(wh==c2)=true)/\c3=true:=by simpa using hq
    clear hq;cases c4
    ·have hN:Hid (QN=kp m wh own oth fc k ||| 1#64 <<< xE k):=qC (by rw[qa hst,qa hok,hw2];rfl);clear hst hok
     go_wp2_with(first
      | (go_at_call 212;refine(qa hany _ (qa hTk)).mono ?_;rintro e wa ⟨rfl,hga⟩;have cb3:=(Below.cell hga (p:=⟨Bk,0,none⟩) (qa hBk')).trans cb0)
      | (go_at_call 204;refine(qa hone _).mono ?_;rintro e wo ⟨rfl,hww⟩;have hww':=hww.symm;subst hww';clear hww)
      | (refine jd (by rfl) _ rfl w.heap.size rfl (qa hz) (qa hA) ?_))
     go_roundg (gk-1)
     case measure=>omega
     case rel=>exact⟨k+1,by omega,by go_num,by rw[qa hQN',qa hN],Gr.trans (qa hgk) hga⟩
    ·have hN:Hid (QN=kp m wh own oth fc k):=qC (by rw[qa hst,qa hok,hw2];rfl);clear hst hok
     go_wp2_with(first
      | (go_at_call 212;refine(qa hany _ (qa hTk)).mono ?_;rintro e wa ⟨rfl,hga⟩)
      | (refine jd (by rfl) _ rfl w.heap.size rfl (qa hz) (qa hA) ?_))
     go_roundg (gk-1)
     case measure=>omega
     case rel=>exact⟨k+1,by omega,by go_num,by rw[qa hQN',qa hN],Gr.trans (qa hgk) hga⟩
   ·have hN:Hid (QN=kp m wh own oth fc k):=qC (by
     rw[qa hst,qa hok];have:(c1&&(wh==c2)&&c3)=false:=by simpa using hq
     rw[this];rfl)
    clear hst hok hany hone;cases c1
    ·clear hq;go_wp2_with fail;go_roundg (gk-1)
     case measure=>omega
     case rel=>exact⟨k+1,by omega,by go_num,by rw[qa hQN',qa hN],qa hgk⟩
    ·by_cases hw2:(wh==c2)=true
     ·have hc3:c3=false:=by
       cases c3
       ·rfl
       ·exact absurd (by rw[hw2];rfl) hq
      subst hc3;clear hq;go_wp2_with fail;go_roundg (gk-1)
      case measure=>omega
      case rel=>exact⟨k+1,by omega,by go_num,by rw[qa hQN',qa hN],qa hgk⟩
     ·have hw3:(wh==c2)=false:=by simpa using hw2
      clear hq hw2;go_wp2_with fail;go_roundg (gk-1)
      case measure=>omega
      case rel=>exact⟨k+1,by omega,by go_num,by rw[qa hQN',qa hN],qa hgk⟩
  ·have ek:k=4:=by omega
   subst ek;go_wp2_with fail;go_ret;exact⟨rfl,Gr.trans (qa hg0) (qa hgr')⟩
variable {m:Nat->BitVec 64}{wh:Bool}{own oth beh:BitVec 64}{fc:Nat->Bool}{FA:Array Value}
def kN(m:Nat->BitVec 64)(wh:Bool)(own oth beh:BitVec 64)(fc:Nat->Bool)(place kind f:Nat):BitVec 64 :=
 if place=0 then(jW kind f (own ||| oth) &&& (oth ||| beh)) ||| k7 wh own oth f
 else if place=5 then(jW kind f (own ||| oth) &&& ~~~own) ||| kp m wh own oth fc 4
 else jW kind f (own ||| oth) &&& ~~~own
theorem om(r:pO m wh own oth beh fc FA)(place kind f:Nat)(hk1:1<=kind)(hk7:kind<=7)(hf:f<64)(w:World)(hT:jF w)(hC:jQ w):Calls Tryz.prog 133 #[.agg FA,.int .i64 (place:Int),.int .i64 (kind:Int),.int .i64 (f:Int)] w fun e w'=>e=.returned (.int .u64 (U (kN m wh own oth beh fc place kind f)))/\Gr w w':=by
 have hr:=qC r;have hz:=qC r.size;have hfa:=yk.new w FA 202;have hg1:=(Gr.refl w).alloc FA 202;have c13:=hfa.cell r.own;have c14:=hfa.cell r.oth;have c15:=hfa.cell r.beh;have hre:=qC (fun W=>qjg (kind:Int) (f:Int) (U (own ||| oth)) (by omega) (by omega) (by omega) (by omega) W);rw[ik kind f hk1 hk7 hf]at hre;have hah:=qC (fun W=>ni r f hf W);have hca:=qC (fun W hT hC=>aQ r W hT hC);have hT1:=qC (hT.gr hg1);have hC1:=qC (hC.gr hg1);have hTd:Hid (kN m wh own oth beh fc place kind f=if place=0 then(jW kind f (own ||| oth) &&& (oth ||| beh)) ||| k7 wh own oth f else if place=5 then(jW kind f (own ||| oth) &&& ~~~own) ||| kp m wh own oth fc 4 else jW kind f (own ||| oth) &&& ~~~own):=qC rfl;clear r hT hC;generalize hTg:kN m wh own oth beh fc place kind f=TG at hTd;clear hTg;generalize jW kind f (own ||| oth)=R at hre hTd;generalize k7 wh own oth f=AH at hah hTd;generalize kp m wh own oth fc 4=CQ at hca hTd;have hor:∀x y:BitVec 64,bits .or .u64 (U x) (U y)=U (x ||| y):=uQ;have hand:∀x y:BitVec 64,bits .and .u64 (U x) (U y)=U (x &&& y):=im;have han:∀x y:BitVec 64,bits .andNot .u64 (U x) (U y)=U (x &&& ~~~y):=qk1;go_enter Tryz.func133,Tryz.ntmps133;go_upto_region 2 with(go_at_call 206;refine(qa hre _).mono ?_;rintro e w' ⟨rfl,hww⟩;have hww':=hww.symm;subst hww';clear hww);generalize hw1:w.alloc (.cells FA 202)=w1 at hfa hg1 c13 c14 c15 hT1 hC1 ⊢;clear hw1;have hH:HF w w.heap.size FA w1.drew:=⟨hfa.gr (Gr.refl _).drew,hg1.drew⟩;by_cases h0:place=0
 ·have e0:((place:Int)==0)=true:=by simp;omega
  have hN:Hid (TG=R &&& (oth ||| beh) ||| AH):=qC (by rw[qa hTd,qI h0]);clear hTd h0;go_upto_region 4 with fail;refine wp_region_held_drew (S:=HF w w.heap.size FA) (by kernel_rfl) hH (fun qD=>?_);refine C.ty 0 (.int .u64 (U R)) rfl (Or.inl ⟨by rfl,fun w hw=>(by have c13:=hw.1.cell (qa hr).own;have c14:=hw.1.cell (qa hr).oth;have c15:=hw.1.cell (qa hr).beh;go_simp)⟩) qD ?_;refine C.ty 1 (.pointer (some ⟨w.heap.size,14,none⟩)) rfl (Or.inl ⟨by rfl,fun w hw=>(by have c13:=hw.1.cell (qa hr).own;have c14:=hw.1.cell (qa hr).oth;have c15:=hw.1.cell (qa hr).beh;go_simp)⟩) qD ?_;refine C.ty 2 (.int .u64 (U oth)) rfl (Or.inl ⟨by rfl,fun w hw=>(by have c13:=hw.1.cell (qa hr).own;have c14:=hw.1.cell (qa hr).oth;have c15:=hw.1.cell (qa hr).beh;go_simp)⟩) qD ?_;refine C.ty 3 (.pointer (some ⟨w.heap.size,15,none⟩)) rfl (Or.inl ⟨by rfl,fun w hw=>(by have c13:=hw.1.cell (qa hr).own;have c14:=hw.1.cell (qa hr).oth;have c15:=hw.1.cell (qa hr).beh;go_simp)⟩) qD ?_;refine C.ty 4 (.int .u64 (U beh)) rfl (Or.inl ⟨by rfl,fun w hw=>(by have c13:=hw.1.cell (qa hr).own;have c14:=hw.1.cell (qa hr).oth;have c15:=hw.1.cell (qa hr).beh;go_simp)⟩) qD ?_;refine C.ty 5 (.int .u64 (U (oth ||| beh))) rfl (Or.inl ⟨by rfl,fun w hw=>(by have c13:=hw.1.cell (qa hr).own;have c14:=hw.1.cell (qa hr).oth;have c15:=hw.1.cell (qa hr).beh;go_simp)⟩) qD ?_;refine C.ty 6 (.int .u64 (U (R &&& (oth ||| beh)))) rfl (Or.inl ⟨by rfl,fun w hw=>(by have c13:=hw.1.cell (qa hr).own;have c14:=hw.1.cell (qa hr).oth;have c15:=hw.1.cell (qa hr).beh;go_simp)⟩) qD ?_;refine C.ty 7 (.agg FA) rfl (cX (qa hz) (by rfl) _ rfl w.heap.size rfl (fun _ h=>h.1)) qD ?_;refine C.ty 8 (.int .i64 (f:Int)) rfl (Or.inl ⟨by rfl,fun w hw=>(by have c13:=hw.1.cell (qa hr).own;have c14:=hw.1.cell (qa hr).oth;have c15:=hw.1.cell (qa hr).beh;go_simp)⟩) qD ?_;refine C.rd 9 fun K hK=>?_
  go_simp;refine(qa hah _).mono ?_;rintro e wa ⟨rfl,hga⟩;refine hK.out _ _ (qD.gr hga) (fun qD=>?_);clear hK K hga;refine C.ty 10 (.int .u64 (U (R &&& (oth ||| beh) ||| AH))) rfl (Or.inl ⟨by rfl,fun w hw=>(by have c13:=hw.1.cell (qa hr).own;have c14:=hw.1.cell (qa hr).oth;have c15:=hw.1.cell (qa hr).beh;go_simp)⟩) qD ?_;refine C.rd 11 fun K hK=>?_
  go_simp;refine hK.out _ _ qD (fun qD=>?_);clear hK K;refine wpAnyH_done (by kernel_rfl) ?_ _;go_wp2_with fail;go_ret;exact⟨by rw[qa hN];rfl,qD.2⟩
 ·have e0:((place:Int)==0)=false:=by simp;omega
  by_cases h5:place=5
  ·have e5:((place:Int)==5)=true:=by simp;omega
   have hN:Hid (TG=R &&& ~~~own ||| CQ):=qC (by rw[qa hTd,qF h0,qI h5]);clear hTd h0 h5;go_upto_region 6 with fail;refine wp_region_held_drew (S:=HF w w.heap.size FA) (by kernel_rfl) hH (fun qD=>?_);refine C.ty 0 (.int .u64 (U R)) rfl (Or.inl ⟨by rfl,fun w hw=>(by have c13:=hw.1.cell (qa hr).own;have c14:=hw.1.cell (qa hr).oth;have c15:=hw.1.cell (qa hr).beh;go_simp)⟩) qD ?_;refine C.ty 1 (.pointer (some ⟨w.heap.size,13,none⟩)) rfl (Or.inl ⟨by rfl,fun w hw=>(by have c13:=hw.1.cell (qa hr).own;have c14:=hw.1.cell (qa hr).oth;have c15:=hw.1.cell (qa hr).beh;go_simp)⟩) qD ?_;refine C.ty 2 (.int .u64 (U own)) rfl (Or.inl ⟨by rfl,fun w hw=>(by have c13:=hw.1.cell (qa hr).own;have c14:=hw.1.cell (qa hr).oth;have c15:=hw.1.cell (qa hr).beh;go_simp)⟩) qD ?_;refine C.ty 3 (.int .u64 (U (R &&& ~~~own))) rfl (Or.inl ⟨by rfl,fun w hw=>(by have c13:=hw.1.cell (qa hr).own;have c14:=hw.1.cell (qa hr).oth;have c15:=hw.1.cell (qa hr).beh;go_simp)⟩) qD ?_;refine C.ty 4 (.agg FA) rfl (cX (qa hz) (by rfl) _ rfl w.heap.size rfl (fun _ h=>h.1)) qD ?_;refine C.rd 5 fun K hK=>?_
   go_simp;refine(qa hca _ ((qa hT1).gr (Gr.refl _).drew) ((qa hC1).gr (Gr.refl _).drew)).mono ?_;rintro e wa ⟨rfl,hga⟩;refine hK.out _ _ (qD.gr hga) (fun qD=>?_);clear hK K hga;refine C.ty 6 (.int .u64 (U (R &&& ~~~own ||| CQ))) rfl (Or.inl ⟨by rfl,fun w hw=>(by have c13:=hw.1.cell (qa hr).own;have c14:=hw.1.cell (qa hr).oth;have c15:=hw.1.cell (qa hr).beh;go_simp)⟩) qD ?_;refine C.rd 7 fun K hK=>?_
   go_simp;refine hK.out _ _ qD (fun qD=>?_);clear hK K;refine wpAnyH_done (by kernel_rfl) ?_ _;go_wp2_with fail;go_ret;exact⟨by rw[qa hN];rfl,qD.2⟩
  ·have e5:((place:Int)==5)=false:=by simp;omega
   have hN:Hid (TG=R &&& ~~~own):=qC (by rw[qa hTd,qF h0,qF h5]);clear hTd h0 h5;go_wp2_with fail;go_ret;exact⟨by rw[qa hN];rfl,hg1⟩
def vV(b:Int):BitVec 64:=if 0<=b then 1#64 <<< b.toNat else 0#64
def ZF:Array Value:=#[.int .u64 0,.int .u64 0,.int .u64 0,.int .u64 0,.int .u64 0,.int .u64 0,.int .u64 0,.int .u64 0,.int .u64 0,.int .u64 0,.int .u64 0,.int .u64 0,.bool false,.int .u64 0,.int .u64 0,.int .u64 0,.bool false,.bool false,.bool false,.bool false]
theorem Cb(parts:List (Nat × Value)):Tryz.prog.built 202 parts=Instr.fill (fun i=>(#[(0,12),(12,1),(13,1),(14,1),(15,1),(16,4)]:Array (Nat × Nat))[i]?) ZF parts:=by kernel_rfl
def vC(M:Array Value)(wh:Bool)(own oth beh:BitVec 64)(fc:Nat->Bool):Array Value:=M++#[.bool wh,.int .u64 (U own),.int .u64 (U oth),.int .u64 (U beh),.bool (fc 0),.bool (fc 1),.bool (fc 2),.bool (fc 3)]
theorem xl{M:Array Value}(h:M.size=12){wh:Bool}{own oth beh:BitVec 64}{fc:Nat->Bool}:(vC M wh own oth beh fc).size=20:=by simp[vC,h]
theorem Ef{m:Nat->BitVec 64}{M:Array Value}(h:jS m M)(wh:Bool)(own oth beh:BitVec 64)(fc:Nat->Bool):pO m wh own oth beh fc (vC M wh own oth beh fc):=by
 have hz:=h.1;refine⟨xl h.1,fun i hi=>?_,?_,?_,?_,?_,fun i hi=>?_⟩
 ·rw[vC,Array.getElem?_append_left (by omega)];exact h.2 i hi
 ·rw[vC,Array.getElem?_append_right (by omega),hz];rfl
 ·rw[vC,Array.getElem?_append_right (by omega),hz];rfl
 ·rw[vC,Array.getElem?_append_right (by omega),hz];rfl
 ·rw[vC,Array.getElem?_append_right (by omega),hz];rfl
 ·have:i=0\/i=1\/i=2\/i=3:=by omega
  rcases this with rfl|rfl|rfl|rfl<;>(rw[vC,Array.getElem?_append_right (by omega),hz];rfl)
theorem tI{M:Array Value}(h:M.size=12)(wh:Bool)(own oth beh x:BitVec 64)(fc:Nat->Bool):(vC M wh own oth beh fc).setIfInBounds 15 (.int .u64 (U x))=vC M wh own oth x fc:=by
 apply Array.ext_getElem?;intro i;rw[Array.getElem?_setIfInBounds,xl h];by_cases e:15=i
 ·subst e;rw[qI rfl,qI (by omega),vC,Array.getElem?_append_right (by omega),h];rfl
 ·rw[qF e];unfold vC;by_cases h12:i<12
  ·rw[Array.getElem?_append_left (by omega),Array.getElem?_append_left (by omega)]
  ·rw[Array.getElem?_append_right (by omega),Array.getElem?_append_right (by omega),h];by_cases h20:i<20
   ·have:i=12\/i=13\/i=14\/i=16\/i=17\/i=18\/i=19:=by omega
    rcases this with rfl|rfl|rfl|rfl|rfl|rfl|rfl<;>rfl
   ·rw[Array.getElem?_eq_none (by simp;omega),Array.getElem?_eq_none (by simp;omega)]
theorem Cs:ZF.size=20:=rfl
theorem qzw(M:Array Value)(hM:M.size=12)(wh:Bool)(own oth:BitVec 64)(fc:Nat->Bool) :
  Tryz.prog.built 202 [(0,.agg M),(1,.bool wh),(2,.int .u64 (U own)),(3,.int .u64 (U oth)),(5,.agg #[.bool (fc 0),.bool (fc 1),.bool (fc 2),.bool (fc 3)])]=some (vC M wh own oth 0#64 fc):=by
 rw[Cb];have p0:=zo 0 M ZF;have p1:=zo 12 #[.bool wh] (put 0 M ZF);have p2:=zo 13 #[.int .u64 (U own)] (put 12 #[.bool wh] (put 0 M ZF));have p3:=zo 14 #[.int .u64 (U oth)] (put 13 #[.int .u64 (U own)] (put 12 #[.bool wh] (put 0 M ZF)));have p4:=zo 16 #[.bool (fc 0),.bool (fc 1),.bool (fc 2),.bool (fc 3)] (put 14 #[.int .u64 (U oth)] (put 13 #[.int .u64 (U own)] (put 12 #[.bool wh] (put 0 M ZF))));have z:=Cs
 rw[xv _ _ 0 0 12 _ _ rfl (by simpa[Value.cells]using hM) (by omega),
  xv _ _ 1 12 1 _ _ rfl rfl (by simp only[Value.cells];omega),xv _ _ 2 13 1 _ _ rfl rfl (by simp only[Value.cells];omega),
  xv _ _ 3 14 1 _ _ rfl rfl (by simp only[Value.cells];omega),xv _ _ 5 16 4 _ _ rfl rfl (by simp only[Value.cells];omega)]
 simp only[Instr.fill,Value.cells,Option.some.injEq];apply Array.ext_getElem?;intro i;rw[p4.2 i (by simp;omega),p3.2 i (by simp;omega),p2.2 i (by simp;omega),p1.2 i (by simp;omega),p0.2 i (by omega)];by_cases h12:i<12
 ·rw[qF (by omega),qF (by omega),qF (by omega),qF (by omega),qI ⟨by omega,by omega⟩,vC,Array.getElem?_append_left (by omega)];simp
 ·rw[vC,Array.getElem?_append_right (by omega),hM];by_cases h20:i<20
  ·have:i=12\/i=13\/i=14\/i=15\/i=16\/i=17\/i=18\/i=19:=by omega
   rcases this with rfl|rfl|rfl|rfl|rfl|rfl|rfl|rfl<;>simp[ZF]<;>decide +kernel
  ·rw[qF (by simp;omega),qF (by simp;omega),qF (by simp;omega),qF (by simp;omega),qF (by omega),Array.getElem?_eq_none (by omega),Array.getElem?_eq_none (by simp;omega)]
theorem BB{ops:Array Oper}{o:Oper}{a:Act}{S:World->Prop}(hw:Region.wanted o (yielded ops a.tmps)=true)(t:TypeId)(parts:Array (Nat × Operand))(ho:o.op=.build t parts)(cells:Array Value)
  (hf:Tryz.prog.built t (parts.map fun(i,x)=>(i,a.eval x)).toList=some cells):YieldsIf Tryz.prog ops S o (.agg cells) a:=Or.inl ⟨hw,fun w _=>by
 unfold execOp;simp only[ho,Sem.run_bind,run_build w t _ cells hf,Result.andThen_ok];rfl⟩
structure ar(z:Nat->UInt8)(wh:Bool)(fc:Nat->Bool)(w:World)(PA:Array Value)(B3:Nat)(M:Array Value)(W:World):Prop where
 pa:W.heap[w.heap.size]?=some (.cells PA 70)
 me:vh B3 M W
 res:W.heap[w.heap.size+1]?=some (.cells ZF 202)
 gr:Gr w W
 wh:W.cell? ⟨w.heap.size,64,none⟩=some (.bool wh)
 c0:W.cell? ⟨w.heap.size,65,none⟩=some (.bool (fc 0))
 c1:W.cell? ⟨w.heap.size,66,none⟩=some (.bool (fc 1))
 c2:W.cell? ⟨w.heap.size,67,none⟩=some (.bool (fc 2))
 c3:W.cell? ⟨w.heap.size,68,none⟩=some (.bool (fc 3))
section
variable {z:Nat->UInt8}{wh:Bool}{fc:Nat->Bool}{w W W':World}{PA:Array Value}{B3:Nat}{M:Array Value}
theorem ar.next(h:ar z wh fc w PA B3 M W)(g:Gr W W'):ar z wh fc w PA B3 M W':=by
 have hb:=(qB.1 h.pa).1;have hc:∀i,W'.cell? ⟨w.heap.size,i,none⟩=W.cell? ⟨w.heap.size,i,none⟩:=fun i=>Below.cell g (p:=⟨w.heap.size,i,none⟩) hb
 exact⟨(Below.block g _ hb).trans h.pa,h.me.gr g,(Below.block g _ (qB.1 h.res).1).trans h.res,Gr.trans h.gr g,by rw[hc];exact h.wh,by rw[hc];exact h.c0,by rw[hc];exact h.c1,by rw[hc];exact h.c2,by rw[hc];exact h.c3⟩
theorem ar.drew(h:ar z wh fc w PA B3 M W):ar z wh fc w PA B3 M W.drew:=h.next (Gr.refl _).drew
theorem ar.alloc(h:ar z wh fc w PA B3 M W)(A:Array Value)(t:TypeId):ar z wh fc w PA B3 M (W.alloc (.cells A t)):=h.next ((Gr.refl _).alloc _ _)
theorem fS(h:ar z wh fc w PA B3 M W):(W.alloc (.cells ZF 202)).heap[W.heap.size]?=some (.cells ZF 202)/\w.heap.size+1<W.heap.size/\B3<W.heap.size :=
 ⟨World.alloc_heap_new _ _,(qB.1 h.res).1,h.me.1⟩
theorem ar.put(h:ar z wh fc w PA B3 M W){g:Nat}(hg:w.heap.size+1<g)(h3:B3<g)(A:Array Value):ar z wh fc w PA B3 M (W.setRow g A):=by
 have hc:∀i,(W.setRow g A).cell? ⟨w.heap.size,i,none⟩=W.cell? ⟨w.heap.size,i,none⟩:=fun i=>cell_setRow_other _ _ _ _ (show w.heap.size≠g by omega)
 exact⟨by rw[setRow_other _ _ _ _ (by omega)];exact h.pa,⟨by rw[size_setRow];exact h.me.1,fun j v hv=>by rw[cell_setRow_other _ _ _ _ (show B3≠g by omega)];exact h.me.2.1 j v hv,h.me.2.2⟩,by rw[setRow_other _ _ _ _ (by omega)];exact h.res,h.gr.setRow _ (by omega) _,by rw[hc];exact h.wh,by rw[hc];exact h.c0,by rw[hc];exact h.c1,by rw[hc];exact h.c2,by rw[hc];exact h.c3⟩
end
theorem Ep{z:Nat->UInt8}{wh:Bool}{fc:Nat->Bool}{b h g:Int}{PA:Array Value}(r:jE z wh fc b h g PA):(PA.toList.take 64).toArray.size=64/\∀i,i<64->(PA.toList.take 64).toArray[i]?=some (.int .u8 ((z i).toNat:Int)):=by
 refine⟨by simp[r.size],fun i hi=>?_⟩;rw[List.getElem?_toArray,List.getElem?_take,qI hi,qO];exact r.sq i hi
theorem aJ{z:Nat->UInt8}{wh:Bool}{fc:Nat->Bool}{b h g:Int}{PA:Array Value}(r:jE z wh fc b h g PA)(hok:xO z=true)(hb0:-1<=b)(hb1:b<=63)(w:World):Calls Tryz.prog 129 #[.agg PA] w fun e w'=>∃FA,e=.returned (.agg FA)/\pO (xD z 64) wh (xZ (xD z 64) wh) (xZ (xD z 64) (!wh)) (vV b) fc FA/\Gr w w':=by
 obtain⟨bs,bA⟩:=Ep r;have hlay:=qC (fun W=>db hok bs bA W);obtain⟨x1,x2⟩:=x6 w (.cells PA 70) (.cells ZF 202);have hg2:Gr w ((w.alloc (.cells PA 70)).alloc (.cells ZF 202)):=((Gr.refl w).alloc _ _).alloc _ _;have hs2:((w.alloc (.cells PA 70)).alloc (.cells ZF 202)).heap.size=w.heap.size+2:=by simp
 have hmid:((w.alloc (.cells PA 70)).alloc (.cells ZF 202)).rangeAt w.heap.size 0 (PA.toList.take 64):=fun j v hv=>by
  rw[cell_of_row _ _ _ _ _ _ x1,Nat.zero_add];rw[List.getElem?_take]at hv;split at hv
  ·rw[<-qO];exact hv
  ·cases hv
 have hi64:(Tryz.prog.info? 67).map (·.size)=some (PA.toList.take 64).length:=by rw[x7];simp[r.size]
 have hr:=qC r;clear r;generalize (PA.toList.take 64)=L at hlay hmid hi64;go_enter Tryz.func129,Tryz.ntmps129
 go_upto_region 2 with(first
  | (go_at_call 126;refine(qa hlay _).mono ?_;rintro e w3 ⟨M,rfl,hM,hg3⟩)
  | (refine wpList_load_mid rfl 67 _ rfl w.heap.size 0 rfl L _ hmid Tryz.underlying67 rfl hi64 ?_)
  | (refine wpList_store_row rfl 197 _ _ rfl _ M rfl rfl 197 yI (World.alloc_heap_new _ _) hM.info hM.1.symm hM.ones ?_))
 have hMs:=qC hM.1;have hM':=qC hM;generalize hX3:w3.heap.size=B3;have hB3:w.heap.size+2<=B3:=by rw[<-hX3,<-hs2];exact Below.size hg3
 have hF4:ar z wh fc w PA B3 M ((w3.alloc (.cells yI 197)).setRow w3.heap.size M):=by
  have y1:=(Below.block hg3 w.heap.size (show w.heap.size<((w.alloc (.cells PA 70)).alloc (.cells ZF 202)).heap.size by rw[hs2];omega)).trans x1;have y2:=(Below.block hg3 (w.heap.size+1) (show w.heap.size+1<((w.alloc (.cells PA 70)).alloc (.cells ZF 202)).heap.size by rw[hs2];omega)).trans x2;have hg4:Gr w3 ((w3.alloc (.cells yI 197)).setRow w3.heap.size M):=((Gr.refl w3).alloc _ _).setRow _ (qL _) _;have k1:=(Below.block hg4 _ (by omega)).trans y1;have k2:=(Below.block hg4 _ (by omega)).trans y2;refine⟨k1,?_,k2,Gr.trans (Gr.trans hg2 hg3) hg4,?_,?_,?_,?_,?_⟩
  ·rw[<-hX3];exact jt (setRow_heap _ _ _ _ _ _ (World.alloc_heap_new _ _)) hM.1
  ·rw[cell_of_row _ _ _ _ _ _ k1];exact(qa hr).wh
  ·rw[cell_of_row _ _ _ _ _ _ k1];exact(qa hr).c 0 (by omega)
  ·rw[cell_of_row _ _ _ _ _ _ k1];exact(qa hr).c 1 (by omega)
  ·rw[cell_of_row _ _ _ _ _ _ k1];exact(qa hr).c 2 (by omega)
  ·rw[cell_of_row _ _ _ _ _ _ k1];exact(qa hr).c 3 (by omega)
 rw[hX3]at hF4;show Code.wp _ _ _ _ ((w3.alloc (.cells yI 197)).setRow B3 M);generalize (w3.alloc (.cells yI 197)).setRow B3 M=w4 at hF4 ⊢
 have hon:Hid ((vC M wh (xZ (xD z 64) wh) (xZ (xD z 64) (!wh)) 0#64 fc).all (·.oneCell')=true):=qC (by
  unfold vC;rw[Array.all_append,hM.ones];simp[Value.oneCell'])
 have hsd:=qC (fun W=>jp (xD z 64) M hM wh W);have hsd2:=qC (fun W=>jp (xD z 64) M hM (!wh) W);have hfin:Hid (∀x:BitVec 64,pO (xD z 64) wh (xZ (xD z 64) wh) (xZ (xD z 64) (!wh)) x fc (vC M wh (xZ (xD z 64) wh) (xZ (xD z 64) (!wh)) x fc)):=qC (fun x=>Ef hM wh _ _ x fc);clear hM hmid hi64 hlay bs bA x1 x2 hg2 hs2 hg3 hX3;generalize hOW:xZ (xD z 64) wh=OW at hsd hfin hon;generalize hOT:xZ (xD z 64) (!wh)=OT at hsd2 hfin hon;have hOW':=qC hOW;have hOT':=qC hOT;clear hOW hOT;go_cut [5]from 12 to 26 (fun s5 wx=>∃B5,s5=.pointer (some ⟨B5,0,none⟩)/\wx.heap[B5]?=some (.cells (vC M wh OW OT 0#64 fc) 202)/\w.heap.size+1<B5/\ar z wh fc w PA B3 M wx)
 case first =>
  refine wp_region_held_drew (S:=ar z wh fc w PA B3 M) (by kernel_rfl) hF4.drew (fun qD=>?_);refine C.ty 0 (.agg M) rfl (pd (qa hMs) (by rfl) _ rfl B3 rfl (fun _ h=>h.me)) qD ?_;refine C.ty 1 (.pointer (some ⟨w.heap.size,64,none⟩)) rfl (Or.inl ⟨by rfl,fun w hw=>(by have c64:=hw.wh;have c65:=hw.c0;have c66:=hw.c1;have c67:=hw.c2;have c68:=hw.c3;go_simp)⟩) qD ?_;refine C.ty 2 (.bool wh) rfl (Or.inl ⟨by rfl,fun w hw=>(by have c64:=hw.wh;have c65:=hw.c0;have c66:=hw.c1;have c67:=hw.c2;have c68:=hw.c3;go_simp)⟩) qD ?_;refine C.ty 3 (.agg M) rfl (pd (qa hMs) (by rfl) _ rfl B3 rfl (fun _ h=>h.me)) qD ?_;refine C.ty 4 (.pointer (some ⟨w.heap.size,64,none⟩)) rfl (Or.inl ⟨by rfl,fun w hw=>(by have c64:=hw.wh;have c65:=hw.c0;have c66:=hw.c1;have c67:=hw.c2;have c68:=hw.c3;go_simp)⟩) qD ?_;refine C.ty 5 (.bool wh) rfl (Or.inl ⟨by rfl,fun w hw=>(by have c64:=hw.wh;have c65:=hw.c0;have c66:=hw.c1;have c67:=hw.c2;have c68:=hw.c3;go_simp)⟩) qD ?_;refine C.ty 7 (.agg M) rfl (pd (qa hMs) (by rfl) _ rfl B3 rfl (fun _ h=>h.me)) qD ?_;refine C.ty 8 (.pointer (some ⟨w.heap.size,64,none⟩)) rfl (Or.inl ⟨by rfl,fun w hw=>(by have c64:=hw.wh;have c65:=hw.c0;have c66:=hw.c1;have c67:=hw.c2;have c68:=hw.c3;go_simp)⟩) qD ?_;refine C.ty 9 (.bool wh) rfl (Or.inl ⟨by rfl,fun w hw=>(by have c64:=hw.wh;have c65:=hw.c0;have c66:=hw.c1;have c67:=hw.c2;have c68:=hw.c3;go_simp)⟩) qD ?_;refine C.ty 10 (.bool (!wh)) rfl (Or.inl ⟨by rfl,fun w hw=>(by have c64:=hw.wh;have c65:=hw.c0;have c66:=hw.c1;have c67:=hw.c2;have c68:=hw.c3;go_simp)⟩) qD ?_;refine C.ty 12 (.pointer (some ⟨w.heap.size,65,none⟩)) rfl (Or.inl ⟨by rfl,fun w hw=>(by have c64:=hw.wh;have c65:=hw.c0;have c66:=hw.c1;have c67:=hw.c2;have c68:=hw.c3;go_simp)⟩) qD ?_;refine C.ty 13 (.agg #[.bool (fc 0),.bool (fc 1),.bool (fc 2),.bool (fc 3)]) rfl (Or.inl ⟨by rfl,fun w hw=>(by have c64:=hw.wh;have c65:=hw.c0;have c66:=hw.c1;have c67:=hw.c2;have c68:=hw.c3;go_simp)⟩) qD ?_;refine wpAnyH_ready (rs:=[6,15]) (by kernel_rfl) (by simp) ?_;refine AllReadyH.cons rfl (fun K hK=>?_) (AllReadyH.cons rfl (fun K hK=>?_) AllReadyH.nil)
  ·go_simp;refine(qa hsd _).mono ?_;rintro e wa ⟨rfl,hga⟩;refine hK.out _ _ (qD.next hga) (fun qD=>?_);clear hK K hga;refine wpAnyH_ready (rs:=[11,15]) (by kernel_rfl) (by simp) ?_;refine AllReadyH.cons rfl (fun K hK=>?_) (AllReadyH.cons rfl (fun K hK=>?_) AllReadyH.nil)
   ·go_simp;refine(qa hsd2 _).mono ?_;rintro e wa ⟨rfl,hga⟩;refine hK.out _ _ (qD.next hga) (fun qD=>?_);clear hK K hga;refine C.ty 14 (.agg (vC M wh OW OT 0#64 fc)) rfl (BB (by rfl) 202 #[(0,.tmp 12),(1,.tmp 14),(2,.tmp 18),(3,.tmp 23),(5,.tmp 25)] rfl _ (by simp only[List.map_toArray,List.map_cons,List.map_nil];exact qzw M (qa hMs) wh OW OT fc)) qD ?_;refine C.rd 15 fun K hK=>?_
    go_simp;have hOld:=qD;refine hK.out _ _ (qD.alloc _ _) (fun qD=>?_);have h5:=fS hOld;clear hK K hOld;refine C.rd 16 fun K hK=>?_
    rw[qI (by rfl)];refine wp_store_row 202 _ _ rfl _ (vC M wh OW OT 0#64 fc) rfl rfl 202 ZF h5.1 (by rw[xl (qa hMs)];exact ky) (by rw[xl (qa hMs)];rfl) (qa hon) ?_;refine hK.out _ _ (qD.put h5.2.1 h5.2.2 _) (fun qD=>?_);clear hK K;simp only[C.py];refine wpAnyH_done (by kernel_rfl) ?_ _;go_wp2_with fail;go_meet
    case rel=>exact⟨_,rfl,setRow_heap _ _ _ _ _ _ h5.1,h5.2.1,qD⟩
   ·go_simp;have hOld:=qD;refine hK.out _ _ (qD.alloc _ _) (fun qD=>?_);have h5:=fS hOld;clear hK K hOld;refine C.rd 11 fun K hK=>?_
    go_simp;refine(qa hsd2 _).mono ?_;rintro e wa ⟨rfl,hga⟩;refine hK.out _ _ (qD.next hga) (fun qD=>?_);replace h5:=And.intro ((Below.block hga _ (qB.1 h5.1).1).trans h5.1) h5.2;clear hK K hga;refine C.ty 14 (.agg (vC M wh OW OT 0#64 fc)) rfl (BB (by rfl) 202 #[(0,.tmp 12),(1,.tmp 14),(2,.tmp 18),(3,.tmp 23),(5,.tmp 25)] rfl _ (by simp only[List.map_toArray,List.map_cons,List.map_nil];exact qzw M (qa hMs) wh OW OT fc)) qD ?_;refine C.rd 16 fun K hK=>?_
    rw[qI (by rfl)];refine wp_store_row 202 _ _ rfl _ (vC M wh OW OT 0#64 fc) rfl rfl 202 ZF h5.1 (by rw[xl (qa hMs)];exact ky) (by rw[xl (qa hMs)];rfl) (qa hon) ?_;refine hK.out _ _ (qD.put h5.2.1 h5.2.2 _) (fun qD=>?_);clear hK K;simp only[C.py];refine wpAnyH_done (by kernel_rfl) ?_ _;go_wp2_with fail;go_meet
    case rel=>exact⟨_,rfl,setRow_heap _ _ _ _ _ _ h5.1,h5.2.1,qD⟩
  ·go_simp;have hOld:=qD;refine hK.out _ _ (qD.alloc _ _) (fun qD=>?_);have h5:=fS hOld;clear hK K hOld;refine C.rd 6 fun K hK=>?_
   go_simp;refine(qa hsd _).mono ?_;rintro e wa ⟨rfl,hga⟩;refine hK.out _ _ (qD.next hga) (fun qD=>?_);replace h5:=And.intro ((Below.block hga _ (qB.1 h5.1).1).trans h5.1) h5.2;clear hK K hga;refine C.rd 11 fun K hK=>?_
   go_simp;refine(qa hsd2 _).mono ?_;rintro e wa ⟨rfl,hga⟩;refine hK.out _ _ (qD.next hga) (fun qD=>?_);replace h5:=And.intro ((Below.block hga _ (qB.1 h5.1).1).trans h5.1) h5.2;clear hK K hga;refine C.ty 14 (.agg (vC M wh OW OT 0#64 fc)) rfl (BB (by rfl) 202 #[(0,.tmp 12),(1,.tmp 14),(2,.tmp 18),(3,.tmp 23),(5,.tmp 25)] rfl _ (by simp only[List.map_toArray,List.map_cons,List.map_nil];exact qzw M (qa hMs) wh OW OT fc)) qD ?_;refine C.rd 16 fun K hK=>?_
   rw[qI (by rfl)];refine wp_store_row 202 _ _ rfl _ (vC M wh OW OT 0#64 fc) rfl rfl 202 ZF h5.1 (by rw[xl (qa hMs)];exact ky) (by rw[xl (qa hMs)];rfl) (qa hon) ?_;refine hK.out _ _ (qD.put h5.2.1 h5.2.2 _) (fun qD=>?_);clear hK K;simp only[C.py];refine wpAnyH_done (by kernel_rfl) ?_ _;go_wp2_with fail;go_meet
   case rel=>exact⟨_,rfl,setRow_heap _ _ _ _ _ _ h5.1,h5.2.1,qD⟩
 case rest =>
  obtain⟨B5,rfl,h5,hB5,hF⟩:=hcut;have hFb:Hid (ar z wh fc w PA B3 M wc):=qC hF;have cb:wc.cell? ⟨w.heap.size,69,none⟩=some (.int .i64 b):=by rw[cell_of_row _ _ _ _ _ _ hF.pa];exact(qa hr).b
  have hres:=hF.res;have hgw:=hF.gr;clear hF hsd hsd2 hF4;by_cases hb:0<=b
  ·obtain⟨n,rfl⟩:∃n:Nat,b=(n:Int):=⟨b.toNat,by omega⟩;have hn:n<64:=by omega
   have hone:=qC (fun W=>A9 (n:Int) (by omega) (by omega) W);rw[rp n hn]at hone;have hbe:Hid (vV (n:Int)=1#64 <<< n):=qC (by unfold vV;rw[qI hb];simp);have c5:wc.cell? ⟨B5,15,none⟩=some (.int .u64 (U 0#64)):=by rw[cell_of_row _ _ _ _ _ _ h5,vC,Array.getElem?_append_right (by rw[qa hMs];omega),qa hMs];rfl
   have f5:wc.frozen? ⟨B5,15,none⟩=false:=by simp[World.frozen?,h5]
   have h52:(wc.setCell ⟨B5,15,none⟩ (.int .u64 (U (1#64 <<< n)))).heap[B5]?=some (.cells (vC M wh OW OT (1#64 <<< n) fc) 202):=by
    rw[qv h5,tI (qa hMs)]
   have hres2:(wc.setCell ⟨B5,15,none⟩ (.int .u64 (U (1#64 <<< n)))).heap[w.heap.size+1]?=some (.cells ZF 202):=by rw[Below.heap_setCell _ _ _ _ (show w.heap.size+1≠B5 by omega)];exact hres
   have hgw2:Gr w (wc.setCell ⟨B5,15,none⟩ (.int .u64 (U (1#64 <<< n)))):=Below.setCell hgw (show w.heap.size<=B5 by omega) _
   have ho2:Hid ((vC M wh OW OT (1#64 <<< n) fc).all (·.oneCell')=true):=qC (by
    have:=qa hon;unfold vC at this ⊢;rw[Array.all_append]at this ⊢;simp[Value.oneCell']at this ⊢;exact this)
   go_upto_region 5 with(go_at_call 204;refine(qa hone _).mono ?_;rintro e wo ⟨rfl,hww⟩;have hww':=hww.symm;subst hww';clear hww);generalize (wc.setCell ⟨B5,15,none⟩ (.int .u64 (U (1#64 <<< n))))=wz at h52 hres2 hgw2 ⊢;have hi2:(Tryz.prog.info? 202).map (·.size)=some (vC M wh OW OT (1#64 <<< n) fc).size:=by rw[xl (qa hMs)];exact ky
   have hz2:ZF.size=(vC M wh OW OT (1#64 <<< n) fc).size:=by rw[xl (qa hMs)];rfl
   have hFl:=qC (qa hfin (1#64 <<< n));generalize vC M wh OW OT (1#64 <<< n) fc=F2 at h52 hi2 hz2 ho2 hFl;go_wp2_with(first|(refine wpList_load_row rfl 202 _ rfl B5 rfl 202 F2 (0,0) _ h52 Tryz.underlying202 rfl hi2 ?_)|(refine wpList_store_row rfl 202 _ _ rfl (w.heap.size+1) F2 rfl rfl 202 ZF hres2 hi2 hz2 (qa ho2) ?_));exact bodyPost_ret (v:=.agg F2) (results_cell_row Tryz.results129 _ _ (w.heap.size+1) 202 F2 (0,0) _ rfl (setRow_heap _ _ _ _ _ _ hres2) Tryz.underlying202 rfl hi2) rfl ⟨F2,rfl,(by rw[qa hbe,qa hOW',qa hOT'];exact qa hFl),hgw2.setRow _ (by omega) _⟩
  ·have hbm:b=-1:=by omega
   have hbe:Hid (vV b=0#64):=qC (by unfold vV;rw[qF hb]);have hi2:(Tryz.prog.info? 202).map (·.size)=some (vC M wh OW OT 0#64 fc).size:=by rw[xl (qa hMs)];exact ky
   have hz2:ZF.size=(vC M wh OW OT 0#64 fc).size:=by rw[xl (qa hMs)];rfl
   have hFl:=qC (qa hfin 0#64);have hb2:decide (0<=b)=false:=by simp;omega
   clear hbm hb hfin;generalize vC M wh OW OT 0#64 fc=F2 at h5 hi2 hz2 hon hFl;go_wp2_with(first|(refine wpList_load_row rfl 202 _ rfl B5 rfl 202 F2 (0,0) _ h5 Tryz.underlying202 rfl hi2 ?_)|(refine wpList_store_row rfl 202 _ _ rfl (w.heap.size+1) F2 rfl rfl 202 ZF hres hi2 hz2 (qa hon) ?_));exact bodyPost_ret (v:=.agg F2) (results_cell_row Tryz.results129 _ _ (w.heap.size+1) 202 F2 (0,0) _ rfl (setRow_heap _ _ _ _ _ _ hres) Tryz.underlying202 rfl hi2) rfl ⟨F2,rfl,(by rw[qa hbe,qa hOW',qa hOT'];exact qa hFl),hgw.setRow _ (by omega) _⟩
end Go.Proofs.YtnfakamfmkhlbabGreatDoor.C
