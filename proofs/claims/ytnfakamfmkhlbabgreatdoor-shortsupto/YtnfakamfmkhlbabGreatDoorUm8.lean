import Derived.Test.YtnfakamfmkhlbabGreatDoorUm2
import Derived.Test.YtnfakamfmkhlbabGreatDoorUm1
import Derived.Shelf.RegionOpen
import Derived.LoopNIn
import Derived.LoopIn
import Derived.Lib.SlBytesConst
import Derived.WalkKit
import Derived.ProofKit
import Derived.OpenShut
import Derived.WalkLawsBesides
import Derived.LoopTactic
import Derived.Deep.LoopGhost
import Derived.Deep.QuietTactic
import Derived.BigQuiet
import Derived.Below
import Derived.Laws.Rows
import Derived.Deep.MidRow
import Derived.Deep.RegionHeld3
import Derived.OrdersHeld
import Derived.Deep.Cut
import Derived.Test.YtnfakamfmkhlbabGreatDoorUm3
import Derived.Test.YtnfakamfmkhlbabGreatDoorUm7
import Derived.Test.YtnfakamfmkhlbabGreatDoorKz2
import Derived.Test.YtnfakamfmkhlbabGreatDoorKz3
set_option maxRecDepth 100000
set_option maxHeartbeats 4000000
set_option linter.unusedSimpArgs false
namespace Go.Proofs.YtnfakamfmkhlbabGreatDoor.C
open Go.ChangeShapes Go.WideShapes Go.ChangeAt Go.RowKit Go.Shelf Go.Proofs.YtnfakamfmkhlbabGreatDoor.P
section
attribute [local go_sem] Oper.semAt_some
abbrev Mv:=Nat × Nat × UInt8
def gJ(x:Mv):Value:=.agg #[.int .i64 (x.1:Int),.int .i64 (x.2.1:Int),.int .u8 (x.2.2.toNat:Int)]
def vr(x:Mv):Array Value:=#[gJ x]
def kP:BitVec 64:=18374686479671623935#64
def xT(pawn:Bool)(f t:Nat):List Mv:=if pawn&&kP.getLsbD t then[(f,t,113),(f,t,114),(f,t,98),(f,t,110)]else[(f,t,0)]
theorem zw(k:FuncId):Fence.wide.fn k:=trivial
theorem aB:∀t,t<64->bits .and .u64 (U (1#64 <<< t)) 18374686479671623935=if kP.getLsbD t then U (1#64 <<< t)else 0:=by decide +kernel
theorem sE:∀t,t<64->U (1#64 <<< t)≠0:=by decide +kernel
theorem AL(place f t:Nat)(hp:place<6)(ht:t<64)(hn:(decide (place=0)&&kP.getLsbD t)=false)(l B:Nat)(T:Obj->Prop)(C:Nat->Prop)(J Jx:List Mv->World->Prop)(pre:List Mv)(W:World)
  (hY:YieldAt Fence.wide 0 Tryz.prog l (vr (f,t,0)) W fun e W'=>Fr (jM B T C) W W'/\((e=.returned (.bool true)/\J (pre++[(f,t,0)]) W')\/(e=.returned (.bool false)/\Jx (pre++[(f,t,0)]) W'))) :
  Calls Tryz.prog 135 #[.int .i64 (place:Int),.int .i64 (f:Int),.int .i64 (t:Int),.func (.yield l) #[] #[]] W fun e W'=>Fr (jM B T C) W W'/\((e=.returned (.bool true)/\J (pre++[(f,t,0)]) W')\/(e=.returned (.bool false)/\Jx (pre++[(f,t,0)]) W')):=by
 obtain⟨fn,tmps,assign,body,hy,hR⟩:=hY;have hone:=qC (fun W=>A9 (t:Int) (by omega) (by omega) W);rw[rp t ht]at hone;have hla:=aB t ht;have hne:=sE t ht;have hy':(Instr.yield l #[.agg #[.int .i64 (f:Int),.int .i64 (t:Int),.int .u8 0]]).run Tryz.prog W=.ok (.round l fn tmps assign body) W:=hy;clear hy;refine(callsIn_wide (n:=1)).1 ?_;refine callsIn_of_wp Tryz.func135 rfl trivial ?_ rfl;simp only[Tryz.ntmps135,List.size_toArray,List.length_cons,List.length_nil,Nat.reduceAdd,Nat.reduceSub,Array.replicate_succ,Array.replicate_zero,List.push_toArray,List.append_toArray,List.nil_append,List.cons_append];by_cases h0:place=0
 ·subst h0;have hz:kP.getLsbD t=false:=by simpa using hn
  rw[hz]at hla;simp only[qR,if_false]at hla;clear hz hn hne;gi_wp2_with (refine⟨trivial,?_⟩;gi_at_call 204;refine(callsIn_wide.2 (qa hone _)).mono ?_;rintro e w' ⟨rfl,rfl⟩);refine hR.mono ?_;rintro e W3 ⟨f3,⟨rfl,hJ3⟩|⟨rfl,hJx3⟩⟩
  ·gi_wp2;go_ret;exact⟨f3,.inl ⟨rfl,hJ3⟩⟩
  ·gi_wp2;go_ret;exact⟨f3,.inr ⟨rfl,hJx3⟩⟩
 ·clear hn hla hne;have h0':((place:Int) != 0)=true:=by simp;omega
  gi_wp2_with (with_reducible refine And.intro (zw _) ?_);refine hR.mono ?_;rintro e W3 ⟨f3,⟨rfl,hJ3⟩|⟨rfl,hJx3⟩⟩
  ·gi_wp2;go_ret;exact⟨f3,.inl ⟨rfl,hJ3⟩⟩
  ·gi_wp2;go_ret;exact⟨f3,.inr ⟨rfl,hJx3⟩⟩
def uA(k:Nat):UInt8:=if k=0 then 113 else if k=1 then 114 else if k=2 then 98 else 110
theorem row4{W:World}{b:Nat}(h:W.heap[b]?=some (.cells #[.int .u8 113,.int .u8 114,.int .u8 98,.int .u8 110] 5 (4,5)))(k:Nat)(hk:k<4):W.cell? ⟨b,k,none⟩=some (.int .u8 ((uA k).toNat:Int)):=by
 have:k=0\/k=1\/k=2\/k=3:=by omega
 rcases this with rfl|rfl|rfl|rfl<;>(simp only[World.cell?];rw[h];rfl)
theorem oC(f t:Nat)(ht:t<64)(hn:kP.getLsbD t=true)(l B:Nat)(T:Obj->Prop)(C:Nat->Prop)(hT:∀c fr,¬ T (.cells c 5 fr))(J Jx:List Mv->World->Prop)(hJ:vu B T J)(pre:List Mv)(W:World)(hB:B<=W.heap.size)
  (hY:∀k W1,k<4->J (pre++(List.range k).map fun i=>(f,t,uA i)) W1->YieldAt Fence.wide 0 Tryz.prog l (vr (f,t,uA k)) W1 fun e W'=>Fr (jM B T C) W1 W'/\((e=.returned (.bool true)/\J (pre++(List.range (k+1)).map fun i=>(f,t,uA i)) W')\/(e=.returned (.bool false)/\Jx (pre++(List.range (k+1)).map fun i=>(f,t,uA i)) W'))) (h0:J pre W) :
  Calls Tryz.prog 135 #[.int .i64 0,.int .i64 (f:Int),.int .i64 (t:Int),.func (.yield l) #[] #[]] W fun e W'=>Fr (jM B T C) W W'/\((e=.returned (.bool true)/\J (pre++(List.range 4).map fun i=>(f,t,uA i)) W')\/(e=.returned (.bool false)/\∃k,k<4/\Jx (pre++(List.range (k+1)).map fun i=>(f,t,uA i)) W')):=by
 have hone:=qC (fun W=>A9 (t:Int) (by omega) (by omega) W);rw[rp t ht]at hone;have hla:=aB t ht;have hne:(U (1#64 <<< t)==0)=false:=by have:=sE t ht;simpa using this
 rw[hn,qI rfl]at hla;refine(callsIn_wide (n:=1)).1 ?_;refine callsIn_of_wp Tryz.func135 rfl trivial ?_ rfl;simp only[Tryz.ntmps135,List.size_toArray,List.length_cons,List.length_nil,Nat.reduceAdd,Nat.reduceSub,Array.replicate_succ,Array.replicate_zero,List.push_toArray,List.append_toArray,List.nil_append,List.cons_append];have hcv:=fun(w:World)(C:Array Value)(n c:Nat)=>Lib.run_convert_bytes_const (P:=Tryz.prog) w 145 5 C n c Tryz.underlying145 Tryz.underlying5
 gi_wp2_with (refine⟨trivial,?_⟩;gi_at_call 204;refine(callsIn_wide.2 (qa hone _)).mono ?_;rintro e w' ⟨rfl,rfl⟩);clear hcv hone hla hne;generalize hwb:w'.alloc (.cells #[.int .u8 113,.int .u8 114,.int .u8 98,.int .u8 110] 5 (4,5))=wb;have hblk:wb.heap[w'.heap.size]?=some (.cells #[.int .u8 113,.int .u8 114,.int .u8 98,.int .u8 110] 5 (4,5)):=by rw[<-hwb];exact World.alloc_heap_new _ _
 have fb:∀Q:Nat->Obj->Prop,Fr Q w' wb:=fun Q=>by rw[<-hwb];exact(Fr.refl _ _).alloc _
 have hJ0:=hJ _ _ _ h0 (fb _);generalize w'.heap.size=Bb at hblk hB ⊢;gi_loopw [27] (fun p wr=>∃k:Nat,k<=4/\p=.int .i64 (k:Int)/\J (pre++(List.range k).map fun i=>(f,t,uA i)) wr/\Fr (jM B T C) w' wr/\wr.heap[Bb]?=some (.cells #[.int .u8 113,.int .u8 114,.int .u8 98,.int .u8 110] 5 (4,5))) (fun p _=>4-(intOf p).toNat)
 case atStart=>exact⟨0,by omega,rfl,by simpa using hJ0,fb _,hblk⟩
 case round =>
  obtain⟨k,hk,rfl,hJk,fk,hbk⟩:=hrel;by_cases h4:k<4
  ·have hck:=row4 hbk k h4;obtain⟨fn,tmps,assign,body,hy,hR⟩:=hY k wr h4 hJk;have hy':(Instr.yield l #[.agg #[.int .i64 (f:Int),.int .i64 (t:Int),.int .u8 ((uA k).toNat:Int)]]).run Tryz.prog wr=.ok (.round l fn tmps assign body) wr:=hy;clear hy;gi_wp2;refine hR.mono ?_;rintro e W3 ⟨f3,⟨rfl,hJ3⟩|⟨rfl,hJx3⟩⟩
   ·gi_wp2;go_roundw
    case rel =>
     refine⟨k+1,by omega,by go_num,hJ3,fk.trans f3,f3.same _ _ hbk (.inr ⟨?_,hT _ _⟩)⟩;have:=(qB.1 hblk).1;exact hB
    case measure=>simp only[intOf];omega
   ·gi_wp2;go_ret;exact⟨fk.trans f3,.inr ⟨rfl,k,h4,hJx3⟩⟩
  ·have:k=4:=by omega
   subst this;gi_wp2;go_ret;exact⟨fk,.inl ⟨rfl,hJk⟩⟩
end
section
attribute [local go_sem] qd qe
structure pO(m:Nat->BitVec 64)(wh:Bool)(own oth beh:BitVec 64)(fc:Nat->Bool)(FA:Array Value):Prop where
 size:FA.size=20
 men:∀i,i<12->FA[i]?=some (.int .u64 (U (m i)))
 wh:FA[12]?=some (.bool wh)
 own:FA[13]?=some (.int .u64 (U own))
 oth:FA[14]?=some (.int .u64 (U oth))
 beh:FA[15]?=some (.int .u64 (U beh))
 c:∀i,i<4->FA[16+i]?=some (.bool (fc i))
theorem ky:(Tryz.prog.info? 202).map (·.size)=some 20:=by kernel_rfl
def yk(b:Nat)(A:Array Value)(w:World):Prop:=b<w.heap.size/\w.rangeAt b 0 A.toList
theorem yk.gr{b:Nat}{A:Array Value}{w w':World}(h:yk b A w)(g:Gr w w'):yk b A w' :=
 ⟨qN h.1 (Below.size g),fun j v hv=>(Below.cell g (p:=⟨b,0+j,none⟩) h.1).trans (h.2 j v hv)⟩
theorem yk.cell{b:Nat}{A:Array Value}{w:World}(h:yk b A w){i:Nat}{v:Value}(hv:A[i]?=some v):w.cell? ⟨b,i,none⟩=some v:=by
 have:=h.2 i v (by rw[qO];exact hv)
 rwa[Nat.zero_add]at this
theorem yk.new(w:World)(A:Array Value)(t:TypeId):yk w.heap.size A (w.alloc (.cells A t)):=⟨by rw[World.size_alloc];omega,fun j v hv=>by
 rw[World.cell?_alloc_at _ _ _ _ rfl,Nat.zero_add,<-qO];exact hv⟩
theorem yk.take{b:Nat}{A:Array Value}{w:World}(h:yk b A w)(n:Nat):w.rangeAt b 0 (A.toList.take n):=fun j v hv=>h.2 j v (by
 rw[List.getElem?_take]at hv;split at hv
 ·exact hv
 ·cases hv)
theorem cX{ops:Array Oper}{op:Oper}{a:Act}{FA:Array Value}(hz:FA.size=20){S:World->Prop}(hw:Region.wanted op (yielded ops a.tmps)=true)(x:Operand)(ho:op.op=.load 202 x)(b:Nat)(hx:a.eval x=.pointer (some ⟨b,0,none⟩))(hS:∀w,S w->yk b FA w):YieldsIf Tryz.prog ops S op (.agg FA) a:=by
 have:=yieldsIf_load_mid (P:=Tryz.prog) hw 202 x ho b 0 hx FA.toList _ (fun w h=>(hS w h).2) Tryz.underlying202 rfl (by rw[ky];simp[hz])
 rwa[Array.toArray_toList]at this
theorem jd{ops:Array Oper}{rest:List Oper}{o:Oper}{a:Act}{w:World}{A:Array Value}{Q:Exit->Act->World->Prop}(hw:Region.wanted o (yielded ops a.tmps)=true)(x:Operand)(ho:o.op=.load 202 x)(b:Nat)(hx:a.eval x=.pointer (some ⟨b,0,none⟩))(hz:A.size=20)(hh:yk b A w)
  (h:wpList Tryz.prog ops Q rest (a.put o.dst (.agg A)) w):wpList Tryz.prog ops Q (o :: rest) a w :=
 wpList_step fun K hK=>by
  rw[qI hw];refine wp_load_mid (P:=Tryz.prog) 202 x ho b 0 hx A.toList _ hh.2 Tryz.underlying202 rfl (by rw[ky];simp[hz]) ?_;rw[Array.toArray_toList];exact hK _ _ h
def pK(x:BitVec 64)(r:Int):BitVec 64:=if r<0 then x >>> (-8*r).toNat else x <<< (8*r).toNat
theorem oV(x:BitVec 64)(r:Int):yE (U x) r=U (pK x r):=by
 unfold yE pK;have e:∀n:Nat,(2:Int) ^ n=((2 ^ n:Nat):Int):=fun n=>by simp
 split
 ·rw[e,rE]
 ·rw[e,ib]
def yV(wh:Bool):Int:=if wh then 1 else -1
def uB(wh:Bool):BitVec 64:=if wh then pK 255#64 2 else pK 18374686479671623680#64 (-2)
def iv(wh:Bool)(own oth:BitVec 64)(f:Nat):BitVec 64:=pK (1#64 <<< f) (yV wh) &&& ~~~(own ||| oth)
def k7(wh:Bool)(own oth:BitVec 64)(f:Nat):BitVec 64:=iv wh own oth f ||| (pK (iv wh own oth f &&& uB wh) (yV wh) &&& ~~~(own ||| oth))
variable {m:Nat->BitVec 64}{wh:Bool}{own oth beh:BitVec 64}{fc:Nat->Bool}{FA:Array Value}
theorem p9(r:pO m wh own oth beh fc FA)(w:World):Calls Tryz.prog 258 #[.agg FA] w fun e w'=>e=.returned (.int .i64 (yV wh))/\Gr w w':=by
 have hc:=(yk.new w FA 202).cell r.wh;clear r;cases wh
 all_goals
  go_enter Tryz.func258,Tryz.ntmps258;go_wp2;go_ret;exact⟨rfl,(Gr.refl _).alloc _ _⟩
theorem GD(x:BitVec 64):bits .xor .u64 (if IntKind.u64.signed=true then -1 else IntKind.u64.max) (U x)=U (~~~x):=by
 rw[show(if IntKind.u64.signed=true then -1 else IntKind.u64.max)=U (BitVec.allOnes 64)from by decide +kernel,oF,BitVec.allOnes_xor]
def HF(w1:World)(b:Nat)(FA:Array Value)(W:World):Prop:=yk b FA W/\Gr w1 W
theorem HF.gr{w1 W W':World}{b:Nat}{FA:Array Value}(h:HF w1 b FA W)(g:Gr W W'):HF w1 b FA W':=⟨h.1.gr g,Gr.trans h.2 g⟩
theorem ni(r:pO m wh own oth beh fc FA)(f:Nat)(hf:f<64)(w:World):Calls Tryz.prog 209 #[.agg FA,.int .i64 (f:Int)] w fun e w'=>e=.returned (.int .u64 (U (k7 wh own oth f)))/\Gr w w':=by
 have hr1:=yk.new w FA 202;have hg1:=(Gr.refl w).alloc FA 202;have hz:=qC r.size;have hrk:=qC (fun W=>p9 r W);have hone:=qC (fun W=>A9 (f:Int) (by omega) (by omega) W);rw[rp f hf]at hone;have c12:=hr1.cell r.wh;have c13:=hr1.cell r.own;have c14:=hr1.cell r.oth;have hup:Hid (∀(x q:Int)(h0:-7<=q)(h1:q<=7)(W:World),Calls Tryz.prog 253 #[.int .u64 x,.int .i64 q] W fun e w'=>e=.returned (.int .u64 (yE x q))/\w'=W):=qC (fun x q h0 h1 W=>Dw x q W h0 h1);clear r;have hor:∀x y:BitVec 64,bits .or .u64 (U x) (U y)=U (x ||| y):=uQ;have hno:=GD (own ||| oth);have hth:Hid (uB wh=if wh then pK 255#64 2 else pK 18374686479671623680#64 (-2)):=qC rfl;obtain⟨d,hd⟩:∃d,Hid (yV wh=d):=⟨_,qC rfl⟩;rw[qa hd]at hrk;have hd0:(-7:Int)<=d/\d<=7:=by rw[<-qa hd];cases wh<;>decide
 obtain⟨hd1,hd2⟩:=hd0;have fin:Hid (∀T:BitVec 64,T=uB wh->k7 wh own oth f=(pK (1#64 <<< f) d &&& ~~~(own ||| oth)) ||| (pK ((pK (1#64 <<< f) d &&& ~~~(own ||| oth)) &&& T) d &&& ~~~(own ||| oth))):=qC (fun T hT=>by unfold k7 iv;rw[qa hd,hT]);generalize k7 wh own oth f=R at fin ⊢;generalize hT:uB wh=T at fin hth;replace fin:=qC (qa fin _ rfl)
 have hTU:Hid (U T=if wh then yE 255 2 else yE 18374686479671623680 (-2)):=qC (by
  rw[qa hth];rw[show(255:Int)=U 255#64 from by decide +kernel,show(18374686479671623680:Int)=U 18374686479671623680#64 from by decide +kernel,oV,oV];cases wh<;>rfl)
 clear hth hT hd;generalize hN : ~~~(own ||| oth)=N at fin hno;clear hN;cases wh
 all_goals
  have hTU':=qa hTU;simp only[qR,if_false,if_true]at hTU';clear hTU;go_enter Tryz.func209,Tryz.ntmps209;go_upto_region 5 with(go_at_call 253;refine(qa hup _ _ (by decide) (by decide) _).mono ?_;rintro e w' ⟨rfl,rfl⟩);have hH:HF w w.heap.size FA (w.alloc (.cells FA 202)).drew:=⟨hr1.gr (Gr.refl _).drew,hg1.drew⟩;generalize w.alloc (.cells FA 202)=w1 at hH ⊢;refine wp_region_held_drew (S:=HF w w.heap.size FA) (by kernel_rfl) hH (fun qD=>?_);refine C.tq 0 (.int .i64 (f:Int)) qD ?_;refine C.ty 2 (.agg FA) rfl (cX (qa hz) (by rfl) _ rfl w.heap.size rfl (fun _ h=>h.1)) qD ?_;refine C.tq 5 (.int .u64 (U N)) qD ?_;refine C.rd 1 fun K hK=>?_
  go_simp;refine(qa hone _).mono ?_;rintro e wa ⟨rfl,rfl⟩;refine hK.out _ _ qD (fun qD=>?_);clear hK K;refine C.rd 3 fun K hK=>?_
  go_simp;refine(qa hrk _).mono ?_;rintro e wb ⟨rfl,hgb⟩;refine hK.out _ _ (qD.gr hgb) (fun qD=>?_);clear hK K hgb;refine C.rd 4 fun K hK=>?_
  go_simp;refine(qa hup _ _ hd1 hd2 _).mono ?_;rintro e wc ⟨rfl,rfl⟩;refine hK.out _ _ qD (fun qD=>?_);clear hK K;have e1:bits .and .u64 (yE (U (1#64 <<< f)) d) (U N)=U (pK (1#64 <<< f) d &&& N):=by rw[oV,im]
  generalize pK (1#64 <<< f) d &&& N=O at e1 fin;refine C.tq 6 (.int .u64 (U O)) qD ?_;refine C.rd 7 fun K hK=>?_
  go_simp;refine hK.out _ _ qD (fun qD=>?_);clear hK K;refine wpAnyH_done (by kernel_rfl) ?_ _;have e2:∀y,U T=y->bits .and .u64 (U O) y=U (O &&& T):=fun y h=>by rw[<-h,im]
  have e2':=e2 _ hTU';have e3:bits .and .u64 (yE (U (O &&& T)) d) (U N)=U (pK (O &&& T) d &&& N):=by rw[oV,im]
  clear e2 hTU' e1 hno c12 c13 c14 hr1 hg1 hone;have hhe:=qC qD;clear qD hH
  go_wp2_with(first
   | (go_at_call 258;refine(qa hrk _).mono ?_;rintro e wr ⟨rfl,hgr⟩)
   | (go_at_call 253;refine(qa hup _ _ hd1 hd2 _).mono ?_;rintro e w' ⟨rfl,hww⟩;have hww':=hww.symm;subst hww';clear hww)
   | (refine jd (by rfl) _ rfl w.heap.size rfl (qa hz) (qa hhe).1 ?_))
  go_ret;exact⟨by rw[qa fin];rfl,Gr.trans (qa hhe).2 hgr⟩
end
section
attribute [local go_sem] qd qe Oper.semAt_some
variable {m:Nat->BitVec 64}{wh:Bool}{own oth beh:BitVec 64}{fc:Nat->Bool}{FA:Array Value}
def vw(FA:Array Value):Array Value:=(FA.toList.take 12).toArray
theorem pO.isMen(r:pO m wh own oth beh fc FA):jS m (vw FA):=by
 refine⟨by simp[vw,r.size],fun i hi=>?_⟩;have:=r.men i hi;rw[vw,List.getElem?_toArray,List.getElem?_take,qI hi,qO];exact this
theorem pO.held(r:pO m wh own oth beh fc FA){b:Nat}{W:World}(h:yk b FA W):vh b (vw FA) W:=by
 refine⟨h.1,?_,by simp[vw,r.size]⟩;have:=h.take 12
 rwa[vw]
theorem ui{s:BitVec 64}{x:Nat}(h:x∈vD s):x<64:=by
 unfold vD at h;exact qK.1 (qV.1 h).1
theorem C9{α:Type}{pre xs:List α}{x:α}(h:pre++[x] <+: xs):x∈xs:=h.subset (by simp)
def uG(m:Nat->BitVec 64)(s:BitVec 64)(wh:Bool):Bool:=(vD s).any fun y=>xV m (y:Int) (!wh)
theorem ij(tmps:Array Value)(w:World)(b:Nat)(v:Value)(hp:tmps.getD 4 undef=.pointer (some ⟨b,0,none⟩))(hc:w.cell? ⟨b,0,none⟩=some v):(results Tryz.f212 tmps).run Tryz.prog w=.ok v w:=by
 have hp':tmps[4]?.getD undef=.pointer (some ⟨b,0,none⟩):=by simpa using hp
 simp[results,Tryz.results212,hp',asAddr,go_sem,hc]
theorem x6(w:World)(o1 o2:Obj):((w.alloc o1).alloc o2).heap[w.heap.size]?=some o1/\((w.alloc o1).alloc o2).heap[w.heap.size+1]?=some o2:=by
 constructor
 ·rw[Below.heap_alloc _ _ _ (by simp)];exact World.alloc_heap_new w _
 ·have:=World.alloc_heap_new (w.alloc o1) o2;rwa[World.size_alloc]at this
theorem qv0(r:pO m wh own oth beh fc FA)(s:BitVec 64)(w:World)(hT:jF w):Calls Tryz.prog 212 #[.agg FA,.int .u64 (U s)] w fun e w'=>e=.returned (.bool (uG m s wh))/\Gr w w':=by
 have hM:=qC r.isMen;have hr:=qC r;have hz:=qC r.size;clear r;refine(callsIn_wide (n:=3)).1 ?_;refine callsIn_of_wp_marks Tryz.func212 rfl trivial ?_ rfl;simp only[Tryz.ntmps212,List.size_toArray,List.length_cons,List.length_nil,Nat.reduceAdd,Nat.reduceSub,Array.replicate_succ,Array.replicate_zero,List.push_toArray,List.append_toArray,List.nil_append,List.cons_append];gi_wp2_with (refine⟨trivial,?_⟩;gi_at_call 132;refine(callsIn_wide.2 (xn _ _)).mono ?_;rintro e w5 ⟨rfl,rfl⟩);obtain⟨h1,h2⟩:=x6 w (.cells FA 202) (.cells #[.bool false] 4);generalize hw2:(w.alloc (.cells FA 202)).alloc (.cells #[.bool false] 4)=w2 at h1 h2 ⊢;have hs2:w2.heap.size=w.heap.size+2:=by rw[<-hw2];simp
 have hg2:Gr w w2:=by rw[<-hw2];exact((Gr.refl w).alloc _ _).alloc _ _
 clear hw2;generalize hw3:w2.alloc (.cells #[.int .u64 (U s)] 195)=w3;have hs3:w3.heap.size=w.heap.size+3:=by rw[<-hw3,World.size_alloc,hs2]
 have hg3:Gr w2 w3:=by rw[<-hw3];exact(Gr.refl _).alloc _ _
 have b0:w3.heap[w.heap.size]?=some (.cells FA 202):=(Below.block hg3 _ (by omega)).trans h1;have b1:w3.heap[w.heap.size+1]?=some (.cells #[.bool false] 4):=(Below.block hg3 _ (by omega)).trans h2;have hc3:w3.cell? ⟨w2.heap.size,0,none⟩=some (.int .u64 (U s)):=by rw[<-hw3];exact(qq5 w2 _ _).1
 have hG3:=Gr.trans hg2 hg3;have hT3:=hT.gr hG3;have hT0:=hT.2;clear hw3 hg3 h1 h2 hg2;rw[hs2]at hc3
 refine xj (gf:=207) (lb:=#[.pointer (some ⟨w.heap.size+2,0,none⟩)]) rfl (enters_of Tryz.func207 (by kernel_rfl) rfl)
  (o0 s (w.heap.size+2) (fun _=>False) w3 hc3 hT3.1) (fun _ h=>h.elim) (by rintro k (rfl|rfl)<;>omega) (Fr.refl _ _) (fun _=>rfl)
  (fun pre W=>(∀y∈pre,xV m (y:Int) (!wh)=false)/\Below w3.heap.size w3 W)
  (fun c pre W=>c=.ret/\(∃y∈pre,xV m (y:Int) (!wh)=true)/\W.heap[w.heap.size+1]?=some (.cells #[.bool true] 4)/\Gr w W/\w3.heap.size<=W.heap.size)
  ?sI ?sX ⟨fun y hy=>absurd hy (List.not_mem_nil),Below.refl _ _⟩ ?round ?done ?stop
 case sI=>exact fun s A A' h f=>⟨h.1,h.2.trans (f.below h.2.size (fun _ _ hk=>.inl hk))⟩
 case sX=>exact fun c s A A' h f=>⟨h.1,h.2.1,f.same _ _ h.2.2.1 (.inl (by omega)),Below.trans h.2.2.2.1 ((f.below h.2.2.2.2 (fun _ _ hk=>.inl hk)).mono (by omega)),q7 h.2.2.2.2 f.size⟩
 case round =>
  intro l pre x W hbl hx hi hl;gi_wp2;refine⟨Fr.refl _ _,?_⟩;rintro W2-⟨hpre,hB⟩ -;have hxm:=ui (C9 hx);have hx0:(0:Int)<=(x:Int):=by omega
  have hx1:(x:Int)<=63:=by omega
  have d0:=(Below.block hB w.heap.size (by omega)).trans b0;have d2:=(Below.block hB (w.heap.size+1) (by omega)).trans b1;have hra:yk w.heap.size FA W2:=⟨(qB.1 d0).1,fun j v hv=>by rw[cell_of_row _ _ _ _ _ _ d0,Nat.zero_add,<-qO];exact hv⟩;have hheld:=(qa hr).held hra;have c12:=hra.cell (qa hr).wh;have hat:=qC (qq0 m _ (qa hM) (x:Int) hx0 hx1 (!wh) W2);have hszW:w.heap.size+1<W2.heap.size:=(qB.1 d2).1;have hpre':=qC hpre;have hB':=qC hB;have d2':=qC d2;have b':=qC (And.intro b0 b1);obtain⟨v,hv⟩:∃v,Hid (xV m (x:Int) (!wh)=v):=⟨_,qC rfl⟩;rw[qa hv]at hat;clear hpre hB d0 d2 b0 b1 hc3 hi hra;cases v
  ·gi_wp2_with (first
    | (refine xf rfl _ rfl w.heap.size rfl hheld ?_)
    | (refine⟨trivial,?_⟩;gi_at_call 127;refine(CallsIn.inRound l (callsIn_wide.2 (qa hat))).mono ?_;rintro e w' ⟨rfl,hg⟩))
   refine⟨Fr.of_gr hg,fun y hy=>?_,(qa hB').trans (Below.mono hg (Below.size (qa hB')))⟩;rcases List.mem_append.1 hy with h|h
   ·exact qa hpre' y h
   ·rw[qT]at h;subst h;exact qa hv
  ·gi_wp2_with (first
    | (refine xf rfl _ rfl w.heap.size rfl hheld ?_)
    | (refine⟨trivial,?_⟩;gi_at_call 127;refine(CallsIn.inRound l (callsIn_wide.2 (qa hat))).mono ?_;rintro e w' ⟨rfl,hg⟩;have d3:=(Below.block hg (w.heap.size+1) hszW).trans (qa d2');have d4:=qi d3;obtain⟨d4a,d4b⟩:=d4))
   refine⟨(Fr.of_gr hg).setCell _ ?_,rfl,⟨x,List.mem_append.2 (.inr (qT.2 rfl)),qa hv⟩,jm d3,Below.setCell (Gr.trans (Gr.trans hG3 (qa hB')) hg) (show w.heap.size<=w.heap.size+1 by omega) _,?_⟩
   ·rintro o-(q|q)
    ·rcases q with q|q
     ·simp at q
     ·simp at q;omega
    ·have:=q.1;simp at this;omega
   ·have e1:=Below.size (qa hB');have e2:=Below.size hg;simp[World.setCell];omega
 case done =>
  rintro D W hD ⟨hpre,hB⟩ hK;have d2:=(Below.block hB (w.heap.size+1) (by omega)).trans b1;obtain⟨d2a,d2b⟩:=qi d2;have hK':=qC ((KeepsOthers.setCell W ⟨w.heap.size+1,0,none⟩ (.bool false)).same D _ hK rfl)
  have hv:Hid (uG m s wh=false):=qC (by
   unfold uG;rw[List.any_eq_false];intro y hy;rw[hpre y hy];decide)
  have hres:=qC (qi (DA (D:=D) (o':=.deferred none) (jm (v:=.bool false) d2) (by omega))).1;have hgr:Hid (Gr w ((W.setCell ⟨w.heap.size+1,0,none⟩ (.bool false)).putObj D (.deferred none))):=qC ((Below.setCell (Gr.trans hG3 hB) (show w.heap.size<=w.heap.size+1 by omega) _).trans (belowK_b (w:=w3) (n₀:=w.heap.size) (by omega) _ D _ _ hD (qa hK') rfl rfl));clear hpre hB b0 b1 d2;gi_wp2;refine⟨by simp,.inl ⟨_,_,rfl,run_takeDeferred (qa hK'),?_⟩⟩;exact⟨_,ij _ _ _ _ rfl (qa hres),by rw[qa hv],qa hgr⟩
 case stop =>
  rintro D c pre W hD hpre ⟨rfl,⟨y,hy1,hy2⟩,d2,hgw,_⟩ hK
  have hv:Hid (uG m s wh=true):=qC (by
   unfold uG;rw[qY];exact⟨y,hpre.subset hy1,hy2⟩)
  have hres:=qC (qi (DA (D:=D) (o':=.deferred none) d2 (by omega))).1;have hgr:Hid (Gr w (W.putObj D (.deferred none))):=qC (Below.trans hgw (belowK_b (w:=w3) (n₀:=w.heap.size) (by omega) _ D _ _ hD hK rfl rfl));gi_wp2;refine⟨by simp,.inl ⟨_,_,rfl,run_takeDeferred hK,?_⟩⟩;exact⟨_,ij _ _ _ _ rfl (qa hres),by rw[qa hv],qa hgr⟩
end
section
attribute [local go_sem] qd qe
variable {m:Nat->BitVec 64}{wh:Bool}{own oth beh:BitVec 64}{fc:Nat->Bool}{FA:Array Value}
def uL(wh:Bool)(beh:BitVec 64)(place t:Nat):BitVec 64:=if place=0/\1#64 <<< t=beh then pK beh (-(yV wh))else 1#64 <<< t
def zS(m:Nat->BitVec 64)(q:Nat)(g:BitVec 64)(k:Nat):Nat->BitVec 64:=fun i=>if q<=i/\i<q+k then m i &&& ~~~g else m i
def zV(m:Nat->BitVec 64)(wh:Bool)(beh:BitVec 64)(place f t:Nat):Nat->BitVec 64:=fun i =>
 if i=bg wh+place then zS m (bg (!wh)) (uL wh beh place t) 6 i ^^^ (1#64 <<< f ||| 1#64 <<< t)else zS m (bg (!wh)) (uL wh beh place t) 6 i
theorem qxx{m m':Nat->BitVec 64}{M:Array Value}{j:Nat}(h:jS m M)(hj:j<12)(hm:∀i,i≠j->m' i=m i):jS m' (M.setIfInBounds j (.int .u64 (U (m' j)))):=by
 refine⟨by rw[Array.size_setIfInBounds];exact h.1,fun i hi=>?_⟩;by_cases e:i=j
 ·subst e;rw[Array.getElem?_setIfInBounds,qI rfl,qI (by rw[h.1];exact hi)]
 ·rw[Array.getElem?_setIfInBounds,qF (fun h=>e h.symm),hm i e];exact h.2 i hi
theorem qv{W:World}{b i:Nat}{A:Array Value}{v:Value}{t:TypeId}(h:W.heap[b]?=some (.cells A t)):(W.setCell ⟨b,i,none⟩ v).heap[b]?=some (.cells (A.setIfInBounds i v) t):=by
 have hb:=(qB.1 h).1;have h':W.heap[b]=.cells A t:=(qB.1 h).2;simp[World.setCell,hb,Array.getElem_modify,h']
structure Af(w:World)(FA:Array Value)(W:World):Prop where
 fa:yk w.heap.size FA W
 res:W.heap[w.heap.size+1]?=some (.cells yI 197)
 gr:Gr w W
theorem Af.next{w W W':World}(h:Af w FA W)(g:Gr W W'):Af w FA W':=⟨h.fa.gr g,(Below.block g _ (qB.1 h.res).1).trans h.res,Gr.trans h.gr g⟩
theorem Af.drew{w W:World}(h:Af w FA W):Af w FA W.drew:=h.next (Gr.refl _).drew
theorem yk.put{b g:Nat}{A M:Array Value}{W:World}(h:yk b A W)(hne:b≠g):yk b A (W.setRow g M):=⟨by rw[size_setRow];exact h.1,fun j v hv=>by rw[cell_setRow_other _ _ _ _ hne];exact h.2 j v hv⟩
theorem Af.put{w W:World}(h:Af w FA W){g:Nat}(hg:w.heap.size+2<=g)(M:Array Value):Af w FA (W.setRow g M) :=
 ⟨h.fa.put (by omega),by rw[setRow_other _ _ _ _ (by omega)];exact h.res,h.gr.setRow _ (by omega) _⟩
theorem oE(r:pO m wh own oth beh fc FA){ops:Array Oper}{op:Oper}{a:Act}{S:World->Prop}(hw:Region.wanted op (yielded ops a.tmps)=true)(x:Operand)(ho:op.op=.load 197 x)(b:Nat)(hx:a.eval x=.pointer (some ⟨b,0,none⟩))(hS:∀w,S w->yk b FA w):YieldsIf Tryz.prog ops S op (.agg (vw FA)) a :=
 pd r.isMen.1 hw x ho b hx (fun W h=>r.held (hS W h))
def Aw(w:World)(FA:Array Value)(W:World):Prop:=Af w FA W/\W.heap[w.heap.size+2]?=some (.cells (vw FA) 197)
theorem Aw.next{w W W':World}(h:Aw w FA W)(g:Gr W W'):Aw w FA W':=⟨h.1.next g,(Below.block g _ (qB.1 h.2).1).trans h.2⟩
def Bf(w:World)(M:Array Value)(W:World):Prop:=W.heap[w.heap.size+2]?=some (.cells M 197)/\W.heap[w.heap.size+1]?=some (.cells yI 197)/\Gr w W
theorem nj(r:pO m wh own oth beh fc FA)(place f t:Nat)(hp:place<6)(hf:f<64)(ht:t<64)(w:World):Calls Tryz.prog 211 #[.agg FA,.int .i64 (place:Int),.int .i64 (f:Int),.int .i64 (t:Int)] w fun e w'=>∃M,e=.returned (.agg M)/\jS (zV m wh beh place f t) M/\Gr w w':=by
  have hr:=qC r
  have hbe:=qC (fun b W=>FJ b W)
  obtain⟨x1,x2⟩:=x6 w (.cells FA 202) (.cells yI 197)
  have hA0:Af w FA (((w.alloc (.cells FA 202)).alloc (.cells yI 197))):=⟨(yk.new w FA 202).gr ((Gr.refl _).alloc _ _),x2,((Gr.refl w).alloc _ _).alloc _ _⟩
  have hs2:((w.alloc (.cells FA 202)).alloc (.cells yI 197)).heap.size=w.heap.size+2:=by simp
  clear x1 x2
  go_enter Tryz.func211,Tryz.ntmps211
  go_upto_region 1 with fail
  go_cut [9,10,11]from 14 to 22 (fun s9 s10 s11 wx=>s9=.pointer (some ⟨w.heap.size+2,0,none⟩)/\s10=.int .i64 (bg wh:Nat)/\s11=.int .i64 (bg (!wh):Nat)/\Af w FA wx/\wx.heap[w.heap.size+2]?=some (.cells (vw FA) 197))
  case first =>
    have hA1:=hA0.drew
    generalize hW0:((w.alloc (.cells FA 202)).alloc (.cells yI 197))=W0 at hA0 hA1 hs2
    have hW0':((w.alloc (.cells FA 202)).alloc (.cells #[.int .u64 0,.int .u64 0,.int .u64 0,.int .u64 0,.int .u64 0,.int .u64 0,.int .u64 0,.int .u64 0,.int .u64 0,.int .u64 0,.int .u64 0,.int .u64 0] 197))=W0:=hW0
    rw[hW0']
    have h9:(W0.alloc (.cells yI 197)).drew.heap[w.heap.size+2]?=some (.cells yI 197):=by rw[<-hs2];exact World.alloc_heap_new _ _
    refine wp_region_held_drew (S:=Af w FA) (by kernel_rfl) hA1 (fun qD=>?_)
    refine C.ty 0 (.pointer (some ⟨w.heap.size,0,none⟩)) rfl (Or.inl ⟨by rfl,fun w hw=>(by have c12:=hw.fa.cell (qa hr).wh;go_simp)⟩) qD ?_
    refine C.ty 1 (.agg (vw FA)) rfl (oE (qa hr) (by rfl) _ rfl w.heap.size rfl (fun _ h=>h.fa)) qD ?_
    refine C.ty 2 (.pointer (some ⟨w.heap.size,12,none⟩)) rfl (Or.inl ⟨by rfl,fun w hw=>(by have c12:=hw.fa.cell (qa hr).wh;go_simp)⟩) qD ?_
    refine C.ty 3 (.bool wh) rfl (Or.inl ⟨by rfl,fun w hw=>(by have c12:=hw.fa.cell (qa hr).wh;go_simp)⟩) qD ?_
    refine C.ty 5 (.pointer (some ⟨w.heap.size,12,none⟩)) rfl (Or.inl ⟨by rfl,fun w hw=>(by have c12:=hw.fa.cell (qa hr).wh;go_simp)⟩) qD ?_
    refine C.ty 6 (.bool wh) rfl (Or.inl ⟨by rfl,fun w hw=>(by have c12:=hw.fa.cell (qa hr).wh;go_simp)⟩) qD ?_
    refine C.ty 7 (.bool (!wh)) rfl (Or.inl ⟨by rfl,fun w hw=>(by have c12:=hw.fa.cell (qa hr).wh;go_simp)⟩) qD ?_
    refine wpAnyH_ready (rs:=[4,9]) (by kernel_rfl) (by simp) ?_
    refine AllReadyH.cons rfl (fun K hK=>?_) (AllReadyH.cons rfl (fun K hK=>?_) AllReadyH.nil)
    · go_simp
      refine(qa hbe _ _).mono ?_
      rintro e wa ⟨rfl,rfl⟩
      refine hK.out _ _ qD (fun qD=>?_)
      clear hK K
      refine wpAnyH_ready (rs:=[8,9]) (by kernel_rfl) (by simp) ?_
      refine AllReadyH.cons rfl (fun K hK=>?_) (AllReadyH.cons rfl (fun K hK=>?_) AllReadyH.nil)
      · go_simp
        refine(qa hbe _ _).mono ?_
        rintro e wa ⟨rfl,rfl⟩
        refine hK.out _ _ qD (fun qD=>?_)
        clear hK K
        refine C.rd 9 fun K hK=>?_
        go_simp
        refine hK.out _ _ (qD.next ((Gr.refl _).alloc _ _)) (fun qD=>?_)
        clear hK K
        refine C.rd 10 fun K hK=>?_
        rw[qI (by rfl)]
        refine wp_store_row 197 _ _ rfl _ (vw FA) rfl rfl 197 yI h9 (qa hr).isMen.info (qa hr).isMen.1.symm (qa hr).isMen.ones ?_
        refine hK.out _ _ (qD.put (qL _) _) (fun qD=>?_)
        clear hK K
        simp only[C.py]
        refine C.rd 11 fun K hK=>?_
        go_simp
        refine hK.out _ _ qD (fun qD=>?_)
        clear hK K
        refine C.rd 12 fun K hK=>?_
        go_simp
        refine hK.out _ _ qD (fun qD=>?_)
        clear hK K
        refine wpAnyH_done (by kernel_rfl) ?_ _
        go_wp2_with fail
        go_meet
        case rel=>exact⟨rfl,rfl,rfl,qD,setRow_heap _ _ _ _ _ _ h9⟩
      · go_simp
        refine hK.out _ _ (qD.next ((Gr.refl _).alloc _ _)) (fun qD=>?_)
        clear hK K
        refine C.rd 8 fun K hK=>?_
        go_simp
        refine(qa hbe _ _).mono ?_
        rintro e wa ⟨rfl,rfl⟩
        refine hK.out _ _ qD (fun qD=>?_)
        clear hK K
        refine C.rd 10 fun K hK=>?_
        rw[qI (by rfl)]
        refine wp_store_row 197 _ _ rfl _ (vw FA) rfl rfl 197 yI h9 (qa hr).isMen.info (qa hr).isMen.1.symm (qa hr).isMen.ones ?_
        refine hK.out _ _ (qD.put (qL _) _) (fun qD=>?_)
        clear hK K
        simp only[C.py]
        refine C.rd 11 fun K hK=>?_
        go_simp
        refine hK.out _ _ qD (fun qD=>?_)
        clear hK K
        refine C.rd 12 fun K hK=>?_
        go_simp
        refine hK.out _ _ qD (fun qD=>?_)
        clear hK K
        refine wpAnyH_done (by kernel_rfl) ?_ _
        go_wp2_with fail
        go_meet
        case rel=>exact⟨rfl,rfl,rfl,qD,setRow_heap _ _ _ _ _ _ h9⟩
    · go_simp
      refine hK.out _ _ (qD.next ((Gr.refl _).alloc _ _)) (fun qD=>?_)
      clear hK K
      refine C.rd 4 fun K hK=>?_
      go_simp
      refine(qa hbe _ _).mono ?_
      rintro e wa ⟨rfl,rfl⟩
      refine hK.out _ _ qD (fun qD=>?_)
      clear hK K
      refine C.rd 8 fun K hK=>?_
      go_simp
      refine(qa hbe _ _).mono ?_
      rintro e wa ⟨rfl,rfl⟩
      refine hK.out _ _ qD (fun qD=>?_)
      clear hK K
      refine C.rd 10 fun K hK=>?_
      rw[qI (by rfl)]
      refine wp_store_row 197 _ _ rfl _ (vw FA) rfl rfl 197 yI h9 (qa hr).isMen.info (qa hr).isMen.1.symm (qa hr).isMen.ones ?_
      refine hK.out _ _ (qD.put (qL _) _) (fun qD=>?_)
      clear hK K
      simp only[C.py]
      refine C.rd 11 fun K hK=>?_
      go_simp
      refine hK.out _ _ qD (fun qD=>?_)
      clear hK K
      refine C.rd 12 fun K hK=>?_
      go_simp
      refine hK.out _ _ qD (fun qD=>?_)
      clear hK K
      refine wpAnyH_done (by kernel_rfl) ?_ _
      go_wp2_with fail
      go_meet
      case rel=>exact⟨rfl,rfl,rfl,qD,setRow_heap _ _ _ _ _ _ h9⟩
  case rest =>
    obtain⟨rfl,rfl,rfl,hA,h9⟩:=hcut
    clear hA0 hs2
    have hone:=qC (fun(x:Nat)(hx:x<64)(W:World)=>A9 (x:Int) (by omega) (by omega) W)
    have hot:=qa hone t ht
    rw[rp t ht]at hot
    have hot':=qC hot
    clear hot
    go_upto_region 3 with(go_at_call 204;refine(qa hot' _).mono ?_;rintro e w' ⟨rfl,rfl⟩)
    have hA1:=hA
    have h91:=h9
    have cb:w'.cell? ⟨w.heap.size,15,none⟩=some (.int .u64 (U beh)):=hA.fa.cell (qa hr).beh
    have hrk:=qC (fun W=>p9 (qa hr) W)
    have hgn:Hid (uL wh beh place t=if place=0/\1#64 <<< t=beh then pK beh (-(yV wh))else 1#64 <<< t):=qC rfl
    clear hA1 h91
    have haf:Hid (zV m wh beh place f t=fun i=>if i=bg wh+place then zS m (bg (!wh)) (uL wh beh place t) 6 i ^^^ (1#64 <<< f ||| 1#64 <<< t)else zS m (bg (!wh)) (uL wh beh place t) 6 i):=qC rfl
    generalize hAFe:zV m wh beh place f t=AF at haf
    have hAFe':=qC hAFe
    clear hAFe
    generalize uL wh beh place t=G at haf hgn
    obtain⟨CB,hCB⟩:∃c,Hid (decide (place=0/\1#64 <<< t=beh)=c):=⟨_,qC rfl⟩
    go_cut [32]from 25 to 31 (fun s32 wx=>s32=.bool CB/\wx=w')
    case first =>
      by_cases h0:place=0
      · have e0:((place:Int)==0)=true:=by simp;omega
        obtain⟨x,hx⟩:∃x,(U (1#64 <<< t)==U beh)=x:=⟨_,rfl⟩
        have hxx:Hid (CB=x):=qC (by
          rw[<-qa hCB,<-hx]
          by_cases hb:1#64 <<< t=beh
          · rw[qJ ⟨h0,hb⟩,hb];simp
          · rw[qE (fun h=>hb h.2)];exact(qM.2 (fun h=>hb (pE h))).symm)
        clear h0 hCB
        cases x<;>(go_wp2_with fail;go_meet;exact⟨by rw[qa hxx],rfl⟩)
      · have e1:((place:Int)==0)=false:=by simp;omega
        have hxx:Hid (CB=false):=qC (by rw[<-qa hCB,qE (fun h=>h0 h.1)])
        clear h0 hCB
        go_wp2_with fail
        go_meet
        case rel=>exact⟨by rw[qa hxx],rfl⟩
    case rest =>
     obtain⟨rfl,hww⟩:=hcut
     have hww':=hww.symm
     subst hww'
     clear hww
     go_upto_if 32 with fail
     go_cut [12]from 33 to 38 (fun s12 wx=>s12=.int .u64 (U G)/\Aw w FA wx)
     case first =>
      cases CB
      · have hG:Hid (G=1#64 <<< t):=qC (by rw[qa hgn,qF (of_decide_eq_false (qa hCB))])
        clear hgn hCB
        go_wp2_with fail
        go_meet
        case rel=>exact⟨by rw[qa hG],hA,h9⟩
      · have hG:Hid (G=pK beh (-(yV wh))):=qC (by rw[qa hgn,qI (q8 (qa hCB))])
        have hz:=qC (qa hr).size
        clear hgn hCB
        go_upto_region 4 with fail
        have hneg:IntKind.i64.wrap (-(yV wh))=-(yV wh):=by cases wh<;>decide
        have hdd:(-7:Int)<=-(yV wh) ∧ -(yV wh)<=7:=by cases wh<;>decide
        have hH4:Aw w FA w'.drew:=⟨hA.drew,h9⟩
        refine wp_region_held_drew (S:=Aw w FA) (by kernel_rfl) hH4 (fun qD=>?_)
        refine C.ty 0 (.pointer (some ⟨w.heap.size,15,none⟩)) rfl (Or.inl ⟨by rfl,fun w hw=>(by have c15:=hw.1.fa.cell (qa hr).beh;go_simp)⟩) qD ?_
        refine C.ty 1 (.int .u64 (U beh)) rfl (Or.inl ⟨by rfl,fun w hw=>(by have c15:=hw.1.fa.cell (qa hr).beh;go_simp)⟩) qD ?_
        refine C.ty 2 (.agg FA) rfl (cX (qa hz) (by rfl) _ rfl w.heap.size rfl (fun _ h=>h.1.fa)) qD ?_
        refine C.rd 3 fun K hK=>?_
        go_simp
        refine(qa hrk _).mono ?_
        rintro e wb ⟨rfl,hgb⟩
        refine hK.out _ _ (qD.next hgb) (fun qD=>?_)
        clear hK K
        refine C.ty 4 (.int .i64 (-(yV wh))) rfl (Or.inl ⟨by rfl,fun w hw=>(by have c15:=hw.1.fa.cell (qa hr).beh;go_simp)⟩) qD ?_
        refine C.rd 5 fun K hK=>?_
        go_simp
        refine(Dw _ _ _ hdd.1 hdd.2).mono ?_
        rintro e wc ⟨rfl,rfl⟩
        refine hK.out _ _ qD (fun qD=>?_)
        clear hK K
        refine C.rd 6 fun K hK=>?_
        go_simp
        refine hK.out _ _ qD (fun qD=>?_)
        clear hK K
        refine wpAnyH_done (by kernel_rfl) ?_ _
        go_wp2_with fail
        go_meet
        case rel=>exact⟨by rw[oV,<-qa hG],qD⟩
     case rest =>
      clear hA h9
      obtain⟨rfl,hA,h9⟩:=hcut
      clear hgn hrk hCB
      go_upto_region 6 with fail
      clear cb
      generalize hQ:bg (!wh)=q
      have hq6:q<=6:=by rw[<-hQ];exact io _
      have hQ':=qC hQ
      clear hQ
      have hcut0:Hid (jS (zS m q G 0) (vw FA)):=qC (by
        have e:zS m q G 0=m:=by funext i;unfold zS;rw[qF (by omega)]
        rw[e];exact(qa hr).isMen)
      have h9':=qC h9
      have hA':=qC hA
      clear h9 hA
      go_loopg [39] 6 (fun gg n wr=>∃(k:Nat)(M:Array Value),k+gg=6/\n=.int .i64 k/\jS (zS m q G k) M/\wr.heap[w.heap.size+2]?=some (.cells M 197)/\wr.heap[w.heap.size+1]?=some (.cells yI 197)/\Gr w wr)
      case atStart=>exact⟨0,vw FA,by omega,rfl,qa hcut0,qa h9',(qa hA').res,(qa hA').gr⟩
      case round =>
        obtain⟨k,M,k1,rfl,kM,k9,k8,kG⟩:=hrel
        have kM':=qC kM
        have k9':=qC k9
        have k8':=qC k8
        have kG':=qC kG
        by_cases hlt:k<6
        · have hqk:q+k<12:=by omega
          have hcell:wr.cell? ⟨w.heap.size+2,q+k,none⟩=some (.int .u64 (U (m (q+k)))):=by
            rw[cell_of_row _ _ _ _ _ _ k9,kM.2 _ hqk];unfold zS;rw[qF (by omega)]
          have hfr:wr.frozen? ⟨w.heap.size+2,q+k,none⟩=false:=by simp[World.frozen?,k9]
          have han:bits .andNot .u64 (U (m (q+k))) (U G)=U (m (q+k) &&& ~~~G):=qk1 _ _
          have hk0:(0:Int)<=(k:Int):=by omega
          have hk6:(k:Int)<6:=by omega
          clear kM k9 k8 kG
          go_wp2
          go_roundg (gk-1)
          case measure=>omega
          case rel =>
            refine⟨k+1,M.setIfInBounds (q+k) (.int .u64 (U (m (q+k) &&& ~~~G))),by omega,by go_num,?_,qv (qa k9'),?_,Below.setCell (qa kG') (show w.heap.size<=w.heap.size+2 by omega) _⟩
            · have e:zS m q G (k+1) (q+k)=m (q+k) &&& ~~~G:=by unfold zS;rw[qI (by omega)]
              have:=qxx (m':=zS m q G (k+1)) (j:=q+k) (qa kM') hqk (fun i hi=>by
                unfold zS
                by_cases h:q<=i/\i<q+k
                · rw[qI h,qI (by omega)]
                · rw[qF h,qF (by omega)])
              rwa[e]at this
            · rw[Below.heap_setCell _ _ _ _ (by simp)];exact qa k8'
        · have ek:k=6:=by omega
          subst ek
          clear kM k9 k8 kG hlt
          have ho6:=io wh
          have hcell6:∀W:World,Bf w M W->W.cell? ⟨w.heap.size+2,bg wh+place,none⟩=some (.int .u64 (U (zS m q G 6 (bg wh+place)))):=fun W h=>by rw[cell_of_row _ _ _ _ _ _ h.1];exact(qa kM').2 _ (by omega)
          have d1:wr.drew.cell? ⟨w.heap.size+2,bg wh+place,none⟩=some (.int .u64 (U (zS m q G 6 (bg wh+place)))):=hcell6 wr ⟨qa k9',qa k8',qa kG'⟩
          have d2:wr.drew.frozen? ⟨w.heap.size+2,bg wh+place,none⟩=false:=by show wr.frozen? _=false;simp[World.frozen?,qa k9']
          clear hcell6
          generalize bg wh=o at ho6 haf d1 d2 ⊢
          have hop0:(0:Int)<=(o:Int)+(place:Int):=by omega
          have hop1:(o:Int)+(place:Int)<12:=by omega
          have hwr:IntKind.i64.wrap ((o:Int)+(place:Int))=(o:Int)+(place:Int):=by rw[IntKind.wrap_i64];omega
          have e5:bits .or .u64 (v6 (f:Int)) (v6 (t:Int))=U (1#64 <<< f ||| 1#64 <<< t):=by rw[rp f hf,rp t ht,uQ]
          have e6:bits .xor .u64 (U (zS m q G 6 (o+place))) (U (1#64 <<< f ||| 1#64 <<< t))=U (zS m q G 6 (o+place) ^^^ (1#64 <<< f ||| 1#64 <<< t)):=oF _ _
          go_upto_region 10 with fail
          refine wp_region_held_drew (S:=fun _=>True) (by kernel_rfl) trivial (fun qD=>?_)
          refine C.tq 0 (.int .i64 (o:Int)) qD ?_
          refine C.tq 1 (.int .i64 (place:Int)) qD ?_
          refine C.tq 2 (.int .i64 ((o:Int)+(place:Int))) qD ?_
          refine C.tq 3 (.pointer (some ⟨w.heap.size+2,o+place,none⟩)) qD ?_
          refine C.tq 5 (.int .i64 (f:Int)) qD ?_
          refine C.tq 7 (.int .i64 (t:Int)) qD ?_
          refine wpAnyH_ready (rs:=[4,6]) (by kernel_rfl) (by simp) ?_
          refine AllReadyH.cons rfl (fun K hK=>?_) (AllReadyH.cons rfl (fun K hK=>?_) AllReadyH.nil)
          · go_simp
            refine hK.out _ _ trivial (fun qD=>?_)
            clear hK K
            refine C.rd 6 fun K hK=>?_
            go_simp
            refine(qa hone _ hf _).mono ?_
            rintro e w1 ⟨rfl,hww⟩
            have hww':=hww.symm
            subst hww'
            clear hww
            refine hK.out _ _ trivial (fun qD=>?_)
            clear hK K
            refine C.rd 8 fun K hK=>?_
            go_simp
            refine(qa hone _ ht _).mono ?_
            rintro e w1 ⟨rfl,hww⟩
            have hww':=hww.symm
            subst hww'
            clear hww
            refine hK.out _ _ trivial (fun qD=>?_)
            clear hK K
            refine C.tq 9 (.int .u64 (U (1#64 <<< f ||| 1#64 <<< t))) qD ?_
            refine C.tq 10 (.int .u64 (U (zS m q G 6 (o+place) ^^^ (1#64 <<< f ||| 1#64 <<< t)))) qD ?_
            refine C.tq 11 (.pointer (some ⟨w.heap.size+2,o+place,none⟩)) qD ?_
            refine C.rd 12 fun K hK=>?_
            go_simp
            refine hK.out _ _ trivial (fun qD=>?_)
            clear hK K
            refine wpAnyH_done (by kernel_rfl) ?_ _
            have hM2:=qC (qxx (m':=AF) (j:=o+place) (qa kM') (by omega) (fun i hi=>by rw[qa haf];simp only[qF hi,qa hQ']))
            have hAF:AF (o+place)=zS m q G 6 (o+place) ^^^ (1#64 <<< f ||| 1#64 <<< t):=by rw[qa haf];simp only[if_true,qa hQ']
            rw[hAF]at hM2
            have k92:=qv (i:=o+place) (v:=.int .u64 (U (zS m q G 6 (o+place) ^^^ (1#64 <<< f ||| 1#64 <<< t)))) (qa k9')
            have k82:(wr.setCell ⟨w.heap.size+2,o+place,none⟩ (.int .u64 (U (zS m q G 6 (o+place) ^^^ (1#64 <<< f ||| 1#64 <<< t))))).heap[w.heap.size+1]?=some (.cells yI 197):=by rw[Below.heap_setCell _ _ _ _ (by simp)];exact qa k8'
            have kG2:Gr w (wr.setCell ⟨w.heap.size+2,o+place,none⟩ (.int .u64 (U (zS m q G 6 (o+place) ^^^ (1#64 <<< f ||| 1#64 <<< t))))):=Below.setCell (qa kG') (show w.heap.size<=w.heap.size+2 by omega) _
            generalize (wr.setCell ⟨w.heap.size+2,o+place,none⟩ (.int .u64 (U (zS m q G 6 (o+place) ^^^ (1#64 <<< f ||| 1#64 <<< t)))))=wz at k92 k82 kG2 ⊢
            generalize M.setIfInBounds (o+place) (.int .u64 (U (zS m q G 6 (o+place) ^^^ (1#64 <<< f ||| 1#64 <<< t))))=M2 at k92 hM2
            clear d1 d2
            have k93:wz.drew.heap[w.heap.size+2]?=some (.cells M2 197):=k92
            have k83:wz.drew.heap[w.heap.size+1]?=some (.cells yI 197):=k82
            go_wp2_with(first|(refine wpList_load_row rfl 197 _ rfl (w.heap.size+2) rfl 197 M2 (0,0) _ k93 Tryz.underlying197 rfl (qa hM2).info ?_)|(refine wpList_store_row rfl 197 _ _ rfl (w.heap.size+1) M2 rfl rfl 197 yI k83 (qa hM2).info (qa hM2).1.symm (qa hM2).ones ?_))
            exact bodyPost_ret (v:=.agg M2) (results_cell_row Tryz.results211 _ _ (w.heap.size+1) 197 M2 (0,0) _ rfl (setRow_heap _ _ _ _ _ _ k83) Tryz.underlying197 rfl (qa hM2).info) rfl ⟨M2,rfl,(by rw[qa hAFe'];exact qa hM2),kG2.drew.setRow _ (by omega) _⟩
          · go_simp
            refine(qa hone _ hf _).mono ?_
            rintro e w1 ⟨rfl,hww⟩
            have hww':=hww.symm
            subst hww'
            clear hww
            refine hK.out _ _ trivial (fun qD=>?_)
            clear hK K
            refine wpAnyH_ready (rs:=[4,8]) (by kernel_rfl) (by simp) ?_
            refine AllReadyH.cons rfl (fun K hK=>?_) (AllReadyH.cons rfl (fun K hK=>?_) AllReadyH.nil)
            · go_simp
              refine hK.out _ _ trivial (fun qD=>?_)
              clear hK K
              refine C.rd 8 fun K hK=>?_
              go_simp
              refine(qa hone _ ht _).mono ?_
              rintro e w1 ⟨rfl,hww⟩
              have hww':=hww.symm
              subst hww'
              clear hww
              refine hK.out _ _ trivial (fun qD=>?_)
              clear hK K
              refine C.tq 9 (.int .u64 (U (1#64 <<< f ||| 1#64 <<< t))) qD ?_
              refine C.tq 10 (.int .u64 (U (zS m q G 6 (o+place) ^^^ (1#64 <<< f ||| 1#64 <<< t)))) qD ?_
              refine C.tq 11 (.pointer (some ⟨w.heap.size+2,o+place,none⟩)) qD ?_
              refine C.rd 12 fun K hK=>?_
              go_simp
              refine hK.out _ _ trivial (fun qD=>?_)
              clear hK K
              refine wpAnyH_done (by kernel_rfl) ?_ _
              have hM2:=qC (qxx (m':=AF) (j:=o+place) (qa kM') (by omega) (fun i hi=>by rw[qa haf];simp only[qF hi,qa hQ']))
              have hAF:AF (o+place)=zS m q G 6 (o+place) ^^^ (1#64 <<< f ||| 1#64 <<< t):=by rw[qa haf];simp only[if_true,qa hQ']
              rw[hAF]at hM2
              have k92:=qv (i:=o+place) (v:=.int .u64 (U (zS m q G 6 (o+place) ^^^ (1#64 <<< f ||| 1#64 <<< t)))) (qa k9')
              have k82:(wr.setCell ⟨w.heap.size+2,o+place,none⟩ (.int .u64 (U (zS m q G 6 (o+place) ^^^ (1#64 <<< f ||| 1#64 <<< t))))).heap[w.heap.size+1]?=some (.cells yI 197):=by rw[Below.heap_setCell _ _ _ _ (by simp)];exact qa k8'
              have kG2:Gr w (wr.setCell ⟨w.heap.size+2,o+place,none⟩ (.int .u64 (U (zS m q G 6 (o+place) ^^^ (1#64 <<< f ||| 1#64 <<< t))))):=Below.setCell (qa kG') (show w.heap.size<=w.heap.size+2 by omega) _
              generalize (wr.setCell ⟨w.heap.size+2,o+place,none⟩ (.int .u64 (U (zS m q G 6 (o+place) ^^^ (1#64 <<< f ||| 1#64 <<< t)))))=wz at k92 k82 kG2 ⊢
              generalize M.setIfInBounds (o+place) (.int .u64 (U (zS m q G 6 (o+place) ^^^ (1#64 <<< f ||| 1#64 <<< t))))=M2 at k92 hM2
              clear d1 d2
              have k93:wz.drew.heap[w.heap.size+2]?=some (.cells M2 197):=k92
              have k83:wz.drew.heap[w.heap.size+1]?=some (.cells yI 197):=k82
              go_wp2_with(first|(refine wpList_load_row rfl 197 _ rfl (w.heap.size+2) rfl 197 M2 (0,0) _ k93 Tryz.underlying197 rfl (qa hM2).info ?_)|(refine wpList_store_row rfl 197 _ _ rfl (w.heap.size+1) M2 rfl rfl 197 yI k83 (qa hM2).info (qa hM2).1.symm (qa hM2).ones ?_))
              exact bodyPost_ret (v:=.agg M2) (results_cell_row Tryz.results211 _ _ (w.heap.size+1) 197 M2 (0,0) _ rfl (setRow_heap _ _ _ _ _ _ k83) Tryz.underlying197 rfl (qa hM2).info) rfl ⟨M2,rfl,(by rw[qa hAFe'];exact qa hM2),kG2.drew.setRow _ (by omega) _⟩
            · go_simp
              refine(qa hone _ ht _).mono ?_
              rintro e w1 ⟨rfl,hww⟩
              have hww':=hww.symm
              subst hww'
              clear hww
              refine hK.out _ _ trivial (fun qD=>?_)
              clear hK K
              refine C.tq 9 (.int .u64 (U (1#64 <<< f ||| 1#64 <<< t))) qD ?_
              refine C.rd 4 fun K hK=>?_
              go_simp
              refine hK.out _ _ trivial (fun qD=>?_)
              clear hK K
              refine C.tq 10 (.int .u64 (U (zS m q G 6 (o+place) ^^^ (1#64 <<< f ||| 1#64 <<< t)))) qD ?_
              refine C.tq 11 (.pointer (some ⟨w.heap.size+2,o+place,none⟩)) qD ?_
              refine C.rd 12 fun K hK=>?_
              go_simp
              refine hK.out _ _ trivial (fun qD=>?_)
              clear hK K
              refine wpAnyH_done (by kernel_rfl) ?_ _
              have hM2:=qC (qxx (m':=AF) (j:=o+place) (qa kM') (by omega) (fun i hi=>by rw[qa haf];simp only[qF hi,qa hQ']))
              have hAF:AF (o+place)=zS m q G 6 (o+place) ^^^ (1#64 <<< f ||| 1#64 <<< t):=by rw[qa haf];simp only[if_true,qa hQ']
              rw[hAF]at hM2
              have k92:=qv (i:=o+place) (v:=.int .u64 (U (zS m q G 6 (o+place) ^^^ (1#64 <<< f ||| 1#64 <<< t)))) (qa k9')
              have k82:(wr.setCell ⟨w.heap.size+2,o+place,none⟩ (.int .u64 (U (zS m q G 6 (o+place) ^^^ (1#64 <<< f ||| 1#64 <<< t))))).heap[w.heap.size+1]?=some (.cells yI 197):=by rw[Below.heap_setCell _ _ _ _ (by simp)];exact qa k8'
              have kG2:Gr w (wr.setCell ⟨w.heap.size+2,o+place,none⟩ (.int .u64 (U (zS m q G 6 (o+place) ^^^ (1#64 <<< f ||| 1#64 <<< t))))):=Below.setCell (qa kG') (show w.heap.size<=w.heap.size+2 by omega) _
              generalize (wr.setCell ⟨w.heap.size+2,o+place,none⟩ (.int .u64 (U (zS m q G 6 (o+place) ^^^ (1#64 <<< f ||| 1#64 <<< t)))))=wz at k92 k82 kG2 ⊢
              generalize M.setIfInBounds (o+place) (.int .u64 (U (zS m q G 6 (o+place) ^^^ (1#64 <<< f ||| 1#64 <<< t))))=M2 at k92 hM2
              clear d1 d2
              have k93:wz.drew.heap[w.heap.size+2]?=some (.cells M2 197):=k92
              have k83:wz.drew.heap[w.heap.size+1]?=some (.cells yI 197):=k82
              go_wp2_with(first|(refine wpList_load_row rfl 197 _ rfl (w.heap.size+2) rfl 197 M2 (0,0) _ k93 Tryz.underlying197 rfl (qa hM2).info ?_)|(refine wpList_store_row rfl 197 _ _ rfl (w.heap.size+1) M2 rfl rfl 197 yI k83 (qa hM2).info (qa hM2).1.symm (qa hM2).ones ?_))
              exact bodyPost_ret (v:=.agg M2) (results_cell_row Tryz.results211 _ _ (w.heap.size+1) 197 M2 (0,0) _ rfl (setRow_heap _ _ _ _ _ _ k83) Tryz.underlying197 rfl (qa hM2).info) rfl ⟨M2,rfl,(by rw[qa hAFe'];exact qa hM2),kG2.drew.setRow _ (by omega) _⟩
variable {m:Nat->BitVec 64}{wh:Bool}{own oth beh:BitVec 64}{fc:Nat->Bool}{FA:Array Value}
def kE(m:Nat->BitVec 64)(wh:Bool)(beh:BitVec 64)(place f t:Nat):Bool:=!(uG (zV m wh beh place f t) (zV m wh beh place f t (bg wh+5)) wh)
def putMen(FA M:Array Value):Array Value:=put 0 M FA
theorem pO.putMen{m':Nat->BitVec 64}{M:Array Value}(r:pO m wh own oth beh fc FA)(h:jS m' M):pO m' wh own oth beh fc (putMen FA M):=by
 have p:=zo 0 M FA;have hz:=r.size
 have hp:∀i,(C.putMen FA M)[i]?=if i<12 then M[i]? else FA[i]?:=fun i=>by
  have:=p.2 i (by rw[h.1,hz];omega);unfold C.putMen;rw[this,h.1];simp
 refine⟨by unfold C.putMen;rw[p.1];exact hz,fun i hi=>?_,?_,?_,?_,?_,fun i hi=>?_⟩
 ·rw[hp,qI hi];exact h.2 i hi
 ·rw[hp,qF (by omega)];exact r.wh
 ·rw[hp,qF (by omega)];exact r.own
 ·rw[hp,qF (by omega)];exact r.oth
 ·rw[hp,qF (by omega)];exact r.beh
 ·rw[hp,qF (by omega)];exact r.c i hi
theorem zx{B b:Nat}{a:World}(hb:B<=b):∀(vs:List Value)(o:Nat)(w:World),Below B a w->Below B a (w.setCells b o vs)
 | [],_,_,h=>h
 | v :: r,o,_,h=>zx hb r (o+1) _ (h.setCell (p:=⟨b,o,none⟩) hb v)
theorem mN{M:Array Value}(hz:FA.size=20)(hM:M.size=12)(i:Nat):(putMen FA M)[i]?=if i<12 then M[i]? else FA[i]?:=by
 have:=(zo 0 M FA).2 i (by rw[hM,hz];omega);unfold putMen;rw[this,hM];simp
theorem bF{b n:Nat}{W:World}{t:TypeId}(h:W.heap[b]?=some (.cells FA t))(hn:n<=FA.size):W.there b 0 n:=fun j hj=>by
 constructor
 ·rw[cell_of_row _ _ _ _ _ _ h,qQ (by omega)];rfl
 ·simp[World.frozen?,h]
theorem yk.putMen{b:Nat}{W:World}{t:TypeId}{M:Array Value}(h:W.heap[b]?=some (.cells FA t))(hz:FA.size=20)(hM:M.size=12):yk b (putMen FA M) (W.setCells b 0 M.toList):=by
 refine⟨qN (qB.1 h).1 (zx (B:=0) (Nat.zero_le _) _ _ _ (Below.refl _ _)).size,fun j v hv=>?_⟩;rw[qO,mN hz hM]at hv;by_cases hj:j<12
 ·rw[qI hj]at hv;have:=World.cell?_setCells_in b M.toList 0 W (fun i hi=>(bF (n:=12) h (by rw[hz];omega) i (by simpa[hM]using hi)).1) j (by simp[hM];exact hj);rw[this];rw[<-hv,qQ (by rw[hM];exact hj)];simp
 ·rw[qF hj]at hv;rw[World.cell?_setCells_out b M.toList 0 W _ (fun _ _=>.inr (by simp[hM];omega)),cell_of_row _ _ _ _ _ _ h,Nat.zero_add];exact hv
theorem mf(r:pO m wh own oth beh fc FA)(place f t:Nat)(hp:place<6)(hf:f<64)(ht:t<64)(w:World)(hT:jF w):Calls Tryz.prog 134 #[.agg FA,.int .i64 (place:Int),.int .i64 (f:Int),.int .i64 (t:Int)] w fun e w'=>e=.returned (.bool (kE m wh beh place f t))/\Gr w w':=by
 have hr:=qC r;have hfa:=yk.new w FA 202;have hg1:=(Gr.refl w).alloc FA 202;have hh1:=World.alloc_heap_new w (.cells FA 202);have haf:=qC (fun W=>nj r place f t hp hf ht W);clear r;go_enter Tryz.func134,Tryz.ntmps134
 go_upto_region 2 with(first
  | (go_at_call 211;refine(qa haf _).mono ?_;rintro e w' ⟨M,rfl,hM,hg2⟩)
  | (refine jd (by rfl) _ rfl w.heap.size rfl (qa hr).size hfa ?_)
  | (refine wpList_store_mid rfl 197 _ _ rfl w.heap.size 0 M rfl rfl (bF ((Below.block hg2 _ (by rw[World.size_alloc];omega)).trans hh1) (by rw[hM.1,(qa hr).size];omega)) hM.info hM.ones ?_))
 have hb2:=(Below.block hg2 w.heap.size (by rw[World.size_alloc];omega)).trans hh1;have hr2:=qC ((qa hr).putMen hM);have hH:HF w w.heap.size (putMen FA M) (w'.setCells w.heap.size 0 M.toList).drew:=⟨(yk.putMen hb2 (qa hr).size hM.1).gr (Gr.refl _).drew,(zx (qL _) _ _ _ (Gr.trans hg1 hg2)).drew⟩;have hM':=qC hM;clear hM hb2 hg2 hfa hg1 hh1 haf;generalize w'.setCells w.heap.size 0 M.toList=w2 at hH ⊢;generalize hFA2:putMen FA M=F2 at hr2 hH;clear hFA2;have hki:=qC (fun W=>FL (zV m wh beh place f t) _ (qa hr2).isMen wh W);have hany:=qC (fun s W hT=>qv0 (qa hr2) s W hT);have hle:Hid (kE m wh beh place f t=!(uG (zV m wh beh place f t) (zV m wh beh place f t (bg wh+5)) wh)):=qC rfl;generalize hLe:kE m wh beh place f t=L at hle;have hLe':=qC hLe;clear hLe;have hz2:=qC (qa hr2).size;generalize zV m wh beh place f t=AF at hr2 hki hany hle hM';refine wp_region_held_drew (S:=HF w w.heap.size F2) (by kernel_rfl) hH (fun qD=>?_);refine C.ty 0 (.agg F2) rfl (cX (qa hz2) (by rfl) _ rfl w.heap.size rfl (fun _ h=>h.1)) qD ?_;refine C.ty 1 (.pointer (some ⟨w.heap.size,0,none⟩)) rfl (Or.inl ⟨by rfl,fun w hw=>(by have c12:=hw.1.cell (qa hr2).wh;go_simp)⟩) qD ?_;refine C.ty 2 (.agg (vw F2)) rfl (oE (qa hr2) (by rfl) _ rfl w.heap.size rfl (fun _ h=>h.1)) qD ?_;refine C.ty 3 (.pointer (some ⟨w.heap.size,12,none⟩)) rfl (Or.inl ⟨by rfl,fun w hw=>(by have c12:=hw.1.cell (qa hr2).wh;go_simp)⟩) qD ?_;refine C.ty 4 (.bool wh) rfl (Or.inl ⟨by rfl,fun w hw=>(by have c12:=hw.1.cell (qa hr2).wh;go_simp)⟩) qD ?_;refine C.rd 5 fun K hK=>?_
 go_simp;refine(qa hki _).mono ?_;rintro e wa ⟨rfl,hga⟩;refine hK.out _ _ (qD.gr hga) (fun qD=>?_);clear hK K hga;refine C.rd 6 fun K hK=>?_
 go_simp;refine(qa hany _ _ (hT.gr qD.2)).mono ?_;rintro e wb ⟨rfl,hgb⟩;refine hK.out _ _ (qD.gr hgb) (fun qD=>?_);clear hK K hgb;refine C.ty 7 (.bool L) rfl (Or.inl ⟨by rfl,fun w hw=>(by rw[qa hle];go_simp)⟩) qD ?_;refine C.rd 8 fun K hK=>?_
 go_simp;refine hK.out _ _ qD (fun qD=>?_);clear hK K;refine wpAnyH_done (by kernel_rfl) ?_ _;go_wp2_with fail;go_ret;exact⟨by rw[qa hLe'];rfl,qD.2⟩
end
end Go.Proofs.YtnfakamfmkhlbabGreatDoor.C
