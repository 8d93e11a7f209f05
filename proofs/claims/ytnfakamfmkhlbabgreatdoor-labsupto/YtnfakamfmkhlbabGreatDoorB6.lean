import Derived.Test.YtnfakamfmkhlbabGreatDoorB5
set_option maxRecDepth 100000
set_option maxHeartbeats 4000000
set_option linter.all false
open Go.Value renaming int->I,bool->Za,string->Zb,agg->Zc,tuple->Ze,slice->Zq
open Go.IntKind renaming i64->L,u8->Zg,u64->Zh
open Go.Obj renaming cells->Z
open Go.Ending renaming returned->Zd
open Or renaming inl->Zi,inr->Zj
open Option renaming some->S,none->N
open Bool renaming true->Zk,false->Zl
open Decidable renaming decide->Zm
open Go.RowKit renaming Hid->Y
open Go renaming World->I6,Value->I7
namespace Go.Proofs.YtnfakamfmkhlbabGreatDoor.C
open Go.ChangeShapes Go.WideShapes Go.ChangeAt Go.RowKit Go.Shelf Go.Proofs.YtnfakamfmkhlbabGreatDoor.P Tryz
attribute [local go_sem] qd qe Oper.semAt_some
variable {z:I2}{wh:Bool}{b h m:Int}{PA A M:I0}{fc:I5}{w W a w' w1 V:I6}{f n i k g base d e l j x B Bp:Nat}{v:I7}{u:UInt8}{Q:Nat->Obj->Prop}{rs:I3}{y:I1}
section
variable {m:I8}{wh:Bool}{own oth beh:BitVec 64}{fc:I5}{FA:I0}
def xE(i:Nat):Nat:=if i=0 then 6 else if i=1 then 2 else if i=2 then 62 else 58
def yX(i:Nat):BitVec 64:=if i=0 then 96#64 else if i=1 then 14#64 else if i=2 then 6917529027641081856#64 else 1008806316530991104#64
def yW(i:Nat):BitVec 64:=if i=0 then 112#64 else if i=1 then 28#64 else if i=2 then 8070450532247928832#64 else 2017612633061982208#64
def yD(m:I8)(wh:Bool)(own oth:BitVec 64)(fc:I5)(i:Nat):Bool:=fc i&&(wh==Zm (i<2))&&Zm ((own ||| oth) &&& yX i=0#64)&&!(uG m (yW i) wh)
def kp(m:Nat->BitVec 64)(wh:Bool)(own oth:BitVec 64)(fc:Nat->Bool):Nat->BitVec 64
 | 0=>0#64
 | k+1=>if yD m wh own oth fc k then kp m wh own oth fc k ||| 1#64 <<< xE k else kp m wh own oth fc k
def pY:List I7:=[I L 6,I Zh 96,I Zh 112,I L 2,I Zh 14,I Zh 28,I L 62,I Zh 6917529027641081856,I Zh 8070450532247928832,I L 58,I Zh 1008806316530991104,I Zh 2017612633061982208]
def jQ(w:I6):Prop:=w.rangeAt 3 0 pY/\3<w.heap.size
theorem jQ.gr(h:jQ w)(g:Gr w w'):jQ w' :=
 ⟨λj v a=>(ZW g (p:=⟨_,0+j,N⟩) h.2).trans (h.1 j v a),qN h.2 (ZR g)⟩
theorem Bo:(prog.info? 315).map (·.size)=S pY.length:=WR
theorem ixc0(w:I6):(Instr.index 315 (Zc pY.toArray) (I L 0)).run prog w=.ok (Zc #[I L 6,I Zh 96,I Zh 112]) w:=WR
theorem ixc1(w:I6):(Instr.index 315 (Zc pY.toArray) (I L 1)).run prog w=.ok (Zc #[I L 2,I Zh 14,I Zh 28]) w:=WR
theorem ixc2(w:I6):(Instr.index 315 (Zc pY.toArray) (I L 2)).run prog w=.ok (Zc #[I L 62,I Zh 6917529027641081856,I Zh 8070450532247928832]) w:=WR
theorem ixc3(w:I6):(Instr.index 315 (Zc pY.toArray) (I L 3)).run prog w=.ok (Zc #[I L 58,I Zh 1008806316530991104,I Zh 2017612633061982208]) w:=WR
theorem ixc5(k:Nat)(a:k<4)(w:I6):(Instr.index 315 (Zc pY.toArray) (I L k)).run prog w=.ok (Zc #[I L (xE k:Nat),I Zh (U (yX k)),I Zh (U (yW k))]) w:=by
 have:k=0\/k=1\/k=2\/k=3:=O;obtain rfl|rfl|rfl|rfl:=this
 .exact(ixc0 w).trans Vb
 .exact(ixc1 w).trans Vb
 .exact(ixc2 w).trans Vb
 .exact(ixc3 w).trans Vb
theorem Uz(x:BitVec 64):U x=0↔x=0#64:=⟨λh=>pE (h.trans WS),λh=>by rw[h];decide +kernel⟩
theorem lP(k:Nat):xE k<64:=Oa
theorem aQ(r:pO m wh own oth beh fc FA)(w:I6)(e:jF w)(Z:jQ w):ZL 210 #[Zc FA] w (I Zh (U (kp m wh own oth fc 4))):=by
 have K:=X r;have a7:=X r.size;have o:=X ((Gr.refl w).alloc FA 202);have G:=X (yk.new w FA 202);have b1:=X Z;have T:=X e;clear r Z e;generalize hL:pY.toArray=CL;go_enter func210,ntmps210;go_wp2_with(refine Yo R 315 _ R 3 0 R pY _ (b1.a.gr o.a).1 underlying315 rfl Bo ?_);generalize w.alloc (.cells FA 202)=w1 at o G |-;go_loopg [3,7] 4 (λgg x n wr=>∃k:Nat,k+gg=4/\n=I L k/\x=I Zh (U (kp m wh own oth fc k))/\Gr w1 wr)
 case atStart=>exact⟨0,R,R,Vb,ZO⟩
 case round=>
  obtain⟨k,k1,rfl,rfl,H⟩:=hrel;have d:=X H;clear H;by_cases J:k<4
  .have a6:=ixc5 k J;rw[hL]at a6;have v:=X ((G.a.gr d.a).gr ((Gr.refl wr).alloc #[I L (xE k:Nat),I Zh (U (yX k)),I Zh (U (yW k))] 314));have P:=v.a.cell K.a.wh;have Q:=v.a.cell K.a.own;have a8:=v.a.cell K.a.oth;have B:=v.a.cell (K.a.c k J);have a2:0<=(k:Int):=O;have a3:(k:Int)<4:=O;have g:=X (λW e=>qv0 K.a (yW k) W e);have z:=X (T.a.gr (Gr.trans (Gr.trans o.a d.a) ((Gr.refl wr).alloc #[I L (xE k:Nat),I Zh (U (yX k)),I Zh (U (yW k))] 314)));have l:=X (λW=>A9 (xE k:Nat) O (by have:=lP k;omega) W);rw[rp _ (lP k)]at l;have a4:∀x y:BitVec 64,bits .or Zh (U x) (U y)=U (x ||| y):=uQ;have a0:∀x y:BitVec 64,bits .and Zh (U x) (U y)=U (x &&& y):=im;have a:Y (yD m wh own oth fc k=(fc k&&(wh==Zm (k<2))&&Zm ((own ||| oth) &&& yX k=0#64)&&!(uG m (yW k) wh))):=X R;have f:Y (kp m wh own oth fc (k+1)=if yD m wh own oth fc k then kp m wh own oth fc k ||| 1#64 <<< xE k else kp m wh own oth fc k):=X R;have b0:(U ((own ||| oth) &&& yX k)==0)=Zm ((own ||| oth) &&& yX k=0#64):=by rw[YW];simp[Uz]
   have a9:Zm ((k:Int)<2)=Zm (k<2):=WX;generalize yD m wh own oth fc k=OK at a f;generalize Zm ((own ||| oth) &&& yX k=0#64)=c3 at a b0;generalize Zm (k<2)=c2 at a a9;generalize fc k=c1 at a B;generalize uG m (yW k) wh=c4 at a g;generalize F:kp m wh own oth fc (k+1)=p at f;have b:=X F;clear F;have u:(wr.alloc (.cells #[I L (xE k:Nat),I Zh (U (yX k)),I Zh (U (yW k))] 314)).cell? ⟨wr.heap.size,0,N⟩=S (I L (xE k:Nat)):=Ug;have C:(wr.alloc (.cells #[I L (xE k:Nat),I Zh (U (yX k)),I Zh (U (yW k))] 314)).cell? ⟨wr.heap.size,1,N⟩=S (I Zh (U (yX k))):=Ug;have D:(wr.alloc (.cells #[I L (xE k:Nat),I Zh (U (yX k)),I Zh (U (yW k))] 314)).cell? ⟨wr.heap.size,2,N⟩=S (I Zh (U (yW k))):=Ug;have h:=X (d.a.alloc #[I L (xE k:Nat),I Zh (U (yX k)),I Zh (U (yW k))] 314);have E:wr.heap.size<(wr.alloc (.cells #[I L (xE k:Nat),I Zh (U (yX k)),I Zh (U (yW k))] 314)).heap.size:=Vj;have j:=X E;clear E;go_upto_region 5 with fail;clear a6;generalize (wr.alloc (.cells #[I L (xE k:Nat),I Zh (U (yX k)),I Zh (U (yW k))] 314))=wk at v z P Q a8 B u C D h j |-;generalize wr.heap.size=M at u C D j |-;clear d;by_cases A:(c1&&(wh==c2)&&c3)=Zk
   .obtain⟨⟨rfl,i⟩,rfl⟩:(c1=Zk/\(wh==c2)=Zk)/\c3=Zk:=by simpa using A
    clear A;cases c4
    .have hN:Y (p=kp m wh own oth fc k ||| 1#64 <<< xE k):=X (by rw[f.a,a.a,i];rfl);clear f a;go_wp2_with(first
      | (go_at_call 212;refine Z0 (g.a _ z.a) λwa q=>?_;have a1:=(ZW q (p:=⟨M,0,N⟩) j.a).trans u)
      | (go_at_call 204;refine Z1 (l.a _) ?_)
      | (refine jd Vb _ R w.heap.size R a7.a v.a ?_))
     exact Iv
    .have hN:Y (p=kp m wh own oth fc k):=X (by rw[f.a,a.a,i];rfl);clear f a;go_wp2_with(first
      | (go_at_call 212;refine Z0 (g.a _ z.a) λwa q=>?_)
      | (refine jd Vb _ R w.heap.size R a7.a v.a ?_))
     exact Iv
   .have hN:Y (p=kp m wh own oth fc k):=X (by
     rw[f.a,a.a];have:(c1&&(wh==c2)&&c3)=Zl:=by simpa using A
     rw[this];rfl)
    clear f a g l;cases c1
    .clear A;exact OR
    .by_cases i:(wh==c2)=Zk
     .have V:c3=Zl:=by
       cases c3
       .rfl
       .exact absurd (by rw[i];rfl) A
      subst V;clear A;exact OR
     .have a5:(wh==c2)=Zl:=by simpa using i
      clear A i;exact OR
  .have ek:k=4:=O;subst ek;go_wp2_with fail;go_ret;exact⟨R,Gr.trans o.a d.a⟩
variable {m:I8}{wh:Bool}{own oth beh:BitVec 64}{fc:I5}{FA:I0}
def kN(m:I8)(wh:Bool)(own oth beh:BitVec 64)(fc:I5)(place kind f:Nat):BitVec 64 :=
 if place=0 then(jW kind f (own ||| oth) &&& (oth ||| beh)) ||| k7 wh own oth f
 else if place=5 then(jW kind f (own ||| oth) &&& ~~~own) ||| kp m wh own oth fc 4
 else jW kind f (own ||| oth) &&& ~~~own
theorem om(r:pO m wh own oth beh fc FA)(b g f:Nat)(M:1<=g)(a7:g<=7)(a3:f<64)(w:I6)(a2:jF w)(H:jQ w):ZL 133 #[Zc FA,I L b,I L g,I L f] w (I Zh (U (kN m wh own oth beh fc b g f))):=by
 have d:=X r;have a4:=X r.size;have o:=yk.new w FA 202;have p:=(Gr.refl w).alloc FA 202;have i:=o.cell r.own;have j:=o.cell r.oth;have k:=o.cell r.beh;have u:=X (λW=>qjg (g:Int) (f:Int) (U (own ||| oth)) O O O O W);rw[ik g f M a7 a3]at u;have B:=X (λW=>ni r f a3 W);have D:=X (λW a2 H=>aQ r W a2 H);have A:=X (a2.gr p);have z:=X (H.gr p);have n:Y (kN m wh own oth beh fc b g f=if b=0 then(jW g f (own ||| oth) &&& (oth ||| beh)) ||| k7 wh own oth f else if b=5 then(jW g f (own ||| oth) &&& ~~~own) ||| kp m wh own oth fc 4 else jW g f (own ||| oth) &&& ~~~own):=X R;clear r a2 H;generalize a6:kN m wh own oth beh fc b g f=J at n;clear a6;generalize jW g f (own ||| oth)=e at u n;generalize k7 wh own oth f=P at B n;generalize kp m wh own oth fc 4=Q at D n;have a1:∀x y:BitVec 64,bits .or Zh (U x) (U y)=U (x ||| y):=uQ;have V:∀x y:BitVec 64,bits .and Zh (U x) (U y)=U (x &&& y):=im;have a0:∀x y:BitVec 64,bits .andNot Zh (U x) (U y)=U (x &&& ~~~y):=qk1;go_enter func133,ntmps133;go_upto_region 2 with(go_at_call 206;refine Z1 (u.a _) ?_);generalize a5:w.alloc (Z FA 202)=w1 at o p i j k A z |-;clear a5;have T:HF w w.heap.size FA w1.drew:=⟨o.gr ZO.drew,p.drew⟩;by_cases v:b=0
 .have a8:((b:Int)==0)=Zk:=WX;have hN:Y (J=e &&& (oth ||| beh) ||| P):=X (by rw[n.a,qI v]);clear n v;go_upto_region 4 with fail;refine ZT (S:=HF w w.heap.size FA) WR T (λl=>?_);refine ZB 0 (I Zh (U e)) R (λw a=>Va) l ?_;refine ZB 1 (.pointer (S ⟨w.heap.size,14,N⟩)) R (λw a=>Va) l ?_;refine ZB 2 (I Zh (U oth)) R (λw a=>Va) l ?_;refine ZB 3 (.pointer (S ⟨w.heap.size,15,N⟩)) R (λw a=>Va) l ?_;refine ZB 4 (I Zh (U beh)) R (λw a=>Va) l ?_;refine ZB 5 (I Zh (U (oth ||| beh))) rfl (λw a=>Va) l ?_;refine ZB 6 (I Zh (U (e &&& (oth ||| beh)))) rfl (λw a=>Va) l ?_;refine ty 7 (Zc FA) R (cX a4.a Vb _ R w.heap.size R (λ_ h=>h.1)) l ?_;refine ZB 8 (I L f) R (λw a=>Va) l ?_;refine rd 9 λK hK=>?_;go_simp;refine Z0 (B.a _) λF q=>?_;refine hK.out _ _ (l.gr q) λl=>?_;clear hK K q;refine ZB 10 (I Zh (U (e &&& (oth ||| beh) ||| P))) rfl (λw a=>Va) l ?_;refine rd 11 λK hK=>?_;exact O6
 .have a8:((b:Int)==0)=Zl:=WX;by_cases G:b=5
  .have E:((b:Int)==5)=Zk:=WX;have hN:Y (J=e &&& ~~~own ||| Q):=X (by rw[n.a,qF v,qI G]);clear n v G;go_upto_region 6 with fail;refine ZT (S:=HF w w.heap.size FA) WR T (λl=>?_);refine ZB 0 (I Zh (U e)) R (λw a=>Va) l ?_;refine ZB 1 (.pointer (S ⟨w.heap.size,13,N⟩)) R (λw a=>Va) l ?_;refine ZB 2 (I Zh (U own)) R (λw a=>Va) l ?_;refine ZB 3 (I Zh (U (e &&& ~~~own))) R (λw a=>Va) l ?_;refine ty 4 (Zc FA) R (cX a4.a Vb _ R w.heap.size R (λ_ h=>h.1)) l ?_;refine rd 5 λK hK=>?_;go_simp;refine Z0 (D.a _ (A.a.gr ZO.drew) (z.a.gr ZO.drew)) λF q=>?_;refine hK.out _ _ (l.gr q) λl=>?_;clear hK K q;refine ZB 6 (I Zh (U (e &&& ~~~own ||| Q))) rfl (λw a=>Va) l ?_;refine rd 7 λK hK=>?_;exact O6
  .have E:((b:Int)==5)=Zl:=WX;have hN:Y (J=e &&& ~~~own):=X (by rw[n.a,qF v,qF G]);clear n v G;go_wp2_with fail;go_ret;exact⟨by rw[hN.a];rfl,p⟩
def vV(b:Int):BitVec 64:=if 0<=b then 1#64 <<< b.toNat else 0#64
def ZF:I0:=#[I Zh 0,I Zh 0,I Zh 0,I Zh 0,I Zh 0,I Zh 0,I Zh 0,I Zh 0,I Zh 0,I Zh 0,I Zh 0,I Zh 0,Za Zl,I Zh 0,I Zh 0,I Zh 0,Za Zl,Za Zl,Za Zl,Za Zl]
theorem Cb(a:List (Nat × I7)):prog.built 202 a=Instr.fill (λi=>(#[(0,12),(12,1),(13,1),(14,1),(15,1),(16,4)]:Array (Nat × Nat))[i]?) ZF a:=WR
def vC(M:I0)(wh:Bool)(own oth beh:BitVec 64)(fc:I5):I0:=M++#[Za wh,I Zh (U own),I Zh (U oth),I Zh (U beh),Za (fc 0),Za (fc 1),Za (fc 2),Za (fc 3)]
theorem xl(h:M.size=12){own a beh:BitVec 64}:(vC M wh own a beh fc).size=20:=by simp[vC,h]
theorem Ef{m:I8}(h:jS m M)(wh:Bool)(own b beh:BitVec 64)(fc:I5):pO m wh own b beh fc (vC M wh own b beh fc):=by
 have a:=h.1;refine⟨xl h.1,λi d=>?_,?_,?_,?_,?_,λi d=>?_⟩
 .rw[vC,Xx O];exact h.2 i d
 .rw[vC,Yw O,a];rfl
 .rw[vC,Yw O,a];rfl
 .rw[vC,Yw O,a];rfl
 .rw[vC,Yw O,a];rfl
 .have:i=0\/i=1\/i=2\/i=3:=O;rcases this with rfl|rfl|rfl|rfl<;>(rw[vC,Yw O,a];rfl)
theorem tI(h:M.size=12)(wh:Bool)(own a beh x:BitVec 64)(fc:I5):(vC M wh own a beh fc).setIfInBounds 15 (I Zh (U x))=vC M wh own a x fc:=by simp_all[xl,qI,vC,qF]
theorem Cs:ZF.size=20:=R
theorem qzw(M:I0)(b:M.size=12)(wh:Bool)(own a:BitVec 64)(fc:I5) :
 prog.built 202 [(0,Zc M),(1,Za wh),(2,I Zh (U own)),(3,I Zh (U a)),(5,Zc #[Za (fc 0),Za (fc 1),Za (fc 2),Za (fc 3)])]=S (vC M wh own a 0#64 fc):=by
 rw[Cb];have f:=zo 0 M ZF;have p1:=zo 12 #[Za wh] (put 0 M ZF);have p2:=zo 13 #[I Zh (U own)] (put 12 #[Za wh] (put 0 M ZF));have p3:=zo 14 #[I Zh (U a)] (put 13 #[I Zh (U own)] (put 12 #[Za wh] (put 0 M ZF)));have p4:=zo 16 #[Za (fc 0),Za (fc 1),Za (fc 2),Za (fc 3)] (put 14 #[I Zh (U a)] (put 13 #[I Zh (U own)] (put 12 #[Za wh] (put 0 M ZF))));have z:=Cs;rw[xv _ _ 0 0 12 _ _ R (by simpa[Value.cells]using b) O,
  xv _ _ 1 12 1 _ _ R R Vl,xv _ _ 2 13 1 _ _ R R Vl,
  xv _ _ 3 14 1 _ _ R R Vl,xv _ _ 5 16 4 _ _ R R Vl]
 simp only[Instr.fill,Value.cells,Xh];apply YV;intro i;rw[p4.2 i WX,p3.2 i WX,p2.2 i WX,p1.2 i WX,f.2 i O];by_cases d:i<12
 .rw[qF O,qF O,qF O,qF O,qI ⟨O,O⟩,vC,Xx O];simp
 .rw[vC,Yw O,b];by_cases e:i<20
  .have:i=12\/i=13\/i=14\/i=15\/i=16\/i=17\/i=18\/i=19:=O;rcases this with rfl|rfl|rfl|rfl|rfl|rfl|rfl|rfl<;>simp[ZF]<;>decide +kernel
  .rw[qF WX,qF WX,qF WX,qF WX,qF O,Z6 O,Z6 WX]
theorem BB{d:Array Oper}{o:Oper}{a:Act}{S:I6->Prop}(g:Region.wanted o (yielded d a.tmps)=Zk)(t:TypeId)(b:Array (Nat × Operand))(f:o.op=.build t b)(cells:I0)
 (e:prog.built t (b.map λ(i,x)=>(i,a.eval x)).toList=some cells):YieldsIf prog d S o (Zc cells) a:=Or.inl ⟨g,λw _=>by
 unfold execOp;simp only[f,Sem.run_bind,run_build w t _ cells e,XV];rfl⟩
structure ar(z:I2)(wh:Bool)(fc:I5)(w:I6)(PA:I0)(B3:Nat)(M:I0)(W:I6):Prop where
 pa:W.heap[w.heap.size]?=S (Z PA 70)
 me:vh B3 M W
 res:W.heap[w.heap.size+1]?=S (Z ZF 202)
 gr:Gr w W
 wh:W.cell? ⟨w.heap.size,64,N⟩=S (Za wh)
 c0:W.cell? ⟨w.heap.size,65,N⟩=S (Za (fc 0))
 c1:W.cell? ⟨w.heap.size,66,N⟩=S (Za (fc 1))
 c2:W.cell? ⟨w.heap.size,67,N⟩=S (Za (fc 2))
 c3:W.cell? ⟨w.heap.size,68,N⟩=S (Za (fc 3))
end
section
variable {z:I2}{wh:Bool}{fc:I5}{w W W':I6}{PA:I0}{B3:Nat}{M:I0}
theorem ar.next(h:ar z wh fc w PA B3 M W)(g:Gr W W'):ar z wh fc w PA B3 M W':=by have b:=(qB.1 h.pa).1;have a:∀i,W'.cell? ⟨w.heap.size,i,N⟩=W.cell? ⟨w.heap.size,i,N⟩:=λi=>ZW g (p:=⟨w.heap.size,i,N⟩) b;exact⟨(Zz g b).trans h.pa,h.me.gr g,(ZE g h.res),Gr.trans h.gr g,by rw[a];exact h.wh,by rw[a];exact h.c0,by rw[a];exact h.c1,by rw[a];exact h.c2,by rw[a];exact h.c3⟩
theorem ar.drew(h:ar z wh fc w PA B3 M W):ar z wh fc w PA B3 M W.drew:=h.next ZO.drew
theorem ar.alloc(h:ar z wh fc w PA B3 M W)(A:I0)(t:TypeId):ar z wh fc w PA B3 M (W.alloc (Z A t)):=h.next ZN
theorem fS(h:ar z wh fc w PA B3 M W):(W.alloc (Z ZF 202)).heap[W.heap.size]?=S (Z ZF 202)/\w.heap.size+1<W.heap.size/\B3<W.heap.size :=
 ⟨Zv,(qB.1 h.res).1,h.me.1⟩
theorem ar.put(h:ar z wh fc w PA B3 M W)(e:w.heap.size+1<g)(d:B3<g)(A:I0):ar z wh fc w PA B3 M (W.setRow g A):=by have a:∀i,(W.setRow g A).cell? ⟨w.heap.size,i,N⟩=W.cell? ⟨w.heap.size,i,N⟩:=λi=>cell_setRow_other _ _ _ _ (show w.heap.size≠g from O);exact⟨by rw[Zu O];exact h.pa,⟨by rw[Xa];exact h.me.1,λj v b=>by rw[cell_setRow_other _ _ _ _ (show B3≠g from O)];exact h.me.2.1 j v b,h.me.2.2⟩,by rw[Zu O];exact h.res,h.gr.setRow _ O _,by rw[a];exact h.wh,by rw[a];exact h.c0,by rw[a];exact h.c1,by rw[a];exact h.c2,by rw[a];exact h.c3⟩
end
section
theorem Ep{g:Int}(r:jE z wh fc b h g PA):(PA.toList.take 64).toArray.size=64/\∀i,i<64->(PA.toList.take 64).toArray[i]?=S (I Zg (z i).toNat):=by exact IG
theorem aJ{g:Int}(r:jE z wh fc b h g PA)(b7:xO z=Zk)(d2:-1<=b)(d3:b<=63)(w:I6):Calls prog 129 #[Zc PA] w λe w'=>∃FA,e=Zd (Zc FA)/\pO (xD z 64) wh (xZ (xD z 64) wh) (xZ (xD z 64) (!wh)) (vV b) fc FA/\Gr w w':=by
 obtain⟨bs,bA⟩:=Ep r;have Q:=X (λW=>db b7 bs bA W);obtain⟨x1,x2⟩:=x6 w (Z PA 70) (Z ZF 202);have b1:Gr w ((w.alloc (Z PA 70)).alloc (Z ZF 202)):=ZN.al;have a0:((w.alloc (Z PA 70)).alloc (Z ZF 202)).heap.size=w.heap.size+2:=WU;have f3:((w.alloc (Z PA 70)).alloc (Z ZF 202)).rangeAt w.heap.size 0 (PA.toList.take 64):=λj v hv=>by
  rw[Zs x1,Z2];rw[Yv]at hv;split at hv
  .rw[<-qO];exact hv
  .cases hv
 have P:(prog.info? 67).map (·.size)=S (PA.toList.take 64).length:=by rw[x7];simp[r.size]
 have hr:=X r;clear r;generalize (PA.toList.take 64)=f4 at Q f3 P;go_enter func129,ntmps129;go_upto_region 2 with(first
  | (go_at_call 126;refine(Q.a _).mono ?_;rintro e w3 ⟨M,rfl,b5,f0⟩)
  | (refine Yo R 67 _ R w.heap.size 0 R f4 _ f3 underlying67 rfl P ?_)
  | (refine ZU R 197 _ _ R _ M R R 197 yI Zv b5.info b5.1.symm b5.ones ?_))
 have f:=X b5.1;have d1:=X b5;generalize f2:w3.heap.size=d5;have c4:w.heap.size+2<=d5:=by rw[<-f2,<-a0];exact ZR f0
 have f1:ar z wh fc w PA d5 M ((w3.alloc (Z yI 197)).setRow w3.heap.size M):=by
  have y1:=(YG f0 w.heap.size (show w.heap.size<((w.alloc (Z PA 70)).alloc (Z ZF 202)).heap.size by rw[a0];omega)).trans x1;have y2:=(YG f0 (w.heap.size+1) (show w.heap.size+1<((w.alloc (Z PA 70)).alloc (Z ZF 202)).heap.size by rw[a0];omega)).trans x2;have a8:Gr w3 ((w3.alloc (Z yI 197)).setRow w3.heap.size M):=ZN.setRow _ Zy _;have k1:=(Zz a8 O).trans y1;have k2:=(Zz a8 O).trans y2;refine⟨k1,?_,k2,Gr.trans (Gr.trans b1 f0) a8,?_,?_,?_,?_,?_⟩
  .rw[<-f2];exact jt (Zt Zv) b5.1
  .rw[Zs k1];exact hr.a.wh
  .rw[Zs k1];exact hr.a.c 0 O
  .rw[Zs k1];exact hr.a.c 1 O
  .rw[Zs k1];exact hr.a.c 2 O
  .rw[Zs k1];exact hr.a.c 3 O
 rw[f2]at f1;show Code.wp _ _ _ _ ((w3.alloc (Z yI 197)).setRow d5 M);generalize (w3.alloc (Z yI 197)).setRow d5 M=w4 at f1 |-;have E:Y ((vC M wh (xZ (xD z 64) wh) (xZ (xD z 64) (!wh)) 0#64 fc).all (·.oneCell')=Zk):=X (by unfold vC;rw[Wo,b5.ones];simp[Value.oneCell']);have a1:=X (λW=>jp (xD z 64) M b5 wh W);have F:=X (λW=>jp (xD z 64) M b5 (!wh) W);have D:Y (∀x:BitVec 64,pO (xD z 64) wh (xZ (xD z 64) wh) (xZ (xD z 64) (!wh)) x fc (vC M wh (xZ (xD z 64) wh) (xZ (xD z 64) (!wh)) x fc)):=X (λx=>Ef b5 wh _ _ x fc);clear b5 f3 P Q bs bA x1 x2 b1 a0 f0 f2;generalize b0:xZ (xD z 64) wh=p at a1 D E;generalize a9:xZ (xD z 64) (!wh)=o at F D E;have a3:=X b0;have a2:=X a9;clear b0 a9;go_cut [5]from 12 to 26 (λs5 wx=>∃G,s5=ZI G/\wx.heap[G]?=S (Z (vC M wh p o 0#64 fc) 202)/\w.heap.size+1<G/\ar z wh fc w PA d5 M wx)
 case first=>
  refine ZT (S:=ar z wh fc w PA d5 M) WR f1.drew (λd=>?_);refine ty 0 (Zc M) R (pd f.a Vb _ R d5 R (λ_ h=>h.me)) d ?_;refine ZB 1 (.pointer (S ⟨w.heap.size,64,N⟩)) R (λw a=>Vf) d ?_;refine ZB 2 (Za wh) R (λw a=>Vf) d ?_;refine ty 3 (Zc M) R (pd f.a Vb _ R d5 R (λ_ h=>h.me)) d ?_;refine ZB 4 (.pointer (S ⟨w.heap.size,64,N⟩)) R (λw a=>Vf) d ?_;refine ZB 5 (Za wh) R (λw a=>Vf) d ?_;refine ty 7 (Zc M) R (pd f.a Vb _ R d5 R (λ_ h=>h.me)) d ?_;refine ZB 8 (.pointer (S ⟨w.heap.size,64,N⟩)) R (λw a=>Vf) d ?_;refine ZB 9 (Za wh) R (λw a=>Vf) d ?_;refine ZB 10 (Za (!wh)) R (λw a=>Vf) d ?_;refine ZB 12 (.pointer (S ⟨w.heap.size,65,N⟩)) R (λw a=>Vf) d ?_;refine ZB 13 (Zc #[Za (fc 0),Za (fc 1),Za (fc 2),Za (fc 3)]) R (λw a=>Vf) d ?_;refine Xk (rs:=[6,15]) WR WU ?_;refine Yc R (λK hK=>?_) (Yc R (λK hK=>?_) Xb);go_simp;refine Z0 (a1.a _) λwa k=>?_;refine hK.out _ _ (d.next k) λd=>?_;clear hK K k;refine Xk (rs:=[11,15]) WR WU ?_;refine Yc R (λK hK=>?_) (Yc R (λK hK=>?_) Xb);go_simp;refine Z0 (F.a _) λwa k=>?_;refine hK.out _ _ (d.next k) λd=>?_;clear hK K k;refine ty 14 (Zc (vC M wh p o 0#64 fc)) R (BB Vb 202 #[(0,.tmp 12),(1,.tmp 14),(2,.tmp 18),(3,.tmp 23),(5,.tmp 25)] R _ VL) d ?_;refine rd 15 λK hK=>?_;go_simp;have l:=d;refine hK.out _ _ (d.alloc _ _) λd=>?_;have i:=fS l;clear hK K l;rotate_left;go_simp;have l:=d;refine hK.out _ _ (d.alloc _ _) λd=>?_;have i:=fS l;clear hK K l;refine rd 11 λK hK=>?_;go_simp;refine Z0 (F.a _) λwa k=>?_;refine hK.out _ _ (d.next k) λd=>?_;replace i:=YB ((ZE k i.1)) i.2;clear hK K k;refine ty 14 (Zc (vC M wh p o 0#64 fc)) R (BB Vb 202 #[(0,.tmp 12),(1,.tmp 14),(2,.tmp 18),(3,.tmp 23),(5,.tmp 25)] R _ VL) d ?_;rotate_left;go_simp;have l:=d;refine hK.out _ _ (d.alloc _ _) λd=>?_;have i:=fS l;clear hK K l;refine rd 6 λK hK=>?_;go_simp;refine Z0 (a1.a _) λwa k=>?_;refine hK.out _ _ (d.next k) λd=>?_;replace i:=YB ((ZE k i.1)) i.2;clear hK K k;refine rd 11 λK hK=>?_;go_simp;refine Z0 (F.a _) λwa k=>?_;refine hK.out _ _ (d.next k) λd=>?_;replace i:=YB ((ZE k i.1)) i.2;clear hK K k;refine ty 14 (Zc (vC M wh p o 0#64 fc)) R (BB Vb 202 #[(0,.tmp 12),(1,.tmp 14),(2,.tmp 18),(3,.tmp 23),(5,.tmp 25)] R _ VL) d ?_;all_goals
   refine rd 16 λK hK=>?_;rw[qI Vb];refine YQ 202 _ _ R _ (vC M wh p o 0#64 fc) R R 202 ZF i.1 On (by rw[xl f.a];rfl) E.a ?_;refine hK.out _ _ (d.put i.2.1 i.2.2 _) λd=>?_;clear hK K;simp only[py];refine ZZ WR ?_ _;go_wp2_with fail;go_meet
   case rel=>exact⟨_,R,Zt i.1,i.2.1,d⟩
 case rest=>
  obtain⟨G,rfl,i,c6,hF⟩:=hcut;have d0:Y (ar z wh fc w PA d5 M wc):=X hF;have cb:wc.cell? ⟨w.heap.size,69,N⟩=S (I L b):=by rw[Zs hF.pa];exact hr.a.b
  have T:=hF.res;have b2:=hF.gr;clear hF a1 F f1;by_cases hb:0<=b
  .obtain⟨n,rfl⟩:∃n:Nat,b=(n:Int):=⟨b.toNat,O⟩;have hn:n<64:=O;have a5:=X (λW=>A9 (n:Int) O O W);rw[rp n hn]at a5;have a7:Y (vV (n:Int)=1#64 <<< n):=X (by unfold vV;rw[qI hb];simp);have c5:wc.cell? ⟨G,15,N⟩=S (I Zh (U 0#64)):=by rw[Zs i,vC,Yw (by rw[f.a];omega),f.a];rfl
   have f5:wc.frozen? ⟨G,15,N⟩=Zl:=by simp[World.frozen?,i]
   have a6:(wc.setCell ⟨G,15,N⟩ (I Zh (U (1#64 <<< n)))).heap[G]?=S (Z (vC M wh p o (1#64 <<< n) fc) 202):=by rw[qv i,tI f.a]
   have H:(wc.setCell ⟨G,15,N⟩ (I Zh (U (1#64 <<< n)))).heap[w.heap.size+1]?=S (Z ZF 202):=by rw[Yg _ _ _ _ (show w.heap.size+1≠G from O)];exact T
   have a4:Gr w (wc.setCell ⟨G,15,N⟩ (I Zh (U (1#64 <<< n)))):=Yr b2 (show w.heap.size<=G from O) _;have b3:Y ((vC M wh p o (1#64 <<< n) fc).all (·.oneCell')=Zk):=X (by have:=E.a;unfold vC at this |-;rw[Wo]at this |-;simp[Value.oneCell']at this |-;exact this);go_upto_region 5 with(go_at_call 204;refine Z1 (a5.a _) ?_);generalize (wc.setCell ⟨G,15,N⟩ (I Zh (U (1#64 <<< n))))=wz at a6 H a4 |-;have m:(prog.info? 202).map (·.size)=S (vC M wh p o (1#64 <<< n) fc).size:=On;have V:ZF.size=(vC M wh p o (1#64 <<< n) fc).size:=by rw[xl f.a];rfl
   have J:=X (D.a (1#64 <<< n));generalize vC M wh p o (1#64 <<< n) fc=b4 at a6 m V b3 J;go_wp2_with(first|(refine ZV R 202 _ R G R 202 b4 (0,0) _ a6 underlying202 rfl m ?_)|(refine ZU R 202 _ _ R (w.heap.size+1) b4 R R 202 ZF H m V b3.a ?_));exact ZS (v:=Zc b4) (Yp results129 _ _ (w.heap.size+1) 202 b4 (0,0) _ R (Zt H) underlying202 rfl m) R ⟨b4,R,(by rw[a7.a,a3.a,a2.a];exact J.a),a4.setRow _ O _⟩
  .have b6:b=-1:=O;have a7:Y (vV b=0#64):=X (by unfold vV;rw[qF hb]);have m:(prog.info? 202).map (·.size)=S (vC M wh p o 0#64 fc).size:=On;have V:ZF.size=(vC M wh p o 0#64 fc).size:=by rw[xl f.a];rfl
   have J:=X (D.a 0#64);have d4:Zm (0<=b)=Zl:=WX;clear b6 hb D;generalize vC M wh p o 0#64 fc=b4 at i m V E J;go_wp2_with(first|(refine ZV R 202 _ R G R 202 b4 (0,0) _ i underlying202 rfl m ?_)|(refine ZU R 202 _ _ R (w.heap.size+1) b4 R R 202 ZF T m V E.a ?_));exact ZS (v:=Zc b4) (Yp results129 _ _ (w.heap.size+1) 202 b4 (0,0) _ R (Zt T) underlying202 rfl m) R ⟨b4,R,(by rw[a7.a,a3.a,a2.a];exact J.a),b2.setRow _ O _⟩
end
def v7(wh:Bool)(k:Nat):Nat:=if k=0 then(if wh then 1 else 2)else k+2
theorem GL(wh:Bool)(k:Nat):vA (!wh) k=((v7 wh k:Nat):Int):=by unfold vA v7;cases wh<;>split<;>simp_all
def bE(m:I8)(wh:Bool)(beh:BitVec 64)(k f t:Nat):List Mv:=if kE m wh beh k f t then xT (Zm (k=0)) f t else[]
def kF(m:I8)(wh:Bool)(own oth beh:BitVec 64)(fc:I5)(k f:Nat):List Mv:=(vD (kN m wh own oth beh fc k (v7 wh k) f)).flatMap (bE m wh beh k f)
def yN(m:I8)(wh:Bool)(own oth beh:BitVec 64)(fc:I5)(k:Nat):List Mv:=(vD (m (bg wh+k))).flatMap (kF m wh own oth beh fc k)
def zH(m:I8)(wh:Bool)(own oth beh:BitVec 64)(fc:I5)(k:Nat):List Mv:=(List.range k).flatMap (yN m wh own oth beh fc)
theorem aI{α β:Type}{a b:List α}(f:α->List β)(h:a <+: b):a.flatMap f <+: b.flatMap f:=by obtain⟨r,rfl⟩:=h;rw[Xj];exact Xz _ _
theorem qx0{α β:Type}{a b:List α}{x:α}(f:α->List β)(h:a++[x] <+: b):a.flatMap f++f x <+: b.flatMap f:=by have:=aI f h;exact OY
theorem oP(m:I8)(wh:Bool)(own a beh:BitVec 64)(fc:I5)(b:k<6):zH m wh own a beh fc k++yN m wh own a beh fc k <+: zH m wh own a beh fc 6:=by
 have:List.range k++[k] <+: List.range 6:=by refine⟨(List.range 6).drop (k+1),?_⟩;have:k=0\/k=1\/k=2\/k=3\/k=4\/k=5:=O;rcases this with rfl|rfl|rfl|rfl|rfl|rfl<;>decide
 exact qx0 (yN m wh own a beh fc) this
def uK(D:Nat):Deferred:={ target:=.collected D,args:=#[] }
def zY(B:Nat)(Ds:List Nat)(w:I6):Prop:=Ds.Nodup/\∀D∈Ds,B<=D/\w.heap[D]?=S (.deferred (S []))
theorem zY.fr{a:List Nat}(h:zY B a w)(f:Fr Q w w')(b:∀k o,B<=k->o.isCells=Zl->w.heap[k]?=S o->k∈a->Q k o):zY B a w' :=
 ⟨h.1,λD hD=>⟨(h.2 D hD).1,f.same _ _ (h.2 D hD).2 (b _ _ (h.2 D hD).1 R (h.2 D hD).2 hD)⟩⟩
theorem xc{j:Func}(h:j.results=#[]){tmps:I0}{p:Ending->I6->Prop}{T:Obj->Prop}(l:∀o,T o->o.isCells=Zk):∀(b:List Nat)(w:I6),zY B b w →
 (∀v w',Fr (yv B T) w w'->p (Zd v) w')->LeavesInM Fence.wide n prog j tmps p (b.map uK) .returning w:=by
 intro b;induction b with
 | nil =>
  intro w _ hR;exact⟨_,XS h _ _ _,hR _ _ ZP⟩
 | cons D b ih =>
  intro w d hR;obtain⟨m,hD⟩:=d.2 D WU
  have f:Fr (yv B T) w (w.putObj D (.deferred N)):=ZP.putObj _ (λo e q=>by
   rw[hD]at e;cases e;obtain q|q:=q
   .omega
   .have:=l _ q;cases this)
  refine⟨WU,Zi ⟨D,_,R,YU hD,ih _ ⟨(X6.1 d.1).2,λg a=>⟨(d.2 g (Xg _ a)).1,?_⟩⟩ (λv w' k=>hR v w' (f.trans k))⟩⟩;have i:g≠D:=λe=>(X6.1 d.1).1 (e▸a);exact(Xw i).trans (d.2 g (Xg _ a)).2
theorem jl{F:Fence}{i:Array Oper}{d:List Oper}{o:Oper}{a:Act}{g:I0}{Q:Exit->Act->I6->Prop}(l:o.guard=N)(x:Operand)(j:o.op=.load 202 x)(b:Nat)(q:a.eval x=ZI b)(r:g.size=20)(m:yk b g w)
 (h:wpListIn F n prog i Q d (a.put o.dst (Zc g)) w):wpListIn F n prog i Q (o :: d) a w :=
 wpListIn_plain l λK hK=>by
  refine⟨λf k=>?_,?_⟩
  .simp[Oper.about,j]at k
  .rw[Oper.semAt_eq _ _ _ (by rw[j];intro c e;cases e)];have p:(execOp a.eval o).run prog w=.ok (.value (Zc g)) w:=by have:=run_loadVar_mid (P:=prog) w b 0 202 g.toList _ m.2 underlying202 rfl (by rw[ky];simp[r]);rw[Yb]at this;unfold execOp;simp only[j,q,Instr.loadAt,Instr.sureAddr,Sem.run_bind,Sem.run_pure,XV,this]
   rw[p,Oper.uponIn_value];exact hK _ _ h
theorem pO.ones{m:I8}{own e beh:BitVec 64}{f:I0}(r:pO m wh own e beh fc f):f.all (·.oneCell')=Zk:=by
 rw[Array.all_eq_true];intro i a;have g:=r.size;by_cases d:i<12
 .have:=r.men i d;exact OE
 .have b:i=12\/i=13\/i=14\/i=15\/i=16+0\/i=16+1\/i=16+2\/i=16+3:=O;obtain rfl|rfl|rfl|rfl|rfl|rfl|rfl|rfl:=b
  .have:=r.wh;exact OE
  .have:=r.own;exact OE
  .have:=r.oth;exact OE
  .have:=r.beh;exact OE
  .have:=r.c 0 O;exact OE
  .have:=r.c 1 O;exact OE
  .have:=r.c 2 O;exact OE
  .have:=r.c 3 O;exact OE
structure Mk(l B Wb Bf:Nat)(FA:I0)(Ds:List Nat)(W:I6):Prop where
 yb:W.heap[Wb]?=S (Z #[.func (.yield l) #[] #[]] 143)
 fb:W.heap[Bf]?=S (Z FA 202)
 ms:zY B Ds W
 tb:jF W
 ct:jQ W
theorem jF.fr(h:jF w)(f:Fr Q w w')(a:∀o,Q 2 o):jF w':=⟨h.1.fr f a,qN h.2 f.size⟩
theorem jQ.fr(h:jQ w)(f:Fr Q w w')(a:∀o,Q 3 o):jQ w' :=
 ⟨λj v b=>f.cell (h.1 j v b) (λo _=>a o),qN h.2 f.size⟩
theorem Mk.fr{Bf:Nat}{e:I0}{b:List Nat}{g:I6}(h:Mk l B d Bf e b W)(f:Fr Q W g)(a:∀k o,(k=d\/k=Bf\/k∈b\/k=2\/k=3)->Q k o):Mk l B d Bf e b g :=
 ⟨f.same _ _ h.yb (a _ _ (Zi R)),f.same _ _ h.fb (a _ _ (Zj (Zi R))),h.ms.fr f (λk o _ _ _ i=>a k o (Zj (Zj (Zi i)))),h.tb.fr f (λo=>a _ o (Zj (Zj (Zj (Zi R))))),h.ct.fr f (λo=>a _ o (Zj (Zj (Zj (Zj R)))))⟩
theorem Fr.ext{R:Nat->Obj->Prop}{b c:I6}(h:Fr Q a b)(f:Fr R b c)(i:∀k o,a.heap[k]?=S o->Q k o->R k o):Fr Q a c :=
 ⟨f.os.trans h.os,f.tape.trans h.tape,f.output.trans h.output,q7 h.size f.size,λk o e q=>f.same k o (h.same k o e q) (i k o e q)⟩
theorem pj(f t k:Nat)(a:k<4):(List.range (k+1)).map (λi=>((f,t,uA i):Mv)) <+: [(f,t,113),(f,t,114),(f,t,98),(f,t,110)]:=by
 have:k=0\/k=1\/k=2\/k=3:=O;obtain rfl|rfl|rfl|rfl:=this
 .exact⟨[(f,t,114),(f,t,98),(f,t,110)],R⟩
 .exact⟨[(f,t,98),(f,t,110)],R⟩
 .exact⟨[(f,t,110)],R⟩
 .exact⟨[],R⟩
theorem AM(a f t:Nat)(P:a<6)(H:t<64)(l B:Nat)(T:Obj->Prop)(C:Nat->Prop)(A:∀c fr,¬ T (Z c 5 fr))(J w:List Mv->I6->Prop)(M:vu B T J)(y g:List Mv)(b:g++xT (Zm (a=0)) f t <+: y)
 (G:∀j x o,j++[x] <+: y->J j o->YieldAt Fence.wide 0 prog l (vr x) o λe d=>Fr (jM B T C) o d/\((e=Zd (Za Zk)/\J (j++[x]) d)\/(e=Zd (Za Zl)/\w (j++[x]) d)))
 (W:I6) (L:B<=W.heap.size) (F:J g W) :
 Calls prog 135 #[I .i64 a,I .i64 f,I .i64 t,.func (.yield l) #[] #[]] W λe d=>Fr (jM B T C) W d/\((e=Zd (Za Zk)/\J (g++xT (Zm (a=0)) f t) d)\/(e=Zd (Za Zl)/\∃q,q <+: y/\w q d)):=by
 by_cases E:(Zm (a=0)&&kP.getLsbD t)=Zk
 .have h:=E;rw[qH]at h;have z:a=0:=q8 h.1;have D:kP.getLsbD t=Zk:=h.2;clear h;subst z;have K:xT (Zm (0=0)) f t=(List.range 4).map λi=>((f,t,uA i):Mv):=by unfold xT;rw[E,qI R];rfl
  rw[K]at b |-;have v:∀k,k<4->g++(List.range (k+1)).map (λi=>((f,t,uA i):Mv)) <+: y:=λk r=>(Xq g).2 (pj f t k r) |>.trans b;refine(oC f t H D l B T C A J w M g W L (λk o r V=>?_) F).mono ?_
  .have:=G (g++(List.range k).map λi=>(f,t,uA i)) (f,t,uA k) o (by
    have:=v k r
    rwa[YI,Ys,<-qS]at this) V
   rw[YI,Ys,<-qS];exact this
  .rintro e d ⟨p,⟨m,n⟩|⟨m,k,r,n⟩⟩
   .exact⟨p,Zi ⟨m,n⟩⟩
   .exact⟨p,Zj ⟨m,_,v k r,n⟩⟩
 .have u:(Zm (a=0)&&kP.getLsbD t)=Zl:=by simpa using E
  have Q:xT (Zm (a=0)) f t=[(f,t,0)]:=by unfold xT;rw[u];rfl
  rw[Q]at b |-;refine(AL a f t P H u l B T C J w g W (G g _ W b F)).mono ?_;rintro e d ⟨p,⟨m,n⟩|⟨m,n⟩⟩
  .exact⟨p,Zi ⟨m,n⟩⟩
  .exact⟨p,Zj ⟨m,_,b,n⟩⟩
theorem EL(wh:Bool)(k:Nat)(h:k<6):1<=v7 wh k/\v7 wh k<=7:=by unfold v7;cases wh<;>split<;>simp<;>omega
def RetQ(X:Act->I6->Prop):Exit->Act->I6->Prop
 | .ret,a,w=>X a w
 | _,_,_=>False
def S5(Bf:Nat)(FA:I0)(S k:Nat)(W:I6):Prop:=yk Bf FA W/\W.cell? ⟨S,0,N⟩=some (I L k)
theorem S5.alloc{Bf:Nat}{a:I0}{S:Nat}(h:S5 Bf a S k W)(A:I0)(t:TypeId):S5 Bf a S k (W.alloc (Z A t)) :=
 ⟨h.1.gr ZN,(ZW ((Gr.refl W).alloc A t) (Ye W _ h.2)).trans h.2⟩
def MvI(m:I8)(wh:Bool)(own oth beh:BitVec 64)(fc:I5)(l B Bp Wb Bf:Nat)(PA FA:I0)(J:List Mv->I6->Prop)(gk:Nat)(a:Act)(wr:I6):Prop :=
 ∃(k:Nat)(Ds:List Nat)(u4 u5 u6 u7 u14 u15 u16 u17 u18 u19 u20 u21 u22 u23 u24 u25 u26 u27 u28 u29 u30 u31 u32 u33 u34 u35 u36 u37 u38 u39 u40 u41 u42 u43 u44 u45 u46 u47:I7),k+gk=6/\a={ tmps:=#[.func (.yield l) #[] #[],ZI Bp,ZI Wb,ZI Bf,u4,u5,u6,u7,Zc PA,Zc FA,.pointer (S ⟨Bf,12,N⟩),Za wh,Zc (zR (!wh)),I L k,u14,u15,u16,u17,u18,u19,u20,u21,u22,u23,u24,u25,u26,u27,u28,u29,u30,u31,u32,u33,u34,u35,u36,u37,u38,u39,u40,u41,u42,u43,u44,u45,u46,u47],defers:=Ds.map uK }/\Mk l B Wb Bf FA Ds wr/\J (zH m wh own oth beh fc k) wr
theorem mY{m:I8}{own b beh:BitVec 64}(hsz:PA.size=72)(f5:∀W:I6,Calls prog 129 #[Zc PA] W λe w'=>∃i,e=Zd (Zc i)/\pO m wh own b beh fc i/\Gr W w')(Bp:Nat)(T:Obj->Prop)(n4:∀o,T o->∃c fr,o=Z c 87 fr)(w:I6)
 (hp:w.heap[Bp]?=S (Z PA 70)) (hT:jF w) (hC:jQ w) :
 It prog 128 #[ZI Bp] vr T (λk=>k=Bp\/k=2\/k=3) (zH m wh own b beh fc 6) w:=by
 intro l B J Jx W f0 hB hJ g1 hY h0;have r5:=f0.same _ _ hp (Zi R);have n3:=hT.fr f0 (λ_=>Zj (Zi R));have l3:=hC.fr f0 (λ_=>Zj (Zj R));clear f0 hp hT hC;have a1:∀o,T o->o.isCells=Zk:=λo ho=>by obtain⟨c,fr,rfl⟩:=n4 o ho;rfl
 refine(ZY (n:=9)).1 ?_;refine callsIn_of_wp_marks func128 rfl trivial ?_ R;simp only[ntmps128,Nat.reduceAdd,Nat.reduceSub,Zr];refine Z9.2 ?_;have p7:=X f5;clear f5;have f7:(prog.info? 70).map (·.size)=S PA.size:=by rw[hsz];exact jJ
 have g9:=X (λW=>gQ (!wh) W);rw[Bool.not_not]at g9;go_upto_region 2 with(first
  | (go_at_call 129;refine(p7.a _).mono ?_;rintro e Q ⟨i,rfl,hF,b6⟩)
  | (refine ZV rfl 70 _ rfl Bp rfl 70 PA (0,0) _ (Fr.same ((Fr.refl (λ_ _=>True) W).alloc _) _ _ r5 trivial) underlying70 rfl f7 ?_)
  | (refine ZU R 202 _ _ R _ i R R 202 ZF Zv (by rw[hF.size];exact ky) (by rw[hF.size];rfl) (pO.ones hF) ?_))
 have Bn:((Q.alloc (Z ZF 202)).setRow Q.heap.size i).heap[Q.heap.size]?=S (Z i 202):=Zt Zv;have g6:Gr Q ((Q.alloc (Z ZF 202)).setRow Q.heap.size i):=ZN.setRow _ Zy _;show Code.wp _ _ _ _ ((Q.alloc (Z ZF 202)).setRow Q.heap.size i);have g5:Gr W (W.alloc (Z #[.func (.yield l) #[] #[]] 143)):=ZN;have a2:=Gr.trans g5 (Gr.trans b6 g6);have b0:((Q.alloc (Z ZF 202)).setRow Q.heap.size i).heap[W.heap.size]?=S (Z #[.func (.yield l) #[] #[]] 143) :=
  (YG (Gr.trans b6 g6) W.heap.size Vj).trans (ZQ W _)
 have v0:B<=Q.heap.size:=q7 hB (q7 (ZR g5) (ZR b6));generalize (Q.alloc (Z ZF 202)).setRow Q.heap.size i=w4 at Bn b0 a2 |-;generalize x3:W.heap.size=As at b0 hB |-;generalize Q.heap.size=Bf at Bn v0 |-;have h4:=hJ _ _ _ h0 (Fr.of_gr a2);have n0:=n3.gr a2;have k9:=l3.gr a2;clear b6 g6 g5 r5 n3 l3 h0 a2 p7 x3 f7;have d:=X hF;have b1:=X hF.size;have t5:w4.cell? ⟨Bf,12,N⟩=S (Za wh):=by rw[Zs Bn];exact hF.wh
 clear hF;go_wp2_with(go_at_call 130;refine(g9.a _).mono ?_;rintro e w5 ⟨rfl,Bg⟩);have n1:=n0.gr Bg;have l0:=k9.gr Bg;have l5:=hJ _ _ _ h4 (Fr.of_gr Bg);have s7:=(ZE Bg Bn);have s8:=(ZE Bg b0);clear n0 k9 h4 Bn b0 t5 g9 Bg;have x4:=X hY;clear hY;refine Z9.1 (wpIn_loop_ghost (rm:=9) (MvI m wh own b beh fc l B Bp As Bf PA i J) 6 ?start ?round)
 case start=>exact⟨0,[],undef,undef,undef,undef,undef,undef,undef,undef,undef,undef,undef,undef,undef,undef,undef,undef,undef,undef,undef,undef,undef,undef,undef,undef,undef,undef,undef,undef,undef,undef,undef,undef,undef,undef,undef,undef,undef,undef,R,R,⟨s8,s7,⟨List.nodup_nil,λD hD=>absurd hD XC⟩,n1,l0⟩,l5⟩
 case round=>
  clear l5 n1 l0 s7 s8;rintro gk a wr ⟨k,z,u4,u5,u6,u7,u14,u15,u16,u17,u18,u19,u20,u21,u22,u23,u24,u25,u26,u27,u28,u29,u30,u31,u32,u33,u34,u35,u36,u37,u38,u39,u40,u41,u42,u43,u44,u45,u46,u47,hk,rfl,hM,g0⟩;by_cases a4:k<6
  .refine Code.wpIn_mono (Q:=Exit.then (λa' w'=>∃n',n'<gk/\MvI m wh own b beh fc l B Bp As Bf PA i J n' a' w') (RetQ λa' w'=>LeavesInM Fence.wide 9 prog Tryz.f128 a'.tmps (λe x=>(∃v,e=Zd v)/\(J (zH m wh own b beh fc 6) x\/∃g,g <+: zH m wh own b beh fc 6/\Jx g x)) a'.defers .returning w')) ?mono ?_
   case mono=>
    rintro e a' w' he;cases e with
    | normal=>exact he
    | ret=>exact he
    | exit id=>exact he.elim
    | goto t=>exact he.elim
    | panic c=>exact he.elim
    | outgrown=>exact he.elim
   refine Z9.2 ?_;obtain⟨K,g3⟩:∃K:Act->I6->Prop,K=(λa' w'=>∃n',n'<gk/\MvI m wh own b beh fc l B Bp As Bf PA i J n' a' w'):=⟨_,R⟩;rw[<-g3];have m1:=X g3;clear g3;have z4:=sn (!wh) k a4;rw[GL]at z4;have b5:=X hM;have m0:=X g0;clear hM g0;have hk0:0<=(k:Int):=O;have r1:(k:Int)<6:=O;obtain⟨RQ,g4⟩:∃RQ:Act->I6->Prop,RQ=(λa' w'=>LeavesInM Fence.wide 9 prog Tryz.f128 a'.tmps (λe x=>(∃v,e=Zd v)/\(J (zH m wh own b beh fc 6) x\/∃g,g <+: zH m wh own b beh fc 6/\Jx g x)) a'.defers .returning w'):=⟨_,R⟩;rw[<-g4];have m2:=X g4;clear g4;go_upto_region 5 with fail;have x9:=X (λW=>FJ wh W);have z0:=io wh;have hop0:0<=(bg wh:Int)+(k:Int):=O;have hop1:(bg wh:Int)+(k:Int)<12:=O;have hwr:IntKind.i64.wrap ((bg wh:Int)+(k:Int))=(bg wh:Int)+(k:Int):=Vc;obtain⟨x1,x2⟩:=x6 wr (Z #[I L k] 3) (Z #[I L (v7 wh k:Int)] 3);have g8:Gr wr ((wr.alloc (Z #[I L k] 3)).alloc (Z #[I L (v7 wh k:Int)] 3)):=ZN.al;have a7:((wr.alloc (Z #[I L k] 3)).alloc (Z #[I L (v7 wh k:Int)] 3)).heap.size=wr.heap.size+2:=WU;generalize ((wr.alloc (Z #[I L k] 3)).alloc (Z #[I L (v7 wh k:Int)] 3))=wA at x1 x2 g8 a7 |-;have z2:yk Bf i wA:=by have e:=(ZE g8 b5.a.fb);exact⟨(qB.1 e).1,λj v hv=>by rw[Zs e,Z2,<-qO];exact hv⟩
   have l4:S5 Bf i wr.heap.size k wA.drew:=⟨z2.gr ZO.drew,(qi x1).1⟩;refine ZT (S:=S5 Bf i wr.heap.size k) WR l4 (λqD=>?_);refine ZB 0 (.pointer (S ⟨Bf,12,N⟩)) R (λw p=>Vd) qD ?_;refine ZB 1 (Za wh) R (λw p=>Vd) qD ?_;refine ZB 3 (I L k) R (λw p=>Vd) qD ?_;refine ZB 5 (ZI Bf) R (λw p=>Vd) qD ?_;refine Xk (rs:=[2]) WR WU ?_;refine Yc R (λK2 hK=>?_) Xb;go_simp;refine(x9.a _).mono ?_;rintro e wa ⟨rfl,s1⟩;have s2:=s1.symm;subst s2;clear s1;refine hK.out _ _ qD λqD=>?_;clear hK K2;refine ZB 4 (I L ((bg wh:Int)+(k:Int))) R (λw p=>Vd) qD ?_;refine ZB 6 (.pointer (S ⟨Bf,bg wh+k,N⟩)) R (λw p=>Vd) qD ?_;refine ZB 7 (I Zh (U (m (bg wh+k)))) R (λw p=>Vd) qD ?_;refine Xk (rs:=[8]) WR WU ?_;refine Yc R (λK2 hK=>?_) Xb;go_simp;refine(xn _ _).mono ?_;rintro e H ⟨rfl,Bl⟩;refine hK.out _ _ (by rw[Bl];exact qD.alloc _ _) λqD=>?_;clear hK K2;refine ZZ WR ?_ _;clear qD l4;go_wp2_with fail;have r0:Gr wr H:=by rw[Bl];exact Gr.trans g8 ((Gr.refl wA).drew.alloc _ _)
   have hs6:H.heap.size=wr.heap.size+3:=by rw[Bl,Z3];show wA.heap.size+1=_;rw[a7]
   have f6:Gr wA H:=by rw[Bl];exact(Gr.refl wA).drew.alloc _ _
   have k1:=(YG f6 wr.heap.size O).trans x1;have k2:=(YG f6 (wr.heap.size+1) O).trans x2;have z1:H.cell? ⟨wr.heap.size+2,0,N⟩=S (I Zh (U (m (bg wh+k)))):=by have:=(qq5 wA.drew (I Zh (U (m (bg wh+k)))) 195).1;rw[<-Bl]at this;rw[<-a7];exact this
   have k3:H.heap[wr.heap.size+2]?=S (Z #[I Zh (U (m (bg wh+k)))] 195):=by have:=ZQ wA.drew (Z #[I Zh (U (m (bg wh+k)))] 195);rw[<-Bl]at this;rw[<-a7];exact this
   have F:Mk l B As Bf i z H:=b5.a.fr (Q:=λ_ _=>True) (Fr.of_gr r0) (λ_ _ _=>trivial);have w1:=hJ _ _ _ m0.a (Fr.of_gr r0);have b4:∀D∈z,D<H.heap.size:=λD hD=>(qB.1 (F.ms.2 D hD).2).1;have v1:wA.drew.heap.size=wr.heap.size+2:=a7;rw[v1];have r7:As<H.heap.size:=(qB.1 F.yb).1;have r6:Bf<H.heap.size:=(qB.1 F.fb).1;have k4:B<=H.heap.size:=O;have mst:∀{A A':I6},Mk l B As Bf i z A->Fr (yv H.heap.size T) A A'->Mk l B As Bf i z A':=λh f=>h.fr f (λk o hk=>by
    refine Zi ?_;obtain rfl|rfl|hk|rfl|rfl:=hk
    .exact r7
    .exact r6
    .exact b4 _ hk
    .exact F.tb.2
    .exact F.ct.2)
   refine Z9.1 (xj (n:=9) (gf:=207) (lb:=#[ZI (wr.heap.size+2)]) R (YC func207 WR R)
    (o0 (m (bg wh+k)) (wr.heap.size+2) T H z1 F.tb.1) a1 (by rintro j (rfl|rfl);exact O;exact F.tb.2) ZP (λ_=>R)
    (λg W=>Mk l B As Bf i z W/\W.heap[wr.heap.size]?=S (Z #[I L k] 3)/\W.heap[wr.heap.size+1]?=S (Z #[I L (v7 wh k:Int)] 3)/\J (zH m wh own b beh fc k++g.flatMap (kF m wh own b beh fc k)) W/\W.heap[wr.heap.size+2]?=S (Z #[I Zh (U (m (bg wh+k)))] 195))
    (λc _ W=>c=.ret/\zY B z W/\∃q,q <+: zH m wh own b beh fc 6/\Jx q W)
    ?sI ?sX ⟨F,k1,k2,by simpa using w1,k3⟩ ?rnd ?done ?stop)
   case sI=>exact λs A A' h f=>⟨mst h.1 f,f.same _ _ h.2.1 (Zi O),f.same _ _ h.2.2.1 (Zi O),qo hJ k4 _ _ _ h.2.2.2.1 f,f.same _ _ h.2.2.2.2 (Zi O)⟩
   case sX=>exact λc s A A' h f=>⟨h.1,h.2.1.fr f (λj o _ _ _ V=>Zi (b4 _ V)),h.2.2.elim λq hq=>⟨q,hq.1,qo g1 k4 _ _ _ hq.2 f⟩⟩
   case done=>
    rintro D W2 hD ⟨u,_,_,f9,_⟩ g2;go_wp2_with fail;rw[m1.a];have w6:zY B (D :: z) W2:=⟨X6.2 ⟨λh=>by have:=b4 D h;omega,u.ms.1⟩,λD' At=>by
     obtain rfl|At:=Yj.1 At
     .exact⟨O,g2⟩
     .exact u.ms.2 D' At⟩
    have e:zH m wh own b beh fc (k+1)=zH m wh own b beh fc k++(vD (m (bg wh+k))).flatMap (kF m wh own b beh fc k):=by unfold zH;rw[YI,Xj];simp[yN]
    exact⟨gk-1,O,k+1,D :: z,_,_,_,_,_,_,_,_,_,_,_,_,_,_,_,_,_,_,_,_,_,_,_,_,_,_,_,_,_,_,_,_,_,_,_,_,_,_,O,R,⟨u.yb,u.fb,w6,u.tb,u.ct⟩,by rw[e];exact f9⟩
   case stop=>
    rintro D c g W2 hD a5 ⟨rfl,u,q,h5,h6⟩ g2;refine Z9.2 ?_;go_wp2_with fail;show RQ _ _;rw[m2.a];exact xc (T:=T) results128 a1 (D :: z) W2 ⟨X6.2 ⟨λh=>by have:=b4 D h;omega,u.1⟩,λD' At=>by
     obtain rfl|At:=Yj.1 At
     .exact⟨O,g2⟩
     .exact u.2 D' At⟩ (λv w' f=>⟨⟨v,R⟩,Zj ⟨q,h5,g1 _ _ _ h6 f⟩⟩)
   case rnd=>
    intro l1 g f W2 z0 hx v3 r3;obtain⟨u,kb2,kd2,f9,_⟩:=v3;have v2:B<=W2.heap.size:=by have:=(qB.1 u.yb).1;omega
    have hf:=ui (C9 hx);have r4:l1<W2.heap.size:=r3.elim λr hr=>(qB.1 hr).1;gi_wp2;refine⟨ZP.alloc _,?_⟩;intro W3 f3 v4 z5;have b3:W3.heap[W2.heap.size]?=S (Z #[I L f] 3):=f3.same _ _ (ZQ W2 _) O;generalize W2.heap.size=Bx at b3 r4 v2 |-;clear f3 u kb2 kd2 f9 r3;obtain⟨E,c5,c6,w0,t3⟩:=v4;have hBW3:B<=W3.heap.size:=by have:=(qB.1 E.yb).1;omega
    have ck:=(qi c5).1;have cd:=(qi c6).1;have cf:=(qi b3).1;have f2:yk Bf i W3:=⟨(qB.1 E.fb).1,λj v hv=>by rw[Zs E.fb,Z2,<-qO];exact hv⟩;have r2:=EL wh k a4;have s0:=X (om d.a k (v7 wh k) f r2.1 r2.2 hf W3 E.tb E.ct);gi_wp2_with (first
     | (refine jl R _ R Bf R b1.a f2 ?_)
     | (refine⟨trivial,?_⟩;gi_at_call 133;refine(Xe l1 (ZY.2 s0.a)).mono ?_;rintro e w7 ⟨rfl,g7⟩)
     | (refine⟨trivial,?_⟩;gi_at_call 132;refine(Xe l1 (ZY.2 (xn _ _))).mono ?_;rintro e w8 ⟨rfl,hw8⟩))
    obtain⟨n,a9⟩:∃n,n=w7.alloc (Z #[I Zh (U (kN m wh own b beh fc k (v7 wh k) f))] 195):=⟨_,R⟩;rw[<-a9];have M:Gr W3 n:=by rw[a9];exact g7.alloc _ _
    have hs9:n.heap.size=w7.heap.size+1:=by rw[a9,Z3]
    have c4:n.heap[w7.heap.size]?=S (Z #[I Zh (U (kN m wh own b beh fc k (v7 wh k) f))] 195):=by rw[a9];exact Zv
    have t9:W3.heap.size<=w7.heap.size:=ZR g7;generalize w7.heap.size=B7 at hs9 c4 t9 |-;clear a9 g7 s0 f2 ck cd cf;have a0:Mk l B As Bf i z n:=E.fr (Q:=λ_ _=>True) (Fr.of_gr M) (λ_ _ _=>trivial);have G:∀{j:Nat}{o:Obj},W3.heap[j]?=S o->j<n.heap.size:=λh=>qN (qB.1 h).1 O;have kb9:=(ZE M c5);have kd9:=(ZE M c6);have kf9:=(ZE M b3);have w2:=hJ _ _ _ w0 (Fr.of_gr M);have w3:∃r,n.heap[l1]?=S (.loop r):=z5.elim λr hr=>⟨r,(ZE M hr)⟩;have p8:Fr (jM H.heap.size T (λj=>j=wr.heap.size+2\/j=2)) W3 n:=Fr.of_gr M;have n5:=G E.yb;have k8:=G E.fb;have d0:∀D∈z,D<n.heap.size:=λD hD=>G (E.ms.2 D hD).2;have k5:B<=n.heap.size:=O;have h39:W3.heap.size<=n.heap.size:=O;have x5:=G c5;have x8:=G c6;have y0:=G b3;have t4:∀{A A':I6},Mk l B As Bf i z A->Fr (yv n.heap.size T) A A'->Mk l B As Bf i z A':=λh f=>h.fr f (λk o hk=>by
     refine Zi ?_;obtain rfl|rfl|hk|rfl|rfl:=hk
     .exact n5
     .exact k8
     .exact d0 _ hk
     .exact a0.tb.2
     .exact a0.ct.2)
    generalize n2:kN m wh own b beh fc k (v7 wh k) f=tg at c4 |-;have p0:kF m wh own b beh fc k f=(vD tg).flatMap (bE m wh beh k f):=by unfold kF;rw[n2]
    clear n2;refine rj (l₀:=l1) (n:=9) w3 (gf:=207) (lb:=#[ZI B7]) R (YC func207 WR R)
     (o0 tg B7 T n (qi c4).1 a0.tb.1) a1 (by rintro j (rfl|rfl);exact O;exact a0.tb.2) ZP (λ_=>R)
     (λy W=>(Mk l B As Bf i z W/\W.heap[wr.heap.size]?=S (Z #[I L k] 3)/\W.heap[wr.heap.size+1]?=S (Z #[I L (v7 wh k:Int)] 3)/\W.heap[Bx]?=S (Z #[I L f] 3)/\W.heap[B7]?=S (Z #[I Zh (U tg)] 195))/\J (zH m wh own b beh fc k++g.flatMap (kF m wh own b beh fc k)++y.flatMap (bE m wh beh k f)) W/\Fr (jM H.heap.size T (λj=>j=wr.heap.size+2\/j=2)) W3 W/\n.heap.size<=W.heap.size)
     (λc _ W=>c=.ret/\zY B z W/\(∃q,q <+: zH m wh own b beh fc 6/\Jx q W)/\Fr (jM H.heap.size T (λj=>j=wr.heap.size+2\/j=2)) W3 W)
     ?sI2 ?sX2 ⟨⟨a0,kb9,kd9,kf9,c4⟩,by simpa using w2,p8,Zy⟩ ?rnd2 ?done2 ?stop2
    case sI2=>exact λs A A' h f=>⟨⟨t4 h.1.1 f,f.same _ _ h.1.2.1 (Zi x5),f.same _ _ h.1.2.2.1 (Zi x8),f.same _ _ h.1.2.2.2.1 (Zi y0),f.same _ _ h.1.2.2.2.2 (Zi O)⟩,qo hJ k5 _ _ _ h.2.1 f,h.2.2.1.ext f (λj o e _=>Zi (G e)),q7 h.2.2.2 f.size⟩
    case sX2=>exact λc s A A' h f=>⟨h.1,h.2.1.fr f (λj o _ _ _ V=>Zi (d0 _ V)),h.2.2.1.elim λq hq=>⟨q,hq.1,qo g1 k5 _ _ _ hq.2 f⟩,h.2.2.2.ext f (λj o e _=>Zi (G e))⟩
    case done2 =>rintro WD ⟨⟨d1,d2,d3,_,_⟩,d4,d5,_⟩;refine⟨d5,d1,d2,d3,?_,d5.same _ _ t3 (Zi (Zi R))⟩;rw[Xj,<-qS];simpa[p0]using d4
    case stop2 =>rintro c y WD hp2 ⟨rfl,d1,d2,d3⟩;gi_wp2;exact⟨d3,R,d1,d2⟩
    case rnd2=>
     intro l2 y t W5 hbl2 s5 v5 z9;have ht:=ui (C9 s5);clear v5 z9;gi_wp2;refine⟨ZP,?_⟩;intro W6 _ v9 hl6;obtain⟨⟨m6,s9,kd6,t1,t2⟩,j6,k0,sz6⟩:=v9;have ck:=(qi s9).1;have cf:=(qi t1).1;have f4:yk Bf i W6:=⟨(qB.1 m6.fb).1,λj v hv=>by rw[Zs m6.fb,Z2,<-qO];exact hv⟩;have b7:=X (mf d.a k f t a4 hf ht W6 m6.tb);have Bk:bE m wh beh k f t=if kE m wh beh k f t then xT (Zm (k=0)) f t else[]:=R;have a5:zH m wh own b beh fc k++g.flatMap (kF m wh own b beh fc k)++y.flatMap (bE m wh beh k f)++bE m wh beh k f t <+: zH m wh own b beh fc 6:=by have h1:=qx0 (bE m wh beh k f) s5;rw[<-p0]at h1;have h2:=qx0 (kF m wh own b beh fc k) hx;have h3:=oP m wh own b beh fc a4;rw[qS,qS];refine((Xq _).2 (((Xq _).2 h1).trans h2)).trans h3
     have t0:∀x,Gr W6 x->(Mk l B As Bf i z x/\x.heap[wr.heap.size]?=S (Z #[I L k] 3)/\x.heap[wr.heap.size+1]?=S (Z #[I L (v7 wh k:Int)] 3)/\x.heap[Bx]?=S (Z #[I L f] 3)/\x.heap[B7]?=S (Z #[I Zh (U tg)] 195))/\J (zH m wh own b beh fc k++g.flatMap (kF m wh own b beh fc k)++y.flatMap (bE m wh beh k f)) x/\Fr (jM H.heap.size T (λj=>j=wr.heap.size+2\/j=2)) W3 x/\n.heap.size<=x.heap.size:=λx hg=>by have f':Fr (λ_ _=>True) W6 x:=Fr.of_gr hg;exact⟨⟨m6.fr f' (λ_ _ _=>trivial),f'.same _ _ s9 trivial,f'.same _ _ kd6 trivial,f'.same _ _ t1 trivial,f'.same _ _ t2 trivial⟩,hJ _ _ _ j6 (Fr.of_gr hg),k0.ext f' (λ_ _ _ _=>trivial),q7 sz6 f'.size⟩
     have b2:=X t0;have a6:=X a5;clear t0 a5;generalize n7:zH m wh own b beh fc k++g.flatMap (kF m wh own b beh fc k)++y.flatMap (bE m wh beh k f)=dn at b2 a6;have f1:=X n7;clear n7 j6 k0 t2;cases hL:kE m wh beh k f t
     .rw[hL]at b7 Bk;have a8:=X Bk;clear Bk;gi_wp2_with (first
       | (refine jl R _ R Bf R b1.a f4 ?_)
       | (refine⟨trivial,?_⟩;gi_at_call 134;refine(Xe l2 (ZY.2 b7.a)).mono ?_;rintro e wl ⟨rfl,a3⟩)
       | (with_reducible refine YB (zw _) ?_))
      obtain⟨ys,y6,y7,y8⟩:=b2.a wl a3;have P:bE m wh beh k f t=[]:=by rw[a8.a];rfl
      refine⟨Fr.of_gr a3,ys,?_,y7,y8⟩;rw[Xj,<-qS,f1.a];simpa[P]using y6
     .rw[hL]at b7 Bk;have a8:=X Bk;clear Bk;gi_wp2_with (first
       | (refine jl R _ R Bf R b1.a f4 ?_)
       | (refine⟨trivial,?_⟩;gi_at_call 134;refine(Xe l2 (ZY.2 b7.a)).mono ?_;rintro e wl ⟨rfl,a3⟩;obtain⟨⟨y1,y2,y3,y4,y5⟩,y6,y7,y8⟩:=b2.a wl a3;have c1:=(qi y2).1;have c2:=(qi y4).1;have c3:=(qi y1.yb).1))
      have nT:∀c ty fr,ty≠87->¬ T (Z c ty fr):=λc ty fr w9 h=>by obtain⟨c',fr',e⟩:=n4 _ h;cases e;exact w9 R
      have P:bE m wh beh k f t=xT (Zm (k=0)) f t:=by rw[a8.a];rfl
      have f8:=a6.a;rw[P]at f8;have hBwr:B<=wr.heap.size:=by have:=(qB.1 b5.a.yb).1;omega
      refine⟨trivial,Xe l2 (ZY.2 ((AM k f t a4 ht l B T (λj=>j=Bp\/j=2\/j=3) (λc fr=>nT _ _ _ WW) J Jx hJ (zH m wh own b beh fc 6) dn f8 x4.a wl O y6).mono ?_))⟩;intro e wy h7;obtain⟨fy,h7⟩:=h7;have h8:Fr (jM n.heap.size T (λj=>j=B7\/j=2)) W6 wy:=(Fr.of_gr a3:Fr _ W6 wl).trans (fy.mono λj o ej V=>by
       obtain(rfl|rfl)|V:=V
       .rw[y5]at ej;cases ej;exact Zj ⟨O,nT _ _ _ WW⟩
       .exact Zi (Zj (Zi R))
       .exact Zj ⟨O,V.2⟩)
      have h9:Fr (jM H.heap.size T (λj=>j=wr.heap.size+2\/j=2)) W3 wy:=y7.ext fy (λj o ej V=>by
       obtain(rfl|rfl)|V:=V
       .rw[t3]at ej;cases ej;exact Zj ⟨O,nT _ _ _ WW⟩
       .exact Zi (Zj (Zi R))
       .exact Zj ⟨O,V.2⟩)
      have my:zY B z wy:=y1.ms.fr fy (λj o V hc _ _=>Zj ⟨V,λh=>by rw[a1 _ h]at hc;cases hc⟩);obtain⟨rfl,x0⟩|⟨rfl,q,h5,h6⟩:=h7
      .gi_wp2;refine⟨h8,⟨⟨fy.same _ _ y1.yb (Zj ⟨O,nT _ _ _ WW⟩),fy.same _ _ y1.fb (Zj ⟨O,nT _ _ _ WW⟩),my,y1.tb.fr fy (λ_=>Zi (Zj (Zi R))),y1.ct.fr fy (λ_=>Zi (Zj (Zj R)))⟩,fy.same _ _ y2 (Zj ⟨O,nT _ _ _ WW⟩),fy.same _ _ y3 (Zj ⟨O,nT _ _ _ WW⟩),fy.same _ _ y4 (Zj ⟨O,nT _ _ _ WW⟩),fy.same _ _ y5 (Zj ⟨O,nT _ _ _ WW⟩)⟩,?_,h9,q7 y8 fy.size⟩;rw[Xj,<-qS,f1.a];simpa[P]using x0
      .gi_wp2;exact⟨h8,R,my,⟨q,h5,h6⟩,h9⟩
  .refine Z9.2 ?_;have r1:k=6:=O;subst r1;have z3:Y (LeavesInM Fence.wide 9 prog Tryz.f128 #[.func (.yield l) #[] #[],ZI Bp,ZI As,ZI Bf,u4,u5,u6,u7,Zc PA,Zc i,.pointer (S ⟨Bf,12,N⟩),Za wh,Zc (zR (!wh)),I L 6,Za Zl,u15,u16,u17,u18,u19,u20,u21,u22,u23,u24,u25,u26,u27,u28,u29,u30,u31,u32,u33,u34,u35,u36,u37,u38,u39,u40,u41,u42,u43,u44,u45,u46,u47] (λe x=>(∃v,e=Zd v)/\(J (zH m wh own b beh fc 6) x\/∃g,g <+: zH m wh own b beh fc 6/\Jx g x)) (z.map uK) .returning wr):=X (xc (T:=T) results128 a1 z wr hM.ms (λv w' f=>⟨⟨v,R⟩,Zi (hJ _ _ _ g0 f)⟩));go_wp2_with fail;exact z3.a
theorem It.mono{α:Type}{P:Program}{lb:I0}{a:α->I0}{T:Obj->Prop}{C C':Nat->Prop}{f:List α}(h:It P g lb a T C f w)(e:∀k,C k->C' k):It P g lb a T C' f w :=
 λl B J i W m o p b u n=>h l B J i W (m.mono λk _ _ q=>e k q) o p b (λd x j y v=>(u d x j y v).mono λ_ _ r=>⟨r.1.mono λk _ _ q=>q.elim (λq=>Zi (e k q)) Zj,r.2⟩) n
theorem qm{b:Nat}{x y z:I7}{t:TypeId}{fr:Nat × Nat}(h:V.heap[b]?=S (Z #[x,y,z] t fr)):V.cell? ⟨b,0,N⟩=S x/\V.cell? ⟨b,1,N⟩=S y/\V.cell? ⟨b,2,N⟩=S z:=by refine⟨?_,?_,?_⟩<;>simp[World.cell?,h]
theorem qx1{α:Type}{a b:List α}{x:α}(p:α->Bool)(h:a++[x] <+: b)(d:p x=Zk):a.filter p++[x] <+: b.filter p:=by obtain⟨r,rfl⟩:=h;rw[YJ,YJ];simp[d]
theorem qkg{gf:Nat}{lb lf:I0}{T:Obj->Prop}{C:Nat->Prop}{xs:List Mv}(a9:It prog g lb vr T C xs w)(a8:∀args w,(callFunc g args).run prog w=.ok (.enter g args) w)(c6:∀args w,(callFunc gf args).run prog w=.ok (.enter gf args) w)
 (F:∀o,T o->o.isCells=Zk) (a7:∀c fr,¬ T (Z c 143 fr)) (a2:∀k,C k->k<w.heap.size) (z Bf:Nat) (p:Mv->Bool) (f6:w.heap[z]?=S (Z #[.func (.func g) #[] lb] 141)) (G:w.heap[Bf]?=S (Z #[.func (.func gf) #[] lf] 143))
 (f8:∀x∈xs,∀W,Fr (λk _=>C k) w W->ZL gf (#[gJ x]++lf) W (Za (p x))) :
 It prog 155 #[ZI z,ZI Bf] vr T (λk=>C k\/k=z\/k=Bf) (xs.filter p) w:=by
 intro l B J Jx W f0 hB hJ P hY h0;have m:=f0.same _ _ f6 (Zj (Zi R));have f9:=f0.same _ _ G (Zj (Zj R));have c5:=(qB.1 f6).1;have b7:=(qB.1 G).1;refine(ZY (n:=9)).1 ?_;refine callsIn_of_wp_marks func155 rfl trivial ?_ R;simp only[ntmps155,Nat.reduceAdd,Nat.reduceSub,Zr];have M:(W.alloc (Z #[.func (.yield l) #[] #[]] 143)).cell? ⟨z,0,N⟩=S (.func (.func g) #[] lb):=(qi ((YP W _ _ (qB.1 m).1).trans m)).1;gi_wp2;have a0:=ZQ W (Z #[.func (.yield l) #[] #[]] 143);have f1:∀Q:Nat->Obj->Prop,Fr Q W (W.alloc (Z #[.func (.yield l) #[] #[]] 143)):=λQ=>ZP.alloc _;have b3:(W.alloc (Z #[.func (.yield l) #[] #[]] 143)).heap.size=W.heap.size+1:=Z3 _ _;generalize (W.alloc (Z #[.func (.yield l) #[] #[]] 143))=w1 at M a0 f1 b3 |-;have a4:=hJ _ _ _ h0 (f1 _);have f7:=f0.trans (f1 _);have d3:=f0.size;clear M m f9 f1;refine xj (n:=9) (gf:=g) (lb:=lb) R a8 (a9.mono (C':=λk=>C k\/k=z\/k=Bf) (λk h=>Zi h)) F (by rintro k (hk|rfl|rfl);exact(by have:=a2 k hk;omega);exact O;exact O) f7 (λ_=>R)
  (λb V=>V.heap[W.heap.size]?=S (Z #[.func (.yield l) #[] #[]] 143)/\J (b.filter p) V/\Fr (λk _=>C k\/k=z\/k=Bf) w V)
  (λc _ V=>c=.ret/\∃q,q <+: xs.filter p/\Jx q V)
  ?sI ?sX ⟨a0,a4,f7⟩ ?rnd ?done ?stop
 case sI=>exact λs A A' h f=>⟨f.same _ _ h.1 (Zi O),qo hJ O _ _ _ h.2.1 f,h.2.2.ext f (λk o e _=>Zi UR)⟩
 case sX=>exact λc s A A' h f=>⟨h.1,h.2.elim λq hq=>⟨q,hq.1,qo P O _ _ _ hq.2 f⟩⟩
 case done =>rintro D V hD ⟨_,hj,_⟩ hK;gi_wp2;exact xc (T:=T) results155 F [D] V ⟨WU,λD' i=>VO⟩ (λv w' f=>⟨⟨v,R⟩,Zi (hJ _ _ _ hj f)⟩)
 case stop =>rintro D c b V hD _ ⟨rfl,q,b1,b2⟩ hK;gi_wp2;exact xc (T:=T) results155 F [D] V ⟨WU,λD' i=>VO⟩ (λv w' f=>⟨⟨v,R⟩,Zj ⟨q,b1,P _ _ _ b2 f⟩⟩)
 case rnd=>
  rintro l1 b ⟨fr,H,u⟩ V c4 hx ⟨hy,hj,d0⟩ hl;have d1:l1<V.heap.size:=hl.elim λr hr=>(qB.1 hr).1;simp only[vr,gJ];gi_wp2;refine⟨ZP.alloc _,?_⟩;intro K f2 a3 d2;obtain⟨g0,b0,j⟩:=a3;have kx:K.heap[V.heap.size]?=S (Z (ZJ fr H u) 87):=f2.same _ _ (ZQ V _) O;generalize V.heap.size=Bx at kx |-;obtain⟨x0,x1,x2⟩:=qm kx;have b5:=j.same _ _ G (Zj (Zj R));have b6:=(qi b5).1;have d5:=X (f8 (fr,H,u) (C9 hx) K (j.mono λk _ _ q=>Zi q));simp only[gJ]at d5;have keep:∀a,Gr K a->a.heap[W.heap.size]?=S (Z #[.func (.yield l) #[] #[]] 143)/\J (b.filter p) a/\Fr (λk _=>C k\/k=z\/k=Bf) w a:=λa y=>⟨(ZE y g0),hJ _ _ _ b0 (Fr.of_gr y),j.ext (Fr.of_gr (Q:=λ_ _=>True) y) (λ_ _ _ _=>trivial)⟩;cases n:p (fr,H,u)
  .rw[n]at d5;gi_wp2;refine⟨trivial,Xe l1 (ZY.2 (d5.a.mono ?_))⟩;rintro e a ⟨rfl,y⟩;gi_wp2;refine⟨λ_ h=>Ub,?_⟩;gi_wp2;obtain⟨z1,z2,z3⟩:=keep a y;refine⟨Fr.of_gr y,z1,?_,z3⟩;rw[YJ];simpa[n]using z2
  .rw[n]at d5;gi_wp2;refine⟨trivial,Xe l1 (ZY.2 (d5.a.mono ?_))⟩;rintro e a ⟨rfl,y⟩;obtain⟨z1,z2,z3⟩:=keep a y;have c3:=(qi z1).1;obtain⟨q0,q1,q2⟩:=qm ((ZE y kx));obtain⟨fn,tmps,d,E,a1,hR⟩:=jb (m':=8) (hY (b.filter p) (fr,H,u) a (qx1 p hx n) z2);have d4:(Instr.yield l #[Zc (ZJ fr H u)]).run prog a=.ok (.round l fn tmps d E) a:=a1;clear a1;gi_wp2;have a6:RoundIn (Fence.wide.inRound l1) 8 prog l fn tmps d E a (λe f3=>Fr (jM B T (λk=>C k\/k=z\/k=Bf)) a f3/\((e=Zd (Za Zk)/\J (b.filter p++[(fr,H,u)]) f3)\/(e=Zd (Za Zl)/\Jx (b.filter p++[(fr,H,u)]) f3))):=hR;clear hR;refine a6.mono ?_;intro e V4 h4;obtain⟨f4,h4⟩:=h4;have f5:Fr (jM w1.heap.size T (λk=>C k\/k=z\/k=Bf)) K V4:=(Fr.of_gr y:Fr _ K a).trans (f4.mono λk o _ q=>q.elim Zi λq=>Zj ⟨O,q.2⟩);obtain⟨rfl,a5⟩|⟨rfl,b4⟩:=h4
   .gi_wp2;refine⟨f5,f4.same _ _ z1 (Zj ⟨hB,a7 _ _⟩),?_,z3.ext f4 (λk o _ q=>Zi q)⟩;rw[YJ];simpa[n]using a5
   .gi_wp2;exact⟨f5,R,_,qx1 p hx n,b4⟩
end Go.Proofs.YtnfakamfmkhlbabGreatDoor.C
