import Derived.Test.YtnfakamfmkhlbabGreatDoorC5
set_option maxRecDepth 100000
set_option maxHeartbeats 4000000
set_option linter.all false
open Go.Value renaming int->I,bool->Za,string->Zb,agg->Zc,tuple->Ze,slice->Zq
open Go.IntKind renaming i64->L,u8->Zg,u64->Zh,wrap->a_
open Go.Obj renaming cells->Z
open Go.Ending renaming returned->Zd
open Or renaming inl->Zi,inr->Zj
open Option renaming some->S,none->N
open Bool renaming true->Zk,false->Zl
open Decidable renaming decide->Zm
open Go.RowKit renaming Hid->Y
open Go renaming World->I6,Value->I7,Calls->i_
open Go.Proofs.Tryz renaming zeroCells70->b_,prog->c_
open Go.Lib renaming decDigits->d_,indexByte->e_,join->f_,cut->g_
open List renaming range->h_
open Go.Op renaming stringOp->k_
open Go.Instr renaming index->l_
open Go.Code renaming wp->n_
namespace Go.Proofs.YtnfakamfmkhlbabGreatDoor.C
open Go.ChangeShapes Go.WideShapes Go.ChangeAt Go.RowKit Go.Shelf Tryz
attribute [local go_sem] qd qe Oper.semAt_some
variable {z:I2}{wh:Bool}{b h m:Int}{PA A M:I0}{fc:I5}{w W a w' w1 V:I6}{f n i k g base d e l j x B Bp:Nat}{v:I7}{u:UInt8}{Q:Nat->Obj->Prop}{rs:I3}{y:I1}
abbrev R_:=I4×Nat
def ctC(c:R_):List I7:=[Zb c.1,I Zh (c.2:Int)]
def Lc(l:List R_):List I7:=l.flatMap ctC
def JO(l:List R_)(c:R_):Lc (l++[c])=Lc l++ctC c:=by simp[Lc]
def gs(base:Nat)(v:I7)(l:List R_)(w:I6):Prop:=w.ownsRow base 37 2 v l.length (Lc l)
def PN:(c_.info? 37).map (λi=>(i.zero,i.size,i.bytes))=S (S (Zc #[Zb ⟨#[]⟩,I Zh 0]),2,24):=WR
def Jh{l:List R_}(h:gs base v l w):∀k,v.ownBlock=S k->base<=k:=by exact No
def HQ(d:Nat)(z:I2)(wh:Bool)(fc:I5)(b:Int)(l:List Mv):List R_:=l.map λx=>(xJ (yJ x),eO d z wh fc b x)
def Jq(s:I4)(d n:Int)(base:Nat)(e:Ending)(w':I6):Prop:=
 (∃k,iP s k/\e=Zd (Ze #[mU,I L k]))\/(∃p,xG s=S p/\xP p=Zk/\¬(1<=d/\d<=3)/\e=Zd (Ze #[mU,I L 5]))\/(∃p,xG s=S p/\xP p=Zk/\(1<=d/\d<=3)/\¬(n=1\/n=2)/\e=Zd (Ze #[mU,I L 3]))\/(∃p v,∃m:Nat,xG s=S p/\xP p=Zk/\d=(m:Int)+1/\m<=2/\(n=1\/n=2)/\e=Zd (Ze #[v,I L 0])/\gs base v (HQ m (xM p) p.white (yC p.castle) p.behind (jI (xC (xM p) p.white (yC p.castle) p.behind))) w')
structure Rq(b1:Nat)(A:I0)(w1 W:I6):Prop where
 p:W.heap[b1]?=S (Z A 70)
 gr:Gr w1 W
def Rq.next{b:Nat}(h:Rq b A w1 W)(g:Gr W a):Rq b A w1 a:=⟨(Zz g (xe h.p)).trans h.p,o_ h.gr g⟩
def Hs(w:I6)(S:I4)(x:Nat):∀j a,[Zb S,I Zh x][j]?=some a->(w.alloc (Z #[S,I Zh x] 37)).cell? ((⟨w,0,N⟩:Addr).add j)=some a:=λj a b=>by
 rw[X2,Z2,Z8 _ _ _ _ R,<-qO];exact b
def KB(s:I4)(hs:s.size<4294967281)(D n:Int)(w:I6):i_ c_ 167 #[s,D,n] w λe w'=>Jq s D n w e w'/\Gr w w':=by
 have h1:Y (i_ c_ 53 #[s] w λe w'=>zA s e/\Gr w w'):=X (qvq s hs w);obtain⟨p,hr,q,z⟩|⟨k,hk,a0,z⟩:=xy s
 .have H:Y (ZL 53 #[s] w (Ze #[jV p,I L 0])):=X (h1.a.mono λe w' h=>⟨z e h.1,h.2⟩);have E:=jo hr;have h2:=E.size;have h0:=X (qx E);by_cases hd:1<=D/\D<=3
  .by_cases hn:n=1\/n=2
   .obtain⟨i0,hi,g0,g1,g2⟩:=We PN;have f6:=X hi;clear hi;obtain⟨m,hm⟩:∃m:Nat,D=(m:Int)+1:=⟨(D-1).toNat,O⟩;have f8:m<=2:=O;have o:=Ok.of hr q;have r:=F5 E;have a:Y (∀base v w',gs base v (HQ m (xM p) p.white (yC p.castle) p.behind (yY (xM p) p.white (yC p.castle) p.behind)) w'->Jq s D n base (Zd (Ze #[v,I L 0])) w'):=X λbase v w' hv=>Zj (Zj (Zj ⟨p,v,m,hr,q,hm,f8,hn,R,by rw[<-qk3 o.good o.b0 o.b1];exact hv⟩));have ed:a_ L (D-1)=(m:Int):=Vc;have q1:¬D<1:=O;have q2:¬3<D:=O;clear hm hd;have f1:=Kj o.good o.b0 o.b1;have h8:Y (∀W:I6,i_ c_ 54 #[jV p] W λe w'=>∃v,e=Zd v/\np W v (yY (xM p) p.white (yC p.castle) p.behind) w'/\Gr W w'):=X λW=>JD o r W;have M:Y (∀f t u,(f,t,u)∈yY (xM p) p.white (yC p.castle) p.behind->(∀W:I6,ZL 55 #[ZJ f t u] W (xJ (yJ (f,t,u))))/\∀W:I6,i_ c_ 106 #[jV p,ZJ f t u] W λe w'=>∃Q,e=Zd Q/\(∀V:I6,ZL 163 #[Q,m] V (I Zh (eO m (xM p) p.white (yC p.castle) p.behind (f,t,u):Nat)))/\Gr W w'):=X λf t u hx=>(by have a9:=f1.mem_iff.1 hx;obtain⟨hf,ht,_⟩:=o.mv a9;refine⟨λW=>mZ f t hf ht u W,λW=>(He o r a9 W).mono ?_⟩;rintro e w' ⟨Q,rfl,hq,hg⟩;exact⟨Q,R,λV=>na m O (o.next a9) hq V,hg⟩);have d5:(yY (xM p) p.white (yC p.castle) p.behind).length<=20480:=iW _ _ _ _ 64;have b7:Y (∀l,HQ m (xM p) p.white (yC p.castle) p.behind l=l.map λx=>(xJ (yJ x),eO m (xM p) p.white (yC p.castle) p.behind x)):=X λ_=>R;rw[b7.a]at a;generalize eO m (xM p) p.white (yC p.castle) p.behind=b2 at M a;generalize yY (xM p) p.white (yC p.castle) p.behind=G at h8 M d5 a;obtain⟨cf,b6⟩:∃cf:Mv->R_,cf=λx=>(xJ (yJ x),b2 x):=⟨_,R⟩;rw[<-b6]at a;generalize jV p=A at H h2 h0 h8 M;clear h1 z E hr q hs b7 f1 o r;go_in;go_upto_region 2 with(first|(go_at_call 53;refine Z0 H.a λd b=>?_)|(refine ZC d A Zv h2 h0.a ?_));generalize g8:(d.alloc (Z b_ 70)).setRow d A=w4;have h3:Tb w d A w4:=⟨o_ b (by rw[<-g8];exact ZN.setRow _ Zy _),by rw[<-g8];exact Zt (Z7 d _),by rw[<-g8,Xa,Z3];omega⟩;generalize d.heap.size=b1 at h3|-;clear g8 b H h0;go_upto_region 4 with fail;go_cut [38]from 29 (λg3 wx=>g3=Zl/\wx=w4)
    case first=>
     obtain rfl|rfl:=hn
     .exact OZ
     .exact OZ
    case rest=>
     obtain⟨rfl,f9⟩:=hcut;subst f9;have f2:=X (qy h3.p);go_upto_region 10 with(first|(go_at_call 54;refine(h8.a _).mono ?_;rintro e w1 ⟨v,rfl,hv,a4⟩;obtain⟨pp,cap,rfl,g4,c4⟩:=bt hv)|(refine ql Vb _ R b1 R h2 f2.a ?_));have d2:=X (o_ h3.gr a4);have a7:=X ((Zz a4 (xe h3.p)).trans h3.p);have a1:=X c4;clear h8 hv a4 h3 f2 c4 hn;go_wp2;go_loopg [10,12,13] G.length (λg v i _ wr=>∃k:Nat,k+g=G.length/\i=k/\gs w1 v ((G.take k).map cf) wr/\Gr w1 wr)
     case atStart=>exact⟨0,O,R,⟨R,Zi ⟨R,R⟩⟩,ZO⟩
     case round=>
      obtain⟨k,k1,rfl,P,h4⟩:=hrel;by_cases g9:k<G.length
      .obtain⟨gg,rfl,x0,x1,x2⟩:=a1.a k g9;have CQ:gg<w1:=Zx x0;have f0:=(Zz h4 (xe a7.a)).trans a7.a;have T:G[k]∈G:=Xs _;have a8:Y (G.take (k+1)=G.take k++[G[k]]):=X (Yd g9);generalize G[k]=y at x0 x1 x2 T a8;obtain⟨f,t,u⟩:=y;obtain⟨f4,b5⟩:=M.a f t u T;have a3:=X f4;have k4:=X b5;have h7:Y (cf (f,t,u)=(xJ (yJ (f,t,u)),b2 (f,t,u))):=X (by rw[b6]);generalize xJ (yJ (f,t,u))=h6 at a3 h7;generalize b2 (f,t,u)=xv at k4 h7;have f7:((G.take k).map cf).length=k:=(by rw[YD,Xt];omega);have d4:Y ((G.take (k+1)).map cf=(G.take k).map cf++[(h6,xv)]):=X (by rw[a8.a,Ys,<-h7.a];rfl);obtain⟨l0,d3⟩:∃l,Y (l=(G.take k).map cf):=⟨_,X R⟩;rw[<-d3.a]at P f7 d4;have h9:=X P;have J:=X h4;have k0:0<=(k:Int):=O;have kl:(k:Int)<(G.length:Int):=O;have g7:=ZR h4;clear P h4 f4 b5 T M a8 h7 d3;go_upto_region 13 with fail;have b3:Rq b1 A w1 wr.drew:=⟨f0,J.a.drew⟩;have b4:Gr wr wr.drew:=ZO.drew;refine ZT (S:=λW=>Rq b1 A w1 W/\Gr wr W) WR ⟨b3,b4⟩ (λB=>?_);clear b3 b4;refine ty 0 A R (zy h2 Vb _ R b1 R (λ_ h=>qy h.1.p)) B ?_;refine tq 1 (Zq (S gg) G.length cap) B ?_;refine tq 2 k B ?_;refine tq 3 (.pointer (S ⟨gg,k*3,N⟩)) B ?_;refine wpAnyH_take (i:=4) (v:=(ZJ f t u)) R WR WR WR (λ_ _ _ h=>h) (Zi ⟨Vb,λw' hw=>(by
        have e0:=(ZW hw.1.gr CQ).trans x0;have e1:=(ZW hw.1.gr CQ).trans x1;have e2:=(ZW hw.1.gr CQ).trans x2;go_simp;try rfl)⟩) B ?_
       simp only[py];refine tq 6 D B ?_;refine ZB 7 m R (λw' hw=>by go_simp;first|done|exact ed) B ?_;refine rd 5 λK hK=>?_;go_simp;refine(k4.a _).mono ?_;rintro e w2 ⟨Q,rfl,hq,c5⟩;refine hK.out _ _ ⟨B.1.next c5,o_ B.2 c5⟩ (λB=>?_);clear hK K;try simp only[py]
       refine rd 8 λK hK=>?_;go_simp;refine Z0 (hq _) λd b=>?_;refine hK.out _ _ ⟨B.1.next b,o_ B.2 b⟩ (λB=>?_);clear hK K;try simp only[py]
       refine rd 9 λK hK=>?_;go_simp;refine hK.out _ _ B λB=>?_;clear hK K;try simp only[py]
       refine ZZ WR ?_ _;have y0:=(ZW B.1.gr CQ).trans x0;have y1:=(ZW B.1.gr CQ).trans x1;have y2:=(ZW B.1.gr CQ).trans x2;have c6:=X B.1.gr;have f3:=X (dU h9.a B.2);clear B hq h9 J x0 x1 x2 f0 k4;go_wp2_with(first|(go_at_call 55;refine Z0 (a3.a _) λw5 d0=>?_;have d1:=o_ c6.a d0;have g6:=ZR d1;have a2:=X (dU f3.a d0);have f5:∀j u',[Zb h6,I Zh xv][j]?=S u'->(w5.alloc (Z #[h6,I Zh xv] 37)).cell? ((⟨w5,0,N⟩:Addr).add j)=S u':=Hs w5 h6 xv)|(at_builtin;refine Xv _ R (.tmp 59) (.tmp 67) 33 rfl w1 37 i0 (Zc #[Zb ⟨#[]⟩,I Zh 0]) 2 24 underlying33 f6.a g0 g1 g2 R WW u10 l0.length (Lc l0) R (a2.a.alloc _) ⟨w5,0,N⟩ 1 1 [Zb h6,I Zh xv] R R f5 Vi Vk O WX ?_;intro v' w7 a6 a5 g5));go_roundg (gk-1)
       case measure=>omega
       case rel=>
        refine⟨k+1,O,Vg,?_,?_⟩
        .unfold gs;rw[d4.a,JO,qZ];exact a6
        .exact(d1.alloc _ _).grown a5 WX (Jh a2.a)
      .have ek:k=G.length:=O;rw[ek,XA]at P;have h9:=X P;have J:=X h4;clear P h4 a1 M a7;subst ek;go_wp2;go_ret2;exact⟨a.a _ _ _ (qxn h9.a (ZR d2.a)),o_ d2.a J.a⟩
   .have a:Y (∀base w',Jq s D n base (Zd (Ze #[mU,I L 3])) w'):=X λbase w'=>Zj (Zj (Zi ⟨p,hr,q,hd,hn,R⟩));have q1:¬D<1:=O;have q2:¬3<D:=O;have n1:(n !=1)=Zk:=(by rw[qU];exact λe=>hn (Zi e));have n2:(n !=2)=Zk:=(by rw[qU];exact λe=>hn (Zj e));have h5:Y (∀W:I6,ZL 53 #[s] w (Ze #[jV p,I L 0])):=X λ_=>H.a;generalize jV p=A at H h2 h0 h5;clear h1 h5 z E hr q hs;go_in;go_upto_region 2 with(first|(go_at_call 53;refine Z0 H.a λd b=>?_)|(refine ZC d A Zv h2 h0.a ?_));have F:Gr w ((d.alloc (Z b_ 70)).setRow d A):=o_ b (ZN.setRow _ Zy _);generalize (d.alloc (Z b_ 70)).setRow d A=w4 at F|-;clear b H h0;clear hn hd;exact O5
  .have a:Y (∀base w',Jq s D n base (Zd (Ze #[mU,I L 5])) w'):=X λbase w'=>Zj (Zi ⟨p,hr,q,hd,R⟩);have h5:Y (∀W:I6,ZL 53 #[s] w (Ze #[jV p,I L 0])):=X λ_=>H.a;generalize jV p=A at H h2 h0 h5;clear h1 h5 z E hr q hs;go_in;go_upto_region 2 with(first|(go_at_call 53;refine Z0 H.a λd b=>?_)|(refine ZC d A Zv h2 h0.a ?_));have F:Gr w ((d.alloc (Z b_ 70)).setRow d A):=o_ b (ZN.setRow _ Zy _);generalize (d.alloc (Z b_ 70)).setRow d A=w4 at F|-;clear b H h0;by_cases q1:D<1
   .clear hd;exact O5
   .have q2:3<D:=O;clear hd;exact O5
 .have H:Y (ZL 53 #[s] w (Ze #[b_,k])):=X (h1.a.mono λe w' h=>⟨z e h.1,h.2⟩);have a:Y (∀base w',Jq s D n base (Zd (Ze #[mU,k])) w'):=X λbase w'=>Zi ⟨k,a0,R⟩;have k2:(k !=0)=Zk:=Oo;have k3:(k==0)=Zl:=by rw[qM];exact hk
  clear h1 z a0 hk hs;go_in;go_upto_region 2 with(first|(go_at_call 53;refine Z0 H.a λd b=>?_)|(refine ZC d b_ Zv xF xH ?_));have F:Gr w ((d.alloc (Z b_ 70)).setRow d b_):=o_ b (ZN.setRow _ Zy _);generalize (d.alloc (Z b_ 70)).setRow d b_=w4 at F|-;clear b H;exact O5
def P8{s:Nat}{e:TypeId}{j:List I7}{i:I6}(h:W.ownsRow base e s v n j)(f:zm g W i)(o:g<base):i.ownsRow base e s v n j:=by
 refine⟨h.1,?_⟩;obtain l|⟨k,cap,cur,m,b,d,a⟩:=h.2
 .exact Zi l
 exact Zj ⟨k,cap,cur,m,b,f.at d O,a⟩
structure Qi(g n:Nat)(I:I6->Prop)(ga gm:Nat)(wn:Int)(PA:I0)(b1 b2:Nat)(base:Nat)(v:I7)(l:List R_)(w W:I6):Prop where
 c:W.heap[b1]?=S (Z (C_ ga gm wn g n) 78)
 p:W.heap[b2]?=S (Z PA 70)
 wt:Wt W
 i:I W
 fx:zm g w W
 own:gs base v l W
def Qi.next{m:I6->Prop}{wn:Int}{l:List R_}{b:I6}(h:Qi g n m i j wn PA d e base v l w W)(a:LD g)(f:zm g W b)(k:d≠g)(o:e≠g)(q:g<base)(r:m b):Qi g n m i j wn PA d e base v l w b:=⟨f.at h.c k,f.at h.p o,h.wt.fx a f,r,zm.trans h.fx f,P8 h.own f q⟩
structure Pa(ga gm:Nat)(wn:Int)(g n:Nat)(PA:I0)(b1 b2 b3 f t:Nat)(u:UInt8)(W:I6):Prop where
 c:W.heap[b1]?=S (Z (C_ ga gm wn g n) 78)
 p:W.heap[b2]?=S (Z PA 70)
 m:W.heap[b3]?=S (Z (ZJ f t u) 87)
def Pa.next{wn:Int}{b t:Nat}{i:I6}(h:Pa j k wn g n PA b d e f t u W)(x:zm g W i)(l:b≠g)(o:d≠g)(q:e≠g):Pa j k wn g n PA b d e f t u i:=⟨x.at h.c l,x.at h.p o,x.at h.m q⟩
def Pa.grown{r w:Nat}{wn:Int}{t:Nat}{b:I6}{l:List R_}(h:Pa r w wn g n PA d i j f t u W)(own:gs base v l W)(k:W.grownBy b v.ownBlock):Pa r w wn g n PA d i j f t u b:=by
 have no:∀q c ty,W.heap[q]?=Z c ty->ty≠37->S q≠v.ownBlock:=λq c ty e y o=>by
  obtain⟨rfl,_⟩|⟨x,cap,cur,rfl,_,a,_⟩:=own.2
  .simp[Value.ownBlock]at o
  obtain rfl:q=x:=by simpa[Value.ownBlock]using o
  rw[e]at a;injection a with a;injection a with _ a _;exact y a
 exact⟨(k.block _ (xe h.c) (no _ _ _ h.c WW)).trans h.c,(k.block _ (xe h.p) (no _ _ _ h.p WW)).trans h.p,(k.block _ (xe h.m) (no _ _ _ h.m WW)).trans h.m⟩
def Ji{a b:Nat}{wn:Int}(h:W.heap[a]?=Z (C_ b d wn g n) 78):W.cell? a=S (.func (.func b) #[] #[])/\W.cell? ⟨a,1,N⟩=S (.func (.func d) #[] #[])/\W.cell? ⟨a,2,N⟩=I L wn/\W.cell? ⟨a,3,N⟩=F_ g n:=by refine⟨?_,?_,?_,?_⟩<;>(rw[qn h];rfl)
def KE{m2:I6->Prop}{G H gi:Nat}{wn:Int}(mi:Qh g n m2)(aw:LD g)(wy:LB wn G H gi)(d:Nat)(hd:d+1<=3){gg:Int}(o:Ok z wh fc b h gg)(r:jE z wh fc b h gg PA)(w:I6)(hi:m2 w)(M:Wt w):i_ c_ 26 #[C_ G H wn g n,PA,I L (d+1:Nat)] w λe w'=>∃v,e=Zd v/\gs w v (HQ d z wh fc b (jI (xC z wh fc b))) w'/\zm g w w'/\m2 w':=by
 have hz:=r.size;obtain⟨i0,b3,k0,k3,k4⟩:=We PN;have h8:=X b3;obtain⟨S0,l2,g8⟩:=mi.ob w hi;have l4:g<w:=(qB.1 g8).1;obtain⟨x1,x2⟩:=x6 w (Z (C_ G H wn g n) 78) (Z PA 70);have n2:Gr w ((w.alloc (Z (C_ G H wn g n) 78)).alloc (Z PA 70)):=ZN.al;have h0:((w.alloc (Z (C_ G H wn g n) 78)).alloc (Z PA 70)).heap.size=w.heap.size+2:=WU;obtain⟨E,a0⟩:∃l,Y (l=jI (xC z wh fc b)):=⟨_,X R⟩;obtain⟨f1,n4⟩:∃f,Y (f=eO d z wh fc b):=⟨_,X R⟩;obtain⟨cf,f7⟩:∃cf:Mv->R_,Y (cf=λx=>(xJ (yJ x),f1 x)):=⟨_,X R⟩;have f9:HQ d z wh fc b (jI (xC z wh fc b))=E.map cf:=by rw[f7.a,n4.a,a0.a];rfl
 rw[f9];go_in;go_upto_region 2 with fail;show n_ _ _ _ _ ((w.alloc (Z (C_ G H wn g n) 78)).alloc (Z PA 70));generalize ((w.alloc (Z (C_ G H wn g n) 78)).alloc (Z PA 70))=w0 at x1 x2 n2 h0|-;have b4:m2 w0:=mi.st _ _ hi (p_ n2);have d5:=M.gr n2;obtain⟨xs,b5,mk⟩:=wy.list r o w0 d5;have a9:Y (i_ c_ 49 #[zG G H,PA] w0 λe w'=>∃v,e=Zd v/\w'.ownsRow w0 87 3 v xs.length (vO (jI xs))/\Gr w0 w'):=X (qko hz mk);have f0:xs.length=(jI xs).length:=(qj7 xs).symm;rw[b5,<-a0.a]at a9 f0;rw[f0]at a9;have l1:E.length<=1000000:=by rw[a0.a,qj7];exact bu z wh fc b
 have n3:Y (∀W W',m2 W->Gr W W'->m2 W'):=X λW W' hi k=>mi.st W W' hi (p_ k);have h1:Y (∀W W',m2 W->Fr (λk _=>k=g) W W'->m2 W'):=X mi.st;have A:Y (∀f t u,(f,t,u)∈jI (xC z wh fc b)->(∀W:I6,ZL 38 #[ZJ f t u] W (xJ (yJ (f,t,u))))/\(∀W:I6,vJ W->i_ c_ 50 #[PA,ZJ f t u] W λe w'=>∃Q,e=Zd Q/\(∀V:I6,m2 V->Wt V->i_ c_ 25 #[C_ G H wn g n,Q,d] V λe w'=>e=I Zh (eO d z wh fc b (f,t,u):Nat)/\zm g V w'/\m2 w')/\Gr W w')):=X λf t u hx=>by have h5:=(xq _).mem_iff.1 hx;obtain⟨c0,c1,c2,c3⟩:=o.clk;obtain⟨hf,ht,hu,k1,k2⟩:=o.mv h5;refine⟨λW=>gK f t hf ht u W,λW hH=>(iJ r f t u hf ht k1 k2 c0 c1 c2 c3 W hH).mono ?_⟩;rintro e w' ⟨Q,rfl,hq,hg⟩;exact⟨Q,R,λV hi M=>HZ mi aw wy d O (o.next h5) hq V hi M,hg⟩
 rw[<-a0.a,<-n4.a]at A;obtain⟨d0,d1,d2,d3⟩:=Ji x1;go_upto_region 3 with(first|(refine ZD (w+1) PA (by with_reducible exact x2) hz ?_)|(go_at_call 49;refine a9.a.mono ?_;rintro e w1 ⟨v,rfl,hv,J⟩;obtain⟨pp,cap,rfl,k9,g0⟩:=rJ hv));have b2:=X g0;have b7:Qi g n m2 G H wn PA w (w+1) w1 (Zq N 0 0) [] w1 w1:=⟨(Zz J (xe x1)).trans x1,(Zz J (xe x2)).trans x2,d5.gr J,n3.a _ _ b4 J,zm.refl _ _,⟨R,Zi ⟨R,R⟩⟩⟩;have h4:=X b7.wt;have n0:g<w1:=by have:=ZR J;omega
 have g3:=o_ n2 J;have CQ:w≠g:=O;have D:w+1≠g:=O;have h2:=ZR g3;have b1:Y (∀k (hk:k<E.length),∀g',pp=S ⟨g',0,N⟩->g'≠g):=X λk hk g' e=>by
  obtain⟨m1,_⟩|⟨g2,k5,k8,m1,l3,_⟩:=hv.2
  .injection m1 with m1 _ _;rw[e]at m1;cases m1
  injection m1 with m1 _ _;rw[e]at m1;injection m1 with m1;injection m1 with m1 _ _;omega
 go_loopg [7,9,15] E.length (λgk v _ i wr=>∃k:Nat,k+gk=E.length/\i=k/\Qi g n m2 G H wn PA w (w+1) w1 v ((E.take k).map cf) w1 wr)
 .exact⟨0,O,R,b7⟩
 obtain⟨k,k1,rfl,hD⟩:=hrel;by_cases m0:k<E.length
 .obtain⟨g',g9,x0,x1,x2⟩:=b2.a k m0 m0;have P:=b1.a k m0 g' g9;subst g9;have x0:=Fr.cell hD.fx x0 (λ_ _=>P);have x1:=Fr.cell hD.fx x1 (λ_ _=>P);have x2:=Fr.cell hD.fx x2 (λ_ _=>P);have T:E[k]∈E:=Xs _;have d4:Y (E.take (k+1)=E.take k++[E[k]]):=X (Yd m0);generalize E[k]=y at x0 x1 x2 T d4;obtain⟨f,t,u⟩:=y;obtain⟨h3,f6⟩:=A.a f t u T;have b6:=X h3;have b0:=X f6;have a5:Y (cf (f,t,u)=(xJ (yJ (f,t,u)),f1 (f,t,u))):=X (by rw[f7.a]);generalize xJ (yJ (f,t,u))=m6 at b6 a5;generalize f1 (f,t,u)=xv at b0 a5;have h9:((E.take k).map cf).length=k:=by rw[YD,Xt];omega
  have g6:Y ((E.take (k+1)).map cf=(E.take k).map cf++[(m6,xv)]):=X (by rw[d4.a,Ys,<-a5.a];rfl);obtain⟨l0,g5⟩:∃l,Y (l=(E.take k).map cf):=⟨_,X R⟩;rw[<-g5.a]at hD h9 g6;have F:=X hD;go_upto_region 5 with fail;have g7:=ZQ wr (Z (ZJ f t u) 87);have c6:Gr wr (wr.alloc (Z (ZJ f t u) 87)):=ZN;have l5:=zm.size F.a.fx;have a4:wr≠g:=O;have n1:=F.a.next aw (zm.of c6.drew) CQ D n0 (n3.a _ _ F.a.i c6.drew);have f4:Pa G H wn g n PA w (w+1) wr f t u (wr.alloc (Z (ZJ f t u) 87)).drew:=⟨n1.c,n1.p,g7⟩;have ed:a_ L (((d+1:Nat):Int)-1)=(d:Int):=Vc;have h6:a_ L (d:Int)=d:=Vc;refine ZT (S:=Pa G H wn g n PA w (w+1) wr f t u) WR f4 (λB=>?_);refine tq 0 (u7) B ?_;refine wpAnyH_take (i:=1) (v:=(ZJ f t u)) R WR WR WR (λ_ _ _ h=>h) (Zi ⟨Vb,λw' M=>(by
   obtain⟨e0,e1,e2⟩:=qm M.m;go_simp;try rfl)⟩) B ?_
  simp only[py];refine wpAnyH_take (i:=3) (v:=(C_ G H wn g n)) R WR WR WR (λ_ _ _ h=>h) (Zi ⟨Vb,λw' M=>(by
   obtain⟨e0,e1,e2,e3⟩:=Ji M.c;go_simp;rfl)⟩) B ?_
  simp only[py];refine ty 4 PA R (zy hz Vb _ R (w+1) R (λ_ h=>qy h.p)) B ?_;refine wpAnyH_take (i:=5) (v:=(ZJ f t u)) R WR WR WR (λ_ _ _ h=>h) (Zi ⟨Vb,λw' M=>(by
   obtain⟨e0,e1,e2⟩:=qm M.m;go_simp;try rfl)⟩) B ?_
  simp only[py];refine ZB 7 (I L (d+1:Nat)) R (λw' M=>by go_simp;try rfl) B ?_;refine ZB 8 d R (λw' M=>by go_simp;first|done|exact ed|exact h6) B ?_;refine rd 2 λK hK=>?_;go_simp;refine Z0 (b6.a _) λw2 a6=>?_;refine hK.out _ _ (B.next (zm.of a6) CQ D a4) λB=>?_;have a1:=n1.next aw (zm.of a6) CQ D n0 (n3.a _ _ n1.i a6);try simp only[py]
  refine rd 6 λK hK=>?_;go_simp;refine(b0.a _ a1.wt.hom).mono ?_;rintro e w3 ⟨Q,rfl,hq,a7⟩;refine hK.out _ _ (B.next (zm.of a7) CQ D a4) λB=>?_;have a2:=a1.next aw (zm.of a7) CQ D n0 (n3.a _ _ a1.i a7);try simp only[py]
  refine rd 9 λK hK=>?_;go_simp;refine Z0 (hq _ a2.i a2.wt) λw4⟨c5,g4⟩=>?_;refine hK.out _ _ (B.next c5 CQ D a4) λB=>?_;have c4:=a2.next aw c5 CQ D n0 g4;try simp only[py]
  refine tq 10 (Zc #[m6,I Zh xv]) B ?_;have a8:Gr w4 (w4.alloc (Z #[m6,I Zh xv] 37)):=ZN;have j:=c4.next aw (zm.of a8) CQ D n0 (n3.a _ _ c4.i a8);have f5:=B.next (zm.of a8) CQ D a4;have f8:=Hs w4 m6 xv;refine rd 11 λK hK=>?_;go_simp;refine hK.out _ _ f5 λB=>?_;try simp only[py]
  refine rd 12 λK hK=>?_;rw[qI Vb];refine wp_append_own _ (.tmp 19) (.tmp 30) 33 rfl w1 37 i0 (Zc #[Zb ⟨#[]⟩,I Zh 0]) 2 24 underlying33 h8.a k0 k3 k4 R WW u7 l0.length (Lc l0) R j.own ⟨w4,0,N⟩ 1 1 [Zb m6,I Zh xv] R R f8 Vi Vk O (zm.size j.fx) ?_;intro v' w7 n5 a _;have a3:=B.grown j.own a;have f3:Qi g n m2 G H wn PA w (w+1) w1 v' (l0++[(m6,xv)]) w1 w7:=by
   have f2:∀q o,(w4.alloc (Z #[m6,I Zh xv] 37)).heap[q]?=S o->q<w1.heap.size->w7.heap[q]?=S o:=λq o e hq=>(by rw[a.block q (xe e) (λm1=>by have:=Jh j.own q m1.symm;omega)];exact e);have g1:Fr (λq _=>q<w1.heap.size) (w4.alloc (Z #[m6,I Zh xv] 37)) w7:=⟨a.os,a.tape,a.output,a.size,λq o e hq=>f2 q o e hq⟩;refine⟨a3.c,a3.p,j.wt.low h4.a g1,h1.a _ _ j.i (g1.mono λq o _ e=>by rw[e];exact n0),⟨a.os.trans j.fx.os,a.tape.trans j.fx.tape,a.output.trans j.fx.output,q7 j.fx.size a.size,λq o e hq=>f2 q o (j.fx.at e hq) (xe e)⟩,?_⟩;unfold gs;rw[JO,qZ];exact n5
  refine hK.out _ _ a3 λB=>?_;try simp only[py]
  refine rd 13 λK hK=>?_;go_simp;refine hK.out _ _ B λB=>?_;try simp only[py]
  refine ZZ WR ?_ _;have h7:=X f3;go_wp2;go_roundg (gk-1)
  .exact⟨k+1,O,Vg,by rw[g6.a];exact h7.a⟩
  omega
 have ek:k=E.length:=O;subst ek;rw[XA]at hD;have F:=X hD;go_wp2;go_ret;exact⟨_,R,qxn F.a.own h2,zm.trans (zm.of g3) F.a.fx,F.a.i⟩
def RY:(c_.info? 168).map (λi=>(i.zero,i.size,i.bytes))=S (S (Zc zeroCells168),75,120):=WR
def L8:(c_.info? 56).map (·.size)=S 1:=WR
def NS(n:Nat)(C:n<=4096)(w:I6):i_ c_ 20 #[I L n] w λe w'=>e=Zd (Zc #[F_ (w.heap.size+1) n])/\w'.ownsRow w.heap.size 168 75 (F_ (w.heap.size+1) n) n (madeCells zeroCells168 (n*75)).toList/\Gr w w':=by
 obtain⟨x,u,p,q,r⟩:=We RY;have o:=u;have m:x.bytes*n<=281474976710656:=Tx;have y:=Z7 w (Z #[Zq N 0 0] 56);have j:Gr w (w.alloc (Z #[Zq N 0 0] 56)):=ZN;have f:(w.alloc (Z #[Zq N 0 0] 56)).heap.size=w.heap.size+1:=Z3 _ _;go_in;go_upto_region 1 with fail;generalize w.alloc _=D at y j f|-;go_wp2_with(at_make;apply wpList_make_full _ R _ _ 54 rfl w 168 x zeroCells168 75 underlying54 o p q _ _ _ _ n R R R R m Vk O;intro w1 b a;rw[f]at b;rw[f];have d:w1.heap[w.heap.size]?=Z #[Zq N 0 0] 56:=by { rw[a.block w O WU];exact y };have c1:=(qi d).1;have B:=(qi d).2);refine ZS (v:=Zc #[F_ (w+1) n]) (Yp results20 _ _ w 56 #[F_ (w+1) n] (0,0) _ R (jm d) underlying56 rfl L8) R ⟨R,?_,?_⟩
 .refine⟨b.1,?_⟩;obtain⟨e,_⟩|⟨g,cap,cur,i,z,A,l⟩:=b.2
  .cases e
  refine Zj ⟨g,cap,cur,i,z,?_,l⟩;have:w+1=g:=by injection i with i _ _;injection i with i;injection i
  rw[Yg _ _ _ _ WX];exact A
 exact Yr (o_ j (Below.grown (q_ D) a Zy (λk h=>Ub))) Zy _
def Jk(a b:Nat)(wn:Int)(g n:Nat):c_.built 78 [(0,zG a b),(1,wn),(2,Zc #[F_ g n])]=C_ a b wn g n:=WR
def Kh(a b:Nat)(wn:Int)(g n:Nat):(C_ a b wn g n).all (·.oneCell')=Zk:=by simp[C_,F_,Value.oneCell']
def Rv(a b:Nat)(wn:Int)(g n:Nat)(w:I6):ZL 24 #[zG a b,wn,Zc #[F_ g n]] w (C_ a b wn g n):=by
 obtain⟨h,i,f,j⟩:=jG w (Z (zG a b) 74) (Z #[F_ g n] 56) (Z #[.nilFunc,.nilFunc,I L 0,Zq N 0 0] 78);have d:Gr w (((w.alloc (Z (zG a b) 74)).alloc (Z #[F_ g n] 56)).alloc (Z #[.nilFunc,.nilFunc,I L 0,Zq N 0 0] 78)):=ZN.al.al;unfold ZL;go_in;go_upto_region 1 with fail;show n_ _ _ _ _ (((w.alloc (Z (zG a b) 74)).alloc (Z #[F_ g n] 56)).alloc (Z #[.nilFunc,.nilFunc,I L 0,Zq N 0 0] 78));generalize ((w.alloc (Z (zG a b) 74)).alloc (Z #[F_ g n] 56)).alloc _=k at h i f d|-;go_wp2_with(first|(refine ZV R 74 _ R w R 74 (zG a b) (0,0) _ (by with_reducible exact h) underlying74 rfl yU ?_)|(refine ZV R 56 _ R (w+1) R 56 #[F_ g n] (0,0) _ (by with_reducible exact i) underlying56 rfl L8 ?_)|(refine qqq R 78 #[(0,.tmp 7),(1,.tmp 8),(2,.tmp 9)] R (C_ a b wn g n) ?_ ?_;focus (first|(go_simp;exact Jk a b wn g n)|(simp;exact Jk a b wn g n)))|(refine ZU R 78 _ _ R (w+2) (C_ a b wn g n) R R 78 #[.nilFunc,.nilFunc,I L 0,Zq N 0 0] (by with_reducible exact f) Jc R (Kh _ _ _ _ _) ?_));exact ZS (v:=(C_ a b wn g n)) (Yp results24 _ _ (w+2) 78 _ (0,0) _ R (Zt f) underlying78 rfl Jc) R ⟨R,d.setRow _ O _⟩
def Nn{b:Nat}{c:I0}{ty:TypeId}{fr:Nat×Nat}(h:W.heap[b]?=Z c ty fr):b<W:=(qB.1 h).1
def RE{d:List I7}(h:W.ownsRow base 168 75 (F_ g n) n d):∃S fr,W.heap[g]?=some (Z S 168 fr):=by
 obtain⟨e,_⟩|⟨f,cap,cur,a,_,b,_⟩:=h.2
 .cases e
 injection a with a _ _;injection a with a;injection a with a _ _;subst a;exact⟨_,_,b⟩
def Po(a:Ct m w)(b:uV w):Wt w:=⟨a.tab,b.cas,b.st,a.homes⟩
theorem KR:∀(a:List R_)(i:Nat)(h:i<a.length),(Lc a)[i*2]?=S (Zb a[i].1)/\(Lc a)[i*2+1]?=S (I Zh (a[i].2:Int))
 | [],i,h=>w_ h (Yy i)
 | c::r,0,_=>⟨R,R⟩
 | c::r,i+1,h=>by
  have b:=KR r i Vq;have e:Lc (c::r)=Zb c.1::I Zh (c.2:Int)::Lc r:=R;rw[e,show(i+1)*2=i*2+1+1 from O];exact b
def ge(p:Option Addr)(L:List R_)(W:I6):Prop:=∀i (hi:i<L.length),∃g,p=S ⟨g,0,N⟩/\W.cell? ⟨g,i*2,N⟩=S (Zb L[i].1)/\W.cell? ⟨g,i*2+1,N⟩=S (I Zh (L[i].2:Int))
def ge.gr{p:Option Addr}{L:List R_}{d:I6}(h:ge p L W)(f:Gr W d):ge p L d:=λi j=>by
 obtain⟨g,e,a,b⟩:=h i j;exact⟨g,e,(ZW f (Zx a)).trans a,(ZW f (Zx b)).trans b⟩
def Kg{L:List R_}(h:gs base v L w):∃p cap,v=Zq p L.length cap/\L.length<=cap/\ge p L w:=by
 obtain⟨rfl,j⟩|⟨g,cap,cur,rfl,r,m,o,x,l,d⟩:=h.2
 .have f:=j;exact⟨N,0,by rw[f],O,λi n=>w_ n O⟩
 refine⟨_,_,R,o,λi q=>⟨g,R,?_⟩⟩;have e:∀c,c<2->w.cell? ⟨g,i*2+c,N⟩=(Lc L)[i*2+c]?:=λc u=>by have k:i*2+c<L.length*2:=O;simp only[World.cell?];rw[m];show cur[i*2+c]?=_;rw[<-qO,<-Xi k,d]
 obtain⟨a,b⟩:=KR L i q;exact⟨(e 0 WW).trans a,(e 1 WW).trans b⟩
section
open Go.MuLone
theorem Je(d:Nat)(g k:I0)(a b:Nat->Int)(w:I6):∀f:List Nat,(∀i∈f,g[i]?=I Zg (a i)/\k[i]?=I Zg (b i))->(Op.eqItems (d+1) 5 1 g k f).run c_ w=.ok (f.all λi=>a i==b i) w
 | [],_=>by simp[Op.eqItems]
 | i::f,h=>by
  obtain⟨l,m⟩:=h i WU;have o:=Je d g k a b w f (λj n=>h j (by simp[n]));simp only[Op.eqItems,Sem.run_bind,Nat.mul_one];rw[Xm w PE l];simp only[XV];rw[Xm w PE m];simp only[XV];rw[run_equalIn_int w d 5 Zg Zg (a i) (b i) underlying5];by_cases e:a i=b i
  .simp[e,o]
  simp[e]
theorem Jf(d:Nat)(g k:I0)(a b:Nat->Bool)(w:I6):∀f:List Nat,(∀i∈f,g[i]?=(a i)/\k[i]?=(b i))->(Op.eqItems (d+1) 4 1 g k f).run c_ w=.ok (f.all λi=>a i==b i) w
 | [],_=>by simp[Op.eqItems]
 | i::f,h=>by
  obtain⟨l,m⟩:=h i WU;have o:=Jf d g k a b w f (λj n=>h j (by simp[n]));simp only[Op.eqItems,Sem.run_bind,Nat.mul_one];rw[Xm w KU l];simp only[XV];rw[Xm w KU m];simp only[XV];rw[run_equalIn_bool w d 4 (a i) (b i) underlying4];by_cases e:a i=b i
  .simp[e,o]
  simp[e]
def Qc(d:Nat)(e f:I0)(a b:Nat->Int)(h:∀i,i<64->e[i]?=I Zg (a i)/\f[i]?=I Zg (b i))(w:I6):(Op.equalIn (d+2) 67 e f).run c_ w=.ok ((h_ 64).all λi=>a i==b i) w:=by obtain⟨i,g⟩:=Sa;rw[run_equalIn_array w (d+1) e f t_ g,Rr];exact Je d e f a b w _ (λi g=>h i (qK.1 g))
def R6(d:Nat)(e f:I0)(a b:I5)(h:∀i,i<4->e[i]?=(a i)/\f[i]?=(b i))(w:I6):(Op.equalIn (d+2) 68 e f).run c_ w=.ok ((h_ 4).all λi=>a i==b i) w:=by obtain⟨i,g⟩:=Rb;rw[run_equalIn_array w (d+1) e f underlying68 g,Rt];exact Jf d e f a b w _ (λi g=>h i (qK.1 g))
def pD{e g:I0}{f:Field}{h:List Field}{a b:I7}{c r:Bool}(k:(f.name != "_")=Zk)(i:(part f.type e f.offset).run c_ w=.ok a w)(j:(part f.type g f.offset).run c_ w=.ok b w)(m:(Op.equalIn d f.type a b).run c_ w=.ok c w)(l:(Op.eqFields d e g h).run c_ w=.ok r w):(Op.eqFields d e g (f::h)).run c_ w=.ok (c&&r) w:=by simp only[Op.eqFields];rw[qI (by simpa using k)];cases c<;>simp[Sem.run_bind,i,j,m,l]
def MG(d:Nat)(a b:Int)(w:I6):(Op.equalIn (d+1) 3 a b).run c_ w=.ok (a==b) w:=by rw[run_equalIn_int w d 3 L L a b underlying3]
def qac(z z':I2)(wh wh':Bool)(f f':I5)(b b' h h' g g':Int):Bool:=((h_ 64).all λi=>((z i).toNat:Int)==((z' i).toNat:Int))&&((wh==wh')&&(((h_ 4).all λi=>f i==f' i)&&((b==b')&&((h==h')&&((g==g')&&Zk)))))
def Q8(n:Nat){B:I2}{e:Bool}{f A:I5}{l o g:Int}{a a0:I0}(r:jE z wh f b h g a)(j:jE B e A l o m a0)(w:I6):(Op.equalIn (n+4) 70 a a0).run c_ w=.ok (qac z B wh e f A b l h o g m) w:=by
 rw[run_equalIn_struct w (n+3) 70 a a0 Pf Pt];have d:=Nt;generalize (c_.fieldsOf 70).toList=fs at d|-;obtain⟨a7,Q,rfl,E,d⟩:=XG.1 d;obtain⟨f1,a5,rfl,F,d⟩:=XG.1 d;obtain⟨f2,a6,rfl,G,d⟩:=XG.1 d;obtain⟨f3,T,rfl,H,d⟩:=XG.1 d;obtain⟨f4,V,rfl,a1,d⟩:=XG.1 d;obtain⟨f5,W,rfl,J,d⟩:=XG.1 d;rw[List.map_eq_nil_iff]at d;subst d;simp only[Prod.mk.injEq]at E F G H a1 J;obtain⟨K,p,c0⟩:=E;obtain⟨a3,q,c1⟩:=F;obtain⟨M,u,c2⟩:=G;obtain⟨a4,v,c3⟩:=H;obtain⟨a2,x,C⟩:=a1;obtain⟨P,y,D⟩:=J;refine pD (a:=(a.extract 0 64)) (b:=(a0.extract 0 64)) K (by rw[p,c0];exact PG a w) (by rw[p,c0];exact PG a0 w) (by
  rw[p];exact Qc (n+1) _ _ (λi=>((z i).toNat:Int)) (λi=>((B i).toNat:Int)) (λi k=>⟨UY,by rw[Array.getElem?_extract,qI (by rw[j.size];omega),Z2];exact j.sq i k⟩) w) ?_
 refine pD (a:=wh) (b:=e) a3 (by rw[q,c1];exact Xm w KU r.wh) (by rw[q,c1];exact Xm w KU j.wh) (by rw[q,run_equalIn_bool w (n+2) 4 wh e underlying4]) ?_;refine pD (a:=(a.extract 65 69)) (b:=(a0.extract 65 69)) M (by rw[u,c2];exact RC a w) (by rw[u,c2];exact RC a0 w) (by
  rw[u];exact R6 (n+1) _ _ f A (λi k=>⟨by rw[Array.getElem?_extract,qI Vw];exact r.c i k,by rw[Array.getElem?_extract,qI (by rw[j.size];omega)];exact j.c i k⟩) w) ?_
 refine pD (a:=b) (b:=l) a4 (by rw[v,c3];exact Xm w ol r.b) (by rw[v,c3];exact Xm w ol j.b) (by rw[v];exact MG (n+2) b l w) ?_;refine pD (a:=h) (b:=o) a2 (by rw[x,C];exact Xm w ol r.h) (by rw[x,C];exact Xm w ol j.h) (by rw[x];exact MG (n+2) h o w) ?_;refine pD (a:=g) (b:=m) P (by rw[y,D];exact Xm w ol r.g) (by rw[y,D];exact Xm w ol j.g) (by rw[y];exact MG (n+2) g m w) ?_;simp[Op.eqFields]
def Lj{k:I2}{a:Bool}{f j:I5}{d q g p:Int}(e:qac z k wh a f j b d h q g p=Zk):(∀i,i<64->z i=k i)/\wh=a/\(∀i,i<4->f i=j i)/\b=d:=by unfold qac at e;simp only[qH,qW,qK,YF]at e;obtain⟨l,m,n,o,_⟩:=e;exact⟨λi r=>q6.1 (Int.ofNat.inj (l i r)),m,n,o⟩
def Qp:c_.underlying 117=S (.struct (c_.fieldsOf 117)):=WR
def Qt:c_.stoodInHeld 117=Zl:=WR
def QQ:(c_.fieldsOf 117).toList.map (λf=>(f.name != "_",f.type,f.offset))=[(Zk,70,0),(Zk,3,72),(Zk,3,73)]:=WR
def Re:c_.eqGuardType c_.depth 117=Zl:=WR
def PF(a:I0)(w:I6):(part 70 a 0).run c_ w=.ok (a.extract 0 72) w:=by simp[part,isAgg,run_underlying s_,sizeOf,typeInfo];kernel_rfl
def PD(h:A.size=72)(d n:Int):(qA A d n).extract 0 72=A:=by rw[qA,Array.extract_append];simp[h]
def NH(h:A.size=72)(d n:Int):(qA A d n)[72]?=I L d/\(qA A d n)[73]?=I L n:=by
 unfold qA;constructor
 .rw[Yw O,h];rfl
 rw[Yw O,h];rfl
def qaV(E:Bool)(d d' n n':Int):Bool:=E&&((d==d')&&((n==n')&&Zk))
def S8{B:I2}{j:Bool}{f x:I5}{p A g y:Int}{a M:I0}(r:jE z wh f b h g a)(k:jE B j x p A y M)(d d' n i:Int)(w:I6):(Op.equalIn 10000 117 (qA a d n) (qA M d' i)).run c_ w=.ok (qaV (qac z B wh j f x b p h A g y) d d' n i) w:=by rw[run_equalIn_struct w 9999 117 _ _ Qp Qt];have e:=QQ;generalize (c_.fieldsOf 117).toList=Q at e|-;obtain⟨P,F,rfl,q,e⟩:=XG.1 e;obtain⟨J,G,rfl,u,e⟩:=XG.1 e;obtain⟨K,H,rfl,v,e⟩:=XG.1 e;rw[List.map_eq_nil_iff]at e;subst e;simp only[Prod.mk.injEq]at q u v;obtain⟨C,l,c0⟩:=q;obtain⟨D,m,c1⟩:=u;obtain⟨E,o,c2⟩:=v;refine pD (a:=a) (b:=M) C (by rw[l,c0,PF,PD r.size]) (by rw[l,c0,PF,PD k.size]) (by rw[l];exact Q8 9995 r k w) ?_;refine pD (a:=d) (b:=d') D (by rw[m,c1];exact Xm w ol (NH r.size d n).1) (by rw[m,c1];exact Xm w ol (NH k.size d' i).1) (by rw[m];exact MG 9998 d d' w) ?_;refine pD (a:=n) (b:=i) E (by rw[o,c2];exact Xm w ol (NH r.size d n).2) (by rw[o,c2];exact Xm w ol (NH k.size d' i).2) (by rw[o];exact MG 9998 n i w) ?_;simp[Op.eqFields]
def ax{d:Array Oper}{b:List Oper}{o:Oper}{a:Act}{k l:I0}{E:Bool}{Q:Exit->Act->I6->Prop}(e:o.guard=N)(x y:Operand)(f:o.op=.binOp .neq 117 x y 117)(i:a.eval x=k)(j:a.eval y=l)(g:∀w:I6,(Op.equalIn 10000 117 k l).run c_ w=.ok E w) (h:wpList c_ d Q b (a.put o.dst (!E)) w):wpList c_ d Q (o::b) a w:=
 wpList_plain e λK hK=>by
  unfold Oper.wp execOp;simp only[f,i,j,Sem.run_bind,Sem.run_pure,XV,run_eqGuard_agg _ _ _ _ _ _ _ Re,run_neq_struct,g];exact hK _ _ h
def Mq.rg{d k:Int}{a:Nat}(h:Mq g n (qA A d k) e a w W):W.rangeAt a 0 A.toList:=λj v b=>by
 rw[Z2,qn h.q];unfold qA;have f:=(Z5.1 b).1;rw[Xx Uq,<-qO];exact b
def Mq.rq{Q:I0}{b a:Nat}(h:Mq g n Q b a w W):W.rangeAt a 0 Q.toList:=λj v d=>by
 rw[Z2,qn h.q,<-qO];exact d
def r8{d:Array Oper}{op:Oper}{a:Act}(i:PA.size=72){S:I6->Prop}(g:Region.wanted op (yielded d a.tmps)=Zk)(x:Operand)(f:op.op=.load 70 x)(b:Nat)(h:a.eval x=ZI b)(e:∀w,S w->w.rangeAt b 0 PA.toList):YieldsIf c_ d S op PA a:=by have:=XW (P:=c_) g 70 x f b 0 h PA.toList _ e s_ rfl (by rw[q9];simp[i]);rwa[Yb]at this
def Hn{H:Int}{j:I0}(o:Ok z wh fc b h H)(r:jE z wh fc b 0 0 j)(g n:Nat)(v:0<n)(J:n<=4096)(d k:Int)(w:I6):ZL 93 #[Zc #[F_ g n],qA j d k] w (((K3 z wh fc b).toNat%n:Nat)):=by
 have M:=r.size;have f:=λW=>L6 r o.lay o.b0 o.b1 W;obtain⟨B,CQ⟩:=x6 w (Z #[F_ g n] 56) (Z (qA j d k) 117);have m:Gr w ((w.alloc (Z #[F_ g n] 56)).alloc (Z (qA j d k) 117)):=ZN.al;have F:U (K3 z wh fc b)=(((K3 z wh fc b).toNat:Nat):Int):=R;have A:=(K3 z wh fc b).isLt;rw[F]at f;generalize (K3 z wh fc b).toNat=l at f A|-;have P:((n:Int)==0)=Zl:=Vp;have G:¬((n:Int)=0):=O;have ew:a_ Zh ((n:Nat):Int)=(n:Int):=Vh;have u:(l:Int).tmod (n:Int)=((l%n:Nat):Int):=Vu;have em:l%n<n:=Nat.mod_lt _ v;have D:a_ L ((l%n:Nat):Int)=((l%n:Nat):Int):=Vc;have E:a_ Zh ((l%n:Nat):Int)=((l%n:Nat):Int):=Vh;generalize l%n=pl at u em D E|-;unfold ZL;go_in;go_upto_region 1 with fail;show n_ _ _ _ _ ((w.alloc (Z #[F_ g n] 56)).alloc (Z (qA j d k) 117));generalize (w.alloc _).alloc _=i at B CQ m|-;have q:Mq g n (qA j d k) w (w+1) w i.drew:=⟨B,CQ,m.drew⟩;refine ZT (S:=Mq g n (qA j d k) w (w+1) w) WR q (λa=>?_);apply tq 0 _ a;apply ty 1 j R (r8 M Vb _ R (w+1) R (λ_ h=>h.rg)) a;apply tq 3 _ a;refine ZB 4 (F_ g n) R (λw' p=>by have c0:=p.c;go_simp) a ?_;unfold F_;apply tq 5 n a;refine ZB 6 (I Zh n) R (λw' p=>by go_simp;try exact ew) a ?_;refine rd 2 λK hK=>?_;go_simp;refine Z0 (f _) λQ x=>?_;refine hK.out _ _ (a.next x) λa=>?_;try simp only[py]
 refine ZB 7 (I Zh pl) R (λw' p=>by go_simp;try first|done|exact u|(rw[u];exact E)|omega) a ?_;refine ZB 8 pl R (λw' p=>by go_simp;try exact D) a ?_;refine rd 9 λK hK=>?_;go_simp;refine hK.out _ _ a λa=>?_;try simp only[py]
 refine ZZ WR ?_ _;have y:=a.gr;go_wp2;go_ret;exact⟨R,y⟩
def e9(Q:I0)(p:Int):I0:=Q++#[I Zh p]
def EB{Q:I0}(h:Q.size=74)(p:Int):(e9 Q p).size=75:=by unfold e9;simp[h]
def M8{Q:I0}(h:Q.size=74)(p:Int):(e9 Q p)[74]?=I Zh p:=by rw[e9,Yw O,h];rfl
def Hl{Q:I0}(h:Q.all (·.oneCell')=Zk)(p:Int):(e9 Q p).all (·.oneCell')=Zk:=by rw[e9,Wo,h];simp[Value.oneCell']
def Qe(S:I0)(i:Nat):Prop:=∃(z:I2)(wh:Bool)(fc:I5)(b:Int)(A:I0)(d way p:Int),jE z wh fc b 0 0 A/\(∀n,64<=n->z n=0)/\(∀n,4<=n->fc n=Zl)/\(∀j,j<75->S[i*75+j]?=(e9 (qA A d way) p)[j]?)/\(∀h g,Ok z wh fc b h g->∀m:Nat,d=(m:Int)->1<=m->m<=3->p=((z_ m z wh fc b:Nat):Int))
def Qg(g n:Nat)(W:I6):Prop:=∃S,W.heap[g]?=some (Z S 168)/\S.size=n*75/\∀i,i<n->Qe S i
def H9:(c_.info? 168).map (·.size)=S 75:=WR
def Ml:zeroCells168.size=75:=WR
def Ms.rg{Q S R:I0}{b:Nat}(h:Ms g n Q S b d w W)(f:R.size=75)(hR:∀j,j<75->S[i*75+j]?=R[j]?):W.rangeAt g (i*75) R.toList:=λj v a=>by
 have e:j<75:=by
  have:=(Z5.1 a).1;rw[ZX,f]at this;exact this
 rw[qn h.s,hR j e,<-qO];exact a
def y_q{d:Array Oper}{op:Oper}{a:Act}{Q:I0}(i:Q.size=74){S:I6->Prop}(g:Region.wanted op (yielded d a.tmps)=Zk)(x:Operand)(f:op.op=.load 117 x)(b:Nat)(h:a.eval x=ZI b)(e:∀w,S w->w.rangeAt b 0 Q.toList):YieldsIf c_ d S op Q a:=by have:=XW (P:=c_) g 117 x f b 0 h Q.toList _ e underlying117 rfl (by rw[BW];simp[i]);rwa[Yb]at this
def y_s{e:Array Oper}{op:Oper}{a:Act}{R:I0}(j:R.size=75){S:I6->Prop}(h:Region.wanted op (yielded e a.tmps)=Zk)(x:Operand)(g:op.op=.load 168 x)(b d:Nat)(i:a.eval x=.pointer (some ⟨b,d,N⟩))(f:∀w,S w->w.rangeAt b d R.toList):YieldsIf c_ e S op R a:=by have:=XW (P:=c_) h 168 x g b d i R.toList _ f underlying168 rfl (by rw[H9];simp[j]);rwa[Yb]at this
def J0{gg:Int}{QA:I0}(o:Ok z wh fc b h gg)(r:jE z wh fc b 0 0 QA)(g n:Nat)(hn:0<n)(a6:n<=4096)(d:Nat)(d1:1<=d)(d3:d<=3)(k:Int)(w:I6)(hI:Qg g n w):i_ c_ 46 #[Zc #[F_ g n],qA QA (d:Int) k] w λe w'=>(e=Ze #[I Zh 0,Zl]\/e=Ze #[I Zh (z_ d z wh fc b:Nat),Zk])/\Gr w w':=by
 obtain⟨f0,hS,a8,a5⟩:=hI;have H:=X (λW=>Hn o r g n hn a6 (d:Int) k W);have a4:(K3 z wh fc b).toNat%n<n:=Nat.mod_lt _ hn;generalize (K3 z wh fc b).toNat%n=pl at H a4;obtain⟨z',a7,fc',b',A,d',y,p,rA,nz,nf,a2,a3⟩:=a5 pl a4;have x:=fY r.size (d:Int) k;have a:=fY rA.size d' y;have l:=EB a p;have d5:=M8 a p;have u:=X (Hl (H1 (qx rA) d' y) p);have CQ:=X (λW=>S8 rA r d' (d:Int) y k W);obtain⟨E,hE⟩:∃E,Y (E=qaV (qac z' z a7 wh fc' fc b' b 0 0 0 0) d' (d:Int) y k):=⟨_,X R⟩;rw[<-hE.a]at CQ;have J:Y (E=Zk->p=((z_ d z wh fc b:Nat):Int)):=X λe=>by
  rw[hE.a]at e;unfold qaV at e;simp only[qH,YF]at e;obtain⟨e1,e2,_⟩:=e;obtain⟨b3,b4,b5,b7⟩:=Lj e1;have ez:z'=z:=by
   funext i;by_cases hi:i<64
   .exact b3 i hi
   rw[nz i O,o.nz i O]
  have ef:fc'=fc:=by
   funext i;by_cases hi:i<4
   .exact b5 i hi
   rw[nf i O,o.nf i O]
  subst ez ef b4 b7;exact a3 h gg o d e2 d1 d3
 have G:Y (∀W,Ms g n (qA QA (d:Int) k) f0 w (w+1) w W->W.rangeAt g (pl*75) (e9 (qA A d' y) p).toList):=X λW hW=>hW.rg l a2;have F:Y ((e9 (qA A d' y) p).toList.take 74=(qA A d' y).toList):=X (by unfold e9;rw[Array.toList_append,Wg (by rw[ZX,a];omega),Yk (by rw[ZX,a];omega)]);obtain⟨x1,x2⟩:=x6 w (Z #[F_ g n] 56) (Z (qA QA (d:Int) k) 117);have c5:Gr w ((w.alloc (Z #[F_ g n] 56)).alloc (Z (qA QA (d:Int) k) 117)):=ZN.al;have d0:=(Zz c5 (xe hS)).trans hS;have a9:=xe hS;generalize z_ d z wh fc b=f2 at J|-;generalize qA QA (d:Int) k=Q at H x CQ G x1 x2 c5 d0|-;generalize c4:e9 (qA A d' y) p=RR at l d5 u G F;generalize qA A d' y=QB at CQ a F;have b0:((n:Int)==0)=Zl:=Vp;have b1:0<=(pl:Int):=O;have b2:(pl:Int)<n:=O;go_in;go_upto_region 1 with fail;show n_ _ _ _ _ ((w.alloc (Z #[F_ g n] 56)).alloc (Z Q 117));generalize ((w.alloc (Z #[F_ g n] 56)).alloc (Z Q 117))=w0 at x1 x2 c5 d0|-;have c0:w0.cell? w=Zq (S g) n n:=by rw[qn x1];rfl
 go_upto_region 3 with fail;have a1:Ms g n Q f0 w (w+1) w w0.drew:=⟨⟨x1,x2,c5.drew⟩,d0⟩;refine ZT (S:=Ms g n Q f0 w (w+1) w) WR a1 (λf=>?_);refine tq 0 (ZI w) f ?_;refine ZB 1 (Zq (S g) n n) R (λw' hw=>by have c0:=hw.mq.c;unfold F_ at c0;go_simp) f ?_;refine ZB 2 (Zc #[F_ g n]) R (λw' hw=>by have c0:=hw.mq.c;go_simp) f ?_;refine ty 3 Q R (y_q x Vb _ R (w+1) R (λ_ h=>h.mq.rq)) f ?_;refine Xk (rs:=[4,7]) WR WU ?_;refine Yc R (λK hK=>?_) (Yc R (λK hK=>?_) Xb)
 .go_simp;refine Z0 (H.a _) λB P=>?_;refine hK.out _ _ (f.next P) λf=>?_;try simp only[py]
  refine tq 5 (.pointer (S ⟨g,pl*75,N⟩)) f ?_;refine ty 6 RR R (y_s l Vb _ R g (pl*75) R (λW h=>G.a W h)) f ?_;have y7:=Z7 B (Z zeroCells168 168);have a0:w<=B.heap.size:=ZR f.mq.gr;have f1:B≠g:=O;have d2:B≠w.heap.size:=by have:=xe f.mq.m;omega
  have d4:B≠w.heap.size+1:=by have:=xe f.mq.q;omega
  refine rd 7 λK hK=>?_;go_simp;refine hK.out _ _ (f.next ZN) λf=>?_;try simp only[py]
  refine rd 8 λK hK=>?_;rw[qI Vb];refine YQ 168 _ _ R B RR R R 168 zeroCells168 y7 (by rw[l];exact H9) (by rw[l];exact Ml) u.a ?_;have T:((B.alloc (Z zeroCells168 168)).setRow B RR).heap[B.heap.size]?=Z RR 168:=Zt y7;refine hK.out _ _ (f.put f1 d2 d4 a0 RR) λf=>?_;try simp only[py]
  refine ZZ WR ?_ _;generalize (B.alloc (Z zeroCells168 168)).setRow B RR=w8 at f T|-;have D:w8.rangeAt B 0 QB.toList:=λj v hv=>by have hj:=(Z5.1 hv).1;rw[ZX,a]at hj;rw[Z2,qn T,<-qO,<-Xi hj,F.a];exact hv
  have c6:=f.mq.rq;have V:w8.cell? ⟨B,74,N⟩=I Zh p:=by rw[qn T];exact d5
  have M:=X f.mq.gr;generalize B.heap.size=b6 at D V|-;exact WH
 go_simp;have y0:(w0.drew.alloc (Z zeroCells168 168)).heap[w0.heap.size]?=Z zeroCells168 168:=Z7 w0.drew _;have h5:w<w0.heap.size:=xe f.mq.m;have h6:w+1<w0.heap.size:=xe f.mq.q;have a0:w<=w0.heap.size:=O;have f1:w0≠g:=O;have d2:w0≠w.heap.size:=O;have d4:w0≠w.heap.size+1:=O;refine hK.out _ _ (f.next ((q_ w0.drew).alloc _ _)) λf=>?_;try simp only[py]
 refine rd 4 λK hK=>?_;go_simp;refine Z0 (H.a _) λB P=>?_;have y7:=(Zz P (xe y0)).trans y0;refine hK.out _ _ (f.next P) λf=>?_;try simp only[py]
 refine tq 5 (.pointer (S ⟨g,pl*75,N⟩)) f ?_;refine ty 6 RR R (y_s l Vb _ R g (pl*75) R (λW h=>G.a W h)) f ?_;refine rd 8 λK hK=>?_;rw[qI Vb];refine YQ 168 _ _ R w0 RR R R 168 zeroCells168 y7 (by rw[l];exact H9) (by rw[l];exact Ml) u.a ?_;have T:(B.setRow w0 RR).heap[w0.heap.size]?=Z RR 168:=Zt y7;refine hK.out _ _ (f.put f1 d2 d4 a0 RR) λf=>?_;try simp only[py]
 refine ZZ WR ?_ _;generalize B.setRow w0 RR=w8 at f T|-;have D:w8.rangeAt w0 0 QB.toList:=λj v hv=>by have hj:=(Z5.1 hv).1;rw[ZX,a]at hj;rw[Z2,qn T,<-qO,<-Xi hj,F.a];exact hv
 have c6:=f.mq.rq;have V:w8.cell? ⟨w0,74,N⟩=I Zh p:=by rw[qn T];exact d5
 have M:=X f.mq.gr;generalize w0.heap.size=b6 at D V|-;exact WH
def Hw:Array I7->Nat->List I7->I0
 | a,_,[]=>a
 | a,o,v::r=>Hw (a.setIfInBounds o v) (o+1) r
theorem E1:∀(a:List I7)(b:I0)(o:Nat),(Hw b o a).size=b.size
 | [],_,_=>rfl
 | v::r,b,o=>by rw[Hw,E1 r,Array.size_setIfInBounds]
theorem AH:∀(a:List I7)(e:I0)(o:Nat),o+a.length<=e.size->∀i,(Hw e o a)[i]?=if o<=i/\i<o+a.length then a[i-o]? else e[i]?
 | [],e,o,_,i=>by rw[qF (by simp only[XN];omega)];rfl
 | v::r,e,o,h,i=>by
  simp only[Yq]at h;rw[Hw,AH r _ (o+1) (by rw[Array.size_setIfInBounds];omega)];by_cases b:o+1<=i/\i<o+1+r.length
  .rw[qI b,qI Ow,show i-o=(i-(o+1))+1 from O,List.getElem?_cons_succ]
  rw[qF b];by_cases d:i=o
  .subst d;rw[qI Ow,Nat.sub_self,Array.getElem?_setIfInBounds_self_of_lt O];rfl
  rw[qF Ow,XO O]
theorem bP(g:Nat)(t:TypeId):∀(a:List I7)(o:Nat)(W:I6)(b:I0),W.heap[g]?=Z b t->(W.setCells g o a).heap[g]?=Z (Hw b o a) t
 | [],_,_,_,h=>h
 | v::r,o,W,b,h=>by
  rw[World.setCells,Hw];exact bP g t r (o+1) _ _ (qv h)
theorem ba(g:Nat):∀(a:List I7)(o:Nat)(W:I6),zm g W (W.setCells g o a)
 | [],_,W=>zm.refl g W
 | v::r,o,W=>by
  rw[World.setCells];exact zm.trans ((Fr.refl _ W).setCell v (λ_ _ q=>q R)) (ba g r (o+1) _)
def Rx(a:List (Nat×I7)):c_.built 168 a=Instr.fill (λi=>(#[(0,74),(74,1)]:Array (Nat×Nat))[i]?) zeroCells168 a:=WR
def QY(Q:I0)(b:Q.size=74)(p:Int):c_.built 168 [(0,Q),(1,I Zh p)]=e9 Q p:=by
 rw[Rx];have d:=zo 0 Q zeroCells168;have p1:=zo 74 #[I Zh p] (P_ 0 Q zeroCells168);have z:=Ml;rw[xv _ _ 0 0 74 _ _ R (by simpa[Value.cells]using b) O,xv _ _ 1 74 1 _ _ R R Vl];simp only[Instr.fill,Value.cells,Xh];apply YV;intro i;rw[p1.2 i WX,d.2 i O];rw[e9,Y7,b];by_cases a:i<74
 .rw[qF WX,qI ⟨O,O⟩,qI a];simp
 by_cases e:i<75
 .have:i=74:=O;subst this;simp
 rw[qF WX,qF O,qF a,Z6 O,Z6 WX]
def QJ{S:I0}(g:S.size=n*75)(w:∀i,i<n->Qe S i){D:Int}{f:I0}(o:Ok z wh fc b h D)(r:jE z wh fc b 0 0 f)(d:Nat)(k:Int){pl:Nat}(K:pl<n):∀i,i<n->Qe (Hw S (pl*75) (e9 (qA f (d:Int) k) ((z_ d z wh fc b:Nat):Int)).toList) i:=by
 have v:=EB (fY r.size (d:Int) k) ((z_ d z wh fc b:Nat):Int);have a:pl*75+(e9 (qA f (d:Int) k) ((z_ d z wh fc b:Nat):Int)).toList.length<=S.size:=by rw[ZX,v,g];omega
 intro i E;by_cases e:i=pl
 .subst e;refine⟨z,wh,fc,b,f,d,k,((z_ d z wh fc b:Nat):Int),r,o.nz,o.nf,λj B=>?_,λJ q o' m em _ _=>?_⟩
  .rw[AH _ _ _ a,qI (by rw[ZX,v];omega),Nat.add_sub_cancel_left,qO]
  have:d=m:=O;rw[this]
 obtain⟨H,y,fc',C,A,d',x,p,rA,G,F,l,u⟩:=w i E;refine⟨H,y,fc',C,A,d',x,p,rA,G,F,λj B=>?_,u⟩;rw[AH _ _ _ a,qF (by rw[ZX,v];omega)];exact l j B
structure Mt(g n:Nat)(Q:I0)(sz:Nat)(b2 b3:Nat)(w W:I6):Prop where
 m:W.heap[b2]?=some (Z #[F_ g n] 56)
 q:W.heap[b3]?=some (Z Q 117)
 s:∃S:I0,S.size=sz/\W.heap[g]?=some (Z S 168)
def Mt.c{Q:I0}{a b:Nat}(h:Mt g n Q d a b w W):W.cell? a=F_ g n:=by rw[qn h.m];rfl
def Mt.rq{Q:I0}{b a:Nat}(h:Mt g n Q e b a w W):W.rangeAt a 0 Q.toList:=λj v d=>by
 rw[Z2,qn h.q,<-qO];exact d
def Hz{gg:Int}{G:I0}(o:Ok z wh fc b h gg)(r:jE z wh fc b 0 0 G)(g n:Nat)(hn:0<n)(Z:n<=4096)(d:Nat)(k:Int)(w:I6)(hI:Qg g n w):i_ c_ 48 #[Zc #[F_ g n],qA G (d:Int) k,I Zh (z_ d z wh fc b:Nat)] w λe w'=>(∃v,e=Zd v)/\zm g w w'/\Qg g n w':=by
 obtain⟨a5,a6,b0,a8⟩:=hI;have E:=λW=>Hn o r g n hn Z (d:Int) k W;have a7:(K3 z wh fc b).toNat%n<n:=Nat.mod_lt _ hn;generalize (K3 z wh fc b).toNat%n=pl at E a7;have p:=fY r.size (d:Int) k;have l:=EB p ((z_ d z wh fc b:Nat):Int);have f:=Hl (H1 (qx r) (d:Int) k) ((z_ d z wh fc b:Nat):Int);have u:=QY (qA G (d:Int) k) p ((z_ d z wh fc b:Nat):Int);have x:=QJ b0 a8 o r d k a7;obtain⟨J,V⟩:=x6 w (.cells #[F_ g n] 56) (.cells (qA G (d:Int) k) 117);have B:Gr w ((w.alloc (.cells #[F_ g n] 56)).alloc (.cells (qA G (d:Int) k) 117)):=ZN.al;have y:=(Zz B (xe a6)).trans a6;have a0:=xe a6;generalize ((z_ d z wh fc b:Nat):Int)=P at l f u x|-;generalize qA _ _ _=Q at E p l f u x J V B y|-;generalize e9 Q P=i at l f u x;have a1:(0:Int)<(n:Int):=O;have a2:0<=(pl:Int):=O;have a3:(pl:Int)<n:=O;go_in;go_upto_region 1 with fail;show n_ _ _ _ _ ((w.alloc (.cells #[F_ g n] 56)).alloc (.cells Q 117));generalize (w.alloc _).alloc _=w0 at J V B y|-;have c0:w0.cell? w=Zq (S g) n n:=by rw[qn J];rfl
 go_upto_region 2 with fail;have a9:Mt g n Q a5.size w (w+1) w w0.drew:=⟨J,V,⟨a5,R,y⟩⟩;refine ZT (S:=Mt g n Q a5.size w (w+1) w) WR a9 (λCQ=>?_);have M:Ms g n Q a5 w (w+1) w w0.drew:=⟨⟨J,V,B.drew⟩,y⟩;apply tq 0 _ CQ;refine ZB 1 (Zq (S g) n n) R (λw' H=>by have c0:=H.c;unfold F_ at c0;go_simp) CQ ?_;refine ZB 2 (Zc #[F_ g n]) R (λw' H=>by have c0:=H.c;go_simp) CQ ?_;apply ty 3 Q R (y_q p Vb _ R (w+1) R (λ_ h=>h.rq)) CQ;apply ty 5 Q R (y_q p Vb _ R (w+1) R (λ_ h=>h.rq)) CQ;apply tq 6 _ CQ;refine ty 7 i R (BB Vb 168 #[(0,.tmp 15),(1,.tmp 16)] R i (by simp;exact u)) CQ ?_;refine rd 4 λK hK=>?_;go_simp;refine Z0 (E _) λa4 b1=>?_;have a:=M.next b1;refine hK.out _ _ ⟨a.mq.m,a.mq.q,⟨a5,R,a.s⟩⟩ (λCQ=>?_);try simp only[py]
 apply tq 8 _ CQ;refine rd 9 λK hK=>?_;rw[qI Vb];have T:a4.there g (pl*75) i.size:=λj hj=>by rw[l]at hj;refine⟨?_,xr a.s⟩;rw[qn a.s,qQ O];rfl
 refine wp_store_mid 168 _ _ R g (pl*75) i R R T (by rw[l];exact H9) f ?_;have D:=ba g i.toList (pl*75) a4;have F:=bP g 168 i.toList (pl*75) a4 a5 a.s;refine hK.out _ _ ⟨D.at a.mq.m O,D.at a.mq.q O,⟨_,E1 _ _ _,F⟩⟩ (λCQ=>?_);try simp only[py]
 refine ZZ WR ?_ _;have A:zm g w (a4.setCells g (pl*75) i.toList)/\Qg g n (a4.setCells g (pl*75) i.toList):=⟨zm.trans (zm.of a.mq.gr) D,_,F,by rw[E1];exact b0,x⟩;generalize a4.setCells _ _ _=w9 at A|-;go_wp2;go_end0;exact⟨⟨_,R⟩,A.1,A.2⟩
theorem TF(g n:Nat)(m:0<n)(e:n<=4096):Qh g n (Qg g n) where
 st:=λA u h f=>by obtain⟨v,i,r⟩:=h;exact⟨v,f.same _ _ i R,r⟩
 ob:=λA h=>by obtain⟨v,i,r⟩:=h;exact⟨v,_,i⟩
 rc:=by
  intro z wh fc b h q p o r d k l a W j;exact J0 o r g n m e d k l a W j
 rm:=by
  intro z wh fc b h q p o r d k l a W j;exact Hz o r g n m e d a W j
def LC(g n:Nat)(W:I6):Prop:=if n=0 then(∃S fr,W.heap[g]?=some (Z S 168 fr))else Qg g n W
def Mc(g n:Nat)(a:n<=4096):Qh g n (LC g n):=by
 by_cases h:n=0
 .subst h;exact TG g
 have:LC g n=Qg g n:=by funext W;rw[LC,qF h]
 rw[this];exact TF g n O a
def R8(v:Int)(g n:Nat):I0:=#[I .i32 v,I .u32 0,F_ g n]
structure Pb(bc g n:Nat)(W:I6):Prop where
 c:W.heap[bc]?=S (Z (R8 0 g n) 66)
 m:LC g n W
 aw:LD g
 ne:bc≠g
 le:n<=4096
def Pb.fx{a:Nat}{b:I6}(h:Pb a g n W)(f:zm k W b)(d:a≠k)(i:g≠k):Pb a g n b:=⟨f.at h.c d,(Mc g n h.le).st _ _ h.m (Fr.mono f λq _ _ e=>by rw[e];exact i),h.aw,h.ne,h.le⟩
def Pb.gr{b:Nat}(h:Pb b g n W)(k:Gr W a):Pb b g n a:=⟨(Zz k (xe h.c)).trans h.c,(Mc g n h.le).st _ _ h.m (p_ k),h.aw,h.ne,h.le⟩
def Ly{z:I0}(d:z.size=75)(b:i<n)(e:j<75):(madeCells z (n*75))[i*75+j]?=z[j]?:=by
 unfold madeCells;have a:i*75+j<n*75:=by have:(i+1)*75<=n*75:=XT 75 b;omega
 rw[Array.getElem?_map,Array.getElem?_range,qI a];simp only[Option.map_some];rw[d,show(i*75+j)%75=j from O,qQ O,getElem!_pos z j O]
def LE:b_.toList.take 64=List.replicate 64 (I Zg 0):=WR
def Qm:b_[65]?=Za Zl:=WR
def Ql:b_[66]?=Za Zl:=WR
def Qk:b_[67]?=Za Zl:=WR
def Qj:b_[68]?=Za Zl:=WR
def Mh:jE (λ_=>0) Zl (λ_=>Zl) 0 0 0 b_:=by
 refine⟨xF,λi a=>?_,WR,λi a=>?_,WR,WR,WR⟩
 .rw[<-qO,<-Xi a,LE,List.getElem?_replicate,qI a];rfl
 have:i=0\/i=1\/i=2\/i=3:=O;obtain rfl|rfl|rfl|rfl:=this
 .exact Qm
 .exact Ql
 .exact Qk
 exact Qj
def QE{g:Int}:¬Ok (λ_=>0) Zl (λ_=>Zl) 0 h g:=λo=>by
 have:=o.lay;have a:xO (λ_=>(0:UInt8))=Zl:=WS
 rw[a]at this;cases this
def Mj:zeroCells168=e9 (qA b_ 0 0) 0:=WR
def Lu(h:W.ownsRow base 168 75 (F_ g n) n (madeCells zeroCells168 (n*75)).toList):LC g n W:=by
 unfold LC;by_cases q:n=0
 .subst q;rw[qI R];exact RE h
 rw[qF q];obtain⟨e,_⟩|⟨p,cap,cur,a,_,k,_,_,b,f⟩:=h.2
 .cases e
 injection a with a _ hcap;injection a with a;injection a with a _ _;subst a hcap;rw[Yk (by rw[ZX,b];exact Zy)]at f;have d:=Array.toList_inj.1 f;refine⟨cur,k,b,λi l=>⟨λ_=>0,Zl,λ_=>Zl,0,_,0,0,0,Mh,λ_ _=>R,λ_ _=>R,λj m=>?_,λh g o=>(QE o).elim⟩⟩;rw[d,Ly Ml l m,Mj]
def Jl(g n:Nat):c_.built 66 [(1,Zc #[F_ g n])]=R8 0 g n:=WR
def NW(n:Nat)(f:n<=4096)(w:I6)(l:Wt w):i_ c_ 9 #[n] w λe w'=>(∃h g,e=Ze #[ZI h,I L 0]/\Pb h g n w'/\w.heap.size<=h/\w.heap.size<=g)/\Gr w w':=by
 have i:=NS n f w;have m:¬(n:Int)<0:=O;have o:¬(4096:Int)<(n:Int):=O;go_in;go_wp2_with(first|(go_at_call 20;refine Z0 i λw1⟨d,a⟩=>?_)|(refine qqq R 66 #[(1,.tmp 11)] R (R8 0 (w+1) n) ?_ ?_;focus (first|(go_simp;exact Jl _ n)|(simp;exact Jl _ n))));go_ret2;have b:Gr w1 (w1.alloc (Z (R8 0 (w+1) n) 66)):=ZN;have j:=Lu d;have k:w+1<w1.heap.size:=by obtain⟨p,fr,e⟩:=(Mc _ n f).ob _ j;exact Nn e
 exact⟨⟨w1,w+1,R,⟨Z7 w1 _,(Mc _ n f).st _ _ j (p_ b),l.lt O,O,f⟩,ZR a,O⟩,o_ a b⟩
def NV(n:Int)(a:n<0\/4096<n)(w:I6):i_ c_ 9 #[n] w λe w'=>e=Ze #[.pointer N,I L 7]/\w'=w:=by
 by_cases d:n<0
 .go_in;go_wp2;exact MW
 have b:4096<n:=O;go_in;go_wp2;exact MW
end
def ItD{α:Type}(P:Program)(g:Nat)(lb:I0)(encs:α->I0)(T:Obj->Prop)(C D:Nat->Prop)(xs:List α)(w:I6):Prop:=
 ∀(l B:Nat)(J Jx:List α->I6->Prop)(W:I6),Fr (λk _=>C k) w W->B<=W.heap.size->vu B T J->vu B T Jx->(∀s A A',J s A->Fr (λk _=>¬D k) A A'->J s A')->(∀s A A',Jx s A->Fr (λk _=>¬D k) A A'->Jx s A')->(∀pre x W1,pre++[x]<+:xs->J pre W1->YieldAt Fence.wide 0 P l (encs x) W1 λe W'=>Fr (jM B T C) W1 W'/\((e=Zd (Za Zk)/\J (pre++[x]) W')\/(e=Zd (Za Zl)/\Jx (pre++[x]) W')))->J [] W->i_ P g (#[.func (.yield l) #[] #[]]++lb) W λe W'=>(∃v,e=Zd v)/\(J xs W'\/∃pre,pre<+:xs/\Jx pre W')
def Kv{α:Type}{P:Program}{g:Operand}{ps:Array Tmp}{assign body:Code}{Q:Exit->Act->I6->Prop}{a:Act}{gf:Nat}{lb:I0}(hg:a.eval g=.func (.func gf) #[] lb) (eg:∀args w,(callFunc gf args).run P w=.ok (.enter gf args) w) {i:α->I0} {T:Obj->Prop} {C D:Nat->Prop} {K:List α} {w0:I6} (V:ItD P gf lb i T C D K w0)(B:∀o,T o->o.isCells=Zk) (hC:∀k,C k->k<w.heap.size) (L:Fr (λk _=>C k) w0 w) (Z:∀x,(i x).size=ps.size)(b:List α->I6->Prop) (F:Code->List α->I6->Prop) (J:vu w T b) (y:∀c,vu w T (F c)) (h0:b [] w) (hD:∀k,D k->k<w.heap.size) (a5:∀s A l,b s A->Fr (λk _=>¬D k) A l->b s l) (R:∀c s A l,F c s A->Fr (λk _=>¬D k) A l->F c s l)(hR:cQ P w 9 T C i K ps assign body a.tmps b F)(z:∀(D:Nat)(W:I6),w<=D->b K W->W.heap[D]?=S (.deferred (S []))->Q .normal { a with defers:={ target:=.collected D,args:=#[] }::a.defers } W)(E:∀(D:Nat)(c:Code)(d:List α)(W:I6),w<=D->d <+:K->F c d W->W.heap[D]?=S (.deferred (S []))->c.wpIn Fence.wide n P Q { a with defers:={ target:=.collected D,args:=#[] }::a.defers } W):(Code.rangeFunc g ps assign body).wpIn Fence.wide n P Q a w:=by
 apply wpIn_rangeFunc;intro fn _;generalize j:(w.alloc (.deferred (S []))).alloc (.loop { state:=.ready,pending:=N,fn,tmps:=a.tmps,params:=ps,assign,body,defers:=w })=m;have f1:∀Q:Nat->Obj->Prop,Fr Q w m:=λQ=>by rw[<-j];exact(ZP.alloc _).alloc _
 have a4:m.heap[w.heap.size+1]?=S (.loop { state:=.ready,pending:=N,fn,tmps:=a.tmps,params:=ps,assign,body,defers:=w }):=VB;have M:m.heap[w.heap.size]?=S (.deferred (S [])):=Ol;have a1:m=w.heap.size+2:=by rw[<-j];simp
 refine⟨w+1,[{ target:=.collected w,args:=#[] }],m,{ target:=.fn (.func gf) lb,args:=#[.func (.yield (w+1)) #[] #[]] },m,gf,
  #[.func (.yield (w+1)) #[] #[]]++lb,m,?_,?_,?_,?_,?_,?_⟩
 .rw[<-j];exact run_enterLoop_outer _ _ _ _ _
 .simp only[resolve,hg];simp[go_sem]
 .intro f' a0;trivial
 .simp[invoke,go_sem,eg]
 .intro h;cases h
 refine ZY.2 ((V (w+1) m
  (λd W=>b d W/\W.heap[w.heap.size+1]?=S (.loop { state:=.ready,pending:=N,fn,tmps:=a.tmps,params:=ps,assign,body,defers:=w })/\W.heap[w.heap.size]?=S (.deferred (S [])))
  (λd W=>∃c,F c d W/\W.heap[w.heap.size+1]?=S (.loop { state:=.done,pending:=S c,fn,tmps:=a.tmps,params:=ps,assign,body,defers:=w })/\W.heap[w.heap.size]?=S (.deferred (S [])))
  m (L.trans (f1 _)) Zy ?_ ?_ ?_ ?_ ?_ ⟨J _ _ _ h0 (f1 _),a4,M⟩).mono ?_)
 .rintro s A l ⟨p,r,u⟩ f;exact⟨qo J O _ _ _ p f,f.same _ _ r (Zi O),f.same _ _ u (Zi O)⟩
 .rintro s A l ⟨c,p,r,u⟩ f;exact⟨c,qo (y c) O _ _ _ p f,f.same _ _ r (Zi O),f.same _ _ u (Zi O)⟩
 .rintro s A l ⟨p,r,u⟩ f;exact⟨a5 _ _ _ p f,f.same _ _ r (λq=>Tt),f.same _ _ u (λq=>Tt)⟩
 .rintro s A l ⟨c,p,r,u⟩ f;exact⟨c,R c _ _ _ p f,f.same _ _ r (λq=>Tt),f.same _ _ u (λq=>Tt)⟩
 .rintro d x W hx ⟨p,r,u⟩;exact jb (qjp (B:=m) (b:=w) O O B hC Z J y (λW=>W.heap[w.heap.size]?=S (.deferred (S []))) (λA l h f=>f.same _ _ h ⟨Zy,O,O,rfl⟩) hR d x W hx p r u)
 rintro e H ⟨⟨v,rfl⟩,⟨a3,G,a2⟩|⟨d,hp,c,a3,G,a2⟩⟩
 .have f:∀o',Fr (yv w T) H (H.putObj (w+1) o'):=λo'=>ZP.putObj _ (λo e q=>by
   rw[G]at e;cases e;obtain q|q:=q
   .omega
   have:=B _ q;cases this)
  exact⟨N,_,run_endLoop (P:=P) G WU,z _ _ Zy (J _ _ _ a3 (f _)) ((Xw O).trans a2)⟩
 have f:∀o',Fr (yv w T) H (H.putObj (w+1) o'):=λo'=>ZP.putObj _ (λo e q=>by
  rw[G]at e;cases e;obtain q|q:=q
  .omega
  have:=B _ q;cases this)
 exact⟨S c,_,run_endLoop (P:=P) G WU,E _ c d _ Zy hp (y c _ _ _ a3 (f _)) ((Xw O).trans a2)⟩
def Kk(s:I4)(xs:I3):Prop:=xs≠[]/\(∀x∈xs,(10:UInt8)∉x.data.toList)/\f_ (xs.map (·.data.toList)) [10]=s.data.toList
theorem KZ(c:UInt8):∀l:I1,∃d:I3,d≠[]/\(∀x∈d,c∉x.data.toList)/\f_ (d.map (·.data.toList)) [c]=l
 | []=>⟨[⟨#[]⟩],WU,WU,by simp[Lib.join_one]⟩
 | b::l=>by
  obtain⟨d,i,f,g⟩:=KZ c l;obtain⟨x,r,rfl⟩:=XI i;rw[YM,Lib.join_cons]at g;by_cases h:b=c
  .refine⟨⟨#[]⟩::x::r,WU,λy a=>?_,?_⟩
   .obtain rfl|a:=Yj.1 a
    .simp
    exact f y a
   rw[YM,Lib.join_cons,YM,<-g,h];simp[Lib.joinTail]
  refine⟨⟨(b::x.data.toList).toArray⟩::r,WU,λy a=>?_,?_⟩
  .obtain rfl|a:=Yj.1 a
   .have:=f x WU;simp;exact⟨λe=>h e.symm,by simpa using this⟩
   exact f y VM
  rw[YM,Lib.join_cons,<-g];simp
theorem PO(c:UInt8):∀{l:I1},c∉l->e_ l c=-1
 | [],_=>rfl
 | b::l,h=>by
  have a:(b==c)=Zl:=by rw[qM];rintro rfl;simp at h
  rw[e_,a,PO c (λe=>h Tf)];rfl
theorem L9(c:UInt8)(d:I1):∀{l:I1},c∉l->e_ (l++c::d) c=(l.length:Int)
 | [],_=>by simp[e_]
 | b::l,h=>by
  have a:(b==c)=Zl:=by rw[qM];rintro rfl;simp at h
  rw[YA,e_,a,L9 c d (λe=>h Tf)];have:((l.length:Int)==-1)=Zl:=Vp
  simp[this]
def eu{x y:I4}(h:x.data.toList=y.data.toList):x=y:=by cases x;cases y;simpa using h
def nc{t:I4}{d:I3}(h:Kk t d):(e_ t.data.toList 10=-1/\d=[t])\/∃i:Nat,e_ t.data.toList 10=i/\i<t.size/\∃r,d=t.extract 0 i::r/\Kk (t.extract (i+1) t.size) r:=by
 obtain⟨j,e,b⟩:=h;obtain⟨x,r,rfl⟩:=XI j;have f:=e x WU;cases r with
 | nil=>
  rw[YM,Wi,Lib.join_one]at b;have:=eu b;subst this;exact Zi ⟨PO _ f,R⟩
 | cons y r=>
  have a:t.data.toList=x.data.toList++10::f_ ((y::r).map (·.data.toList)) [10]:=by
   rw[<-b,YM,Lib.join_cons,YM,Lib.join_cons];simp[Lib.joinTail]
  have k:t.size=x.size+1+(f_ ((y::r).map (·.data.toList)) [10]).length:=by
   have:=Xn List.length a;rw[qZ,Yq]at this;simp only[ZX,YY]at this;omega
  refine Zj ⟨x.size,?_,O,y::r,?_,WU,λz g=>e z (by simp at g|-;exact Zj g),?_⟩
  .rw[a,L9 _ _ f];rfl
  .have:t.extract 0 x.size=x:=eu (by rw[Lib.extract_from_zero,a,Wg WU,Yk WU]);rw[this]
  rw[Lib.extract_to_end,a,List.drop_append,List.drop_of_length_le WU];simp
def M6(s:I4)(hs:s.size<4294967281)(F:I3)(hx:Kk s F)(d bp D:Nat)(a9:d≠bp)(b0:d≠D)(T:Obj->Prop)(w:I6)(h1:w.heap[d]?=Z #[s] 9)(h2:w.heap[bp]?=Z #[Zb ⟨#[10]⟩] 9)(h3:w.heap[D]?=Z #[I L 0] 3):ItD c_ 273 #[ZI bp,ZI d,ZI D] (λx:I4=>#[Zb x]) T (λk=>k=d\/k=bp\/k=D) (λk=>k=d) F w:=by
 intro l B J Jx W a4 hB hJ P a8 Q a5 h0;have j:=a4.same _ _ h1 (Zi R);have f:=a4.same _ _ h2 (Zj (Zi R));have o:=a4.same _ _ h3 (Zj (Zj R));refine(ZY (n:=1)).1 ?_;refine callsIn_of_wp func273 rfl x_ ?_ R;simp only[ntmps273,Nat.reduceAdd,Nat.reduceSub,Zr];have c2:=(qi f).1;apply Z9.2;go_wp2;refine(Z9 (n:=1)).1 ?_;gi_loopg [] s.size (λg wr=>∃(a:I3)(t:I4)(r:I3),t.size<=g/\t.size<=s.size/\F=a++r/\Kk t r/\wr.heap[d]?=Z #[t] 9/\wr.heap[bp]?=Z #[Zb ⟨#[10]⟩] 9/\wr.heap[D]?=Z #[I L 0] 3/\J a wr)
 .exact⟨[],s,F,Zy,Zy,R,hx,j,f,o,h0⟩
 obtain⟨a,t,r,g1,g2,b,a6,j,f,o,a3⟩:=hrel;obtain⟨c1,f1⟩:=qi j;obtain⟨c2,_⟩:=qi f;obtain⟨c3,_⟩:=qi o;have u:Y (∀W,i_ c_ 261 #[t,Zb ⟨#[10]⟩] W λe w'=>e=(e_ t.data.toList 10)/\w'=W):=λW=>Any.strings_Index_one { Tryz.lays147 with } t 10 W;obtain⟨n,E⟩|⟨i,n,a2,a7,E,A⟩:=nc a6
 .rw[n]at u;subst E;obtain⟨fn,tmps,m,G,hy,hR⟩:=a5 a t wr (by rw[b];exact List.prefix_rfl) a3;have v:=X b;gi_wp2_with (refine⟨x_,?_⟩;gi_at_call 261;refine(ZY.2 (u _)).mono ?_;rintro e w' ⟨rfl,rfl⟩);refine(Z9 (n:=1)).1 ?_;gi_wp2;apply hR.mono;rintro e W3 ⟨H,⟨rfl,p⟩|⟨rfl,h⟩⟩
  .gi_wp2;go_end0;exact⟨⟨_,R⟩,Zi (by rw[v.a];exact p)⟩
  gi_wp2;go_end0;exact⟨⟨_,R⟩,Zj ⟨_,by rw[v.a];exact List.prefix_rfl,h⟩⟩
 rw[n]at u;obtain⟨x,M⟩:=Zn (t.extract 0 i);obtain⟨y,C⟩:=Zn (t.extract (i+1) t.size);rw[M.a]at E;rw[C.a]at A;have a0:y.size<t.size:=by rw[<-C.a,Wu];omega
 have z:Y (F=(a++[x])++a7):=(by rw[b,E,qS];rfl);obtain⟨fn,tmps,m,G,hy,hR⟩:=a5 a x wr (by rw[b,E];exact⟨a7,WU⟩) a3;have V:=X A;have e0:a_ L ((i:Int)+0)=(i:Int):=Vc;have e1:a_ L ((i:Int)+1)=((i+1:Nat):Int):=Vc;have a1:¬(i:Int)<0:=O;have s1:∀W,(Instr.sliceAt 9 t N (S i) N).run c_ W=.ok x W:=λW=>by rw[<-M.a];exact(run_slice_string_h W 9 t underlying9 L (i:Int) O O)
 gi_wp2_with (refine⟨x_,?_⟩;gi_at_call 261;refine(ZY.2 (u _)).mono ?_;rintro e w' ⟨rfl,rfl⟩);apply hR.mono;rintro e W3 ⟨H,⟨rfl,p⟩|⟨rfl,h⟩⟩
 .have j:=H.same _ _ j (Zi (Zi R));have f:=H.same _ _ f (Zi (Zj (Zi R)));have o:=H.same _ _ o (Zi (Zj (Zj R)));obtain⟨c1,f1⟩:=qi j;obtain⟨c2,_⟩:=qi f;have K:Y (∃(a:I3)(t:I4)(r:I3),t.size<=y.size/\t.size<=s.size/\F=a++r/\Kk t r/\(W3.setCell d y).heap[d]?=Z #[t] 9/\(W3.setCell d y).heap[bp]?=Z #[Zb ⟨#[10]⟩] 9/\(W3.setCell d y).heap[D]?=Z #[I L 0] 3/\J a (W3.setCell d y)):=⟨a++[x],y,a7,Zy,O,z,V,jm j,(Yg W3 _ _ _ (λe=>a9 e.symm)).trans f,(Yg W3 _ _ _ (λe=>b0 e.symm)).trans o,a8 _ _ _ p (ZP.setCell _ (λ_ _ q=>q R))⟩;gi_wp2;gi_roundg y.size
  .rw[C.a];exact K
  omega
 gi_wp2;apply ZS (XS R _ _ _) R;exact⟨⟨_,R⟩,Zj ⟨_,by rw[z.a];exact Xz _ _,h⟩⟩
def Nr(u:Nat)(a:u<18446744073709551616)(w:I6)(B:HG w):ZL 350 #[I Zh u,I L 10] w (Zb ⟨(d_ u).toArray⟩):=by
 unfold ZL;go_in;by_cases F:u<100
 .have A:=X (λW=>Any.internal_strconv_small { Tryz.laysM171 with } u F W);have v:a_ L (u:Int)=u:=Vc;have l:(u:Int)<100:=O;clear a B;go_wp2_with(go_at_call 323;refine(A _).mono ?_;rintro e w' ⟨rfl,rfl⟩);go_ret;exact⟨R,ZO⟩
 .have l:¬(u:Int)<100:=O;have o:1<=u:=O;have z:Lib.nDigits u<=20:=by have:=Lib.numDigits_eq u o a;split at this<;>omega
  have r:c_.arrayLen 365=24:=WR;have G:∀W,(Instr.sliceAt 365 (ZI w) N (S ((Lib.nDigits u:Int))) N).run c_ W=.ok (Zq (S w) (Lib.nDigits u) 24) W:=λW=>by rw[run_sliceAt_array_h W 365 ⟨w,0,N⟩ (by simp[Program.arrayLen,Program.elem,underlying365]) L (Lib.nDigits u:Int) O Tx];go_simp
  have f:=Lib.holds_zero0 w 365 (Lib.nDigits u) O;have d:=Any.internal_strconv_formatBase10 { Tryz.laysM171 with } w 0 24 u (Array.replicate (Lib.nDigits u) 0) (w.alloc (Z Lib.zeros24 365)) f (by rw[Array.size_replicate];exact Lib.lt_pow_nDigits u) a (by rw[Array.size_replicate];omega);rw[Array.size_replicate]at d;have n:=X (Any.internal_strconv_numDigits { Tryz.laysM171 with } u o a (w.alloc (Z Lib.zeros24 365)) (Lib.tabIs_alloc B _));have E:=X d;have i:=X f;clear f d B;go_upto_region 5 with fail;show n_ _ _ _ _ (w.alloc (Z Lib.zeros24 365));go_upto_region 6 with(go_at_call 324;apply n.mono;rintro e w' ⟨rfl,rfl⟩);go_upto_region 7 with(go_at_call 325;refine Z0 E λw'⟨k,v',D,p,m⟩=>?_;have g:=X p;have q:=X m;clear p m);have v:(convert 145 9 (Zq (S w) (Lib.nDigits u) 24)).run c_ w'=.ok (Zb ⟨(d_ u).toArray⟩) w':=by
   have h:=run_convert_bytes_back (P:=c_) w' 145 9 5 ⟨w,0,N⟩ 24 (d_ u) underlying145 underlying5 underlying9 (λj y=>by
    rw[g.a,Lib.row_is_numeral q.a j y,Lib.add_plain,World.cell?_drewN];exact Sort.cell?_putRow (λ(b:UInt8)=>I Zg (b.toNat:Int)) _ w 0 _ D i (by rw[q.a.size,Array.size_replicate]) j (by rw[q.a.size];rw[Lib.decDigits_length]at y;exact y))
   rw[Lib.decDigits_length]at h;exact h
  have x:Y (Gr w w'):=X (by
   rw[g.a,Sort.alloc_eq_grow];obtain⟨C,_,e⟩:=Sort.putRow_grow_new (λ(b:UInt8)=>I Zg (b.toNat:Int)) w #[Z Lib.zeros24 365] w 0 D Zy;rw[e];exact Gr.grow w k C)
  clear g q i E n;go_wp2;go_ret;exact⟨R,x⟩
def RD{e:TypeId}{d:List I7}(h:W.ownsRow base e 1 v k d):∃a b c,v=Zq a b c:=by
 obtain⟨rfl,_⟩|⟨f,cap,cur,rfl,_⟩:=h.2
 .exact⟨_,_,_,R⟩
 exact⟨_,_,_,R⟩
def RF{q:Nat}{e t:TypeId}{i:List I7}{c:I0}{fr:Nat×Nat}(h:W.ownsRow base e 1 v k i)(a:W.heap[q]?=Z c t fr)(g:e≠t):S q≠v.ownBlock:=λd=>by
 obtain⟨rfl,_⟩|⟨f,cap,cur,rfl,_,b,_⟩:=h.2
 .simp[Value.ownBlock]at d
 obtain rfl:q=f:=by simpa[Value.ownBlock]using d
 rw[b]at a;injection a with a
 injection a with _ a _
 exact g a
def RG{f:List I7}(h:W.ownsRow base 9 1 v k f):∀q,v.ownBlock=S q->base<=q/\∃c fr,W.heap[q]?=Z c 9 fr:=by
 intro q b;obtain⟨rfl,_⟩|⟨d,cap,cur,rfl,e,a,_⟩:=h.2
 .simp[Value.ownBlock]at b
 obtain rfl:d=q:=by simpa[Value.ownBlock]using b
 exact⟨e,_,_,a⟩
def HV{t:TypeId}(h:W.heap[B]?=Z A t):W.frozen? ⟨B,k,N⟩=Zl:=by simp[World.frozen?,h]
def ec(g n:Nat):I7:=Zq (S g) n n
def CQ(PA:I0)(g n:Nat)(v:I7):I0:=PA++#[.func (.func 64) #[] #[],.func (.func 65) #[] #[],I L 1,ec g n,.func (.func 60) #[] #[],.func (.func 61) #[] #[],I L 2,ec g n,v]
def ny(a:PA.size=72)(g n:Nat)(v:I7)(i:Nat):(CQ PA g n v)[72+i]?=(#[.func (.func 64) #[] #[],.func (.func 65) #[] #[],I L 1,ec g n,.func (.func 60) #[] #[],.func (.func 61) #[] #[],I L 2,ec g n,v]:I0)[i]?:=by rw[CQ,Y7,qF O,a,Nat.add_sub_cancel_left]
def H7(b:PA.size=72)(g n:Nat)(v:I7)(a:i<72):(CQ PA g n v)[i]?=PA[i]?:=by rw[CQ,Y7,qI O]
def Ni(a:PA.size=72)(g n:Nat)(v v':I7):(CQ PA g n v).setIfInBounds 80 v'=CQ PA g n v':=by rw[CQ,Array.setIfInBounds_append_right O,a];rfl
def TSt(o:Obj):Prop:=∃c fr,o=Z c 9 fr
def A_(bl g base:Nat)(W W':I6):Prop:=Fr (λk o=>k≠bl/\k≠g/\(k<base\/¬TSt o)) W W'
structure PZ(bl g n base:Nat)(I:I6->Prop)(PA:I0)(rs:I3)(W:I6):Prop where
 c:∃v,W.heap[bl]?=S (Z (CQ PA g n v) 233)/\W.ownsRow base 9 1 v rs.length (rs.map Zb)
 i:I W
 pz:PA.size=72
structure Sv(bl g n base:Nat)(I:I6->Prop):Prop where
 b1:bl<base
 b2:g<base
 ne:bl≠g
 st:∀A A',I A->Fr (λk _=>k=g) A A'->I A'
 ob:∀A,I A->∃S fr,A.heap[g]?=some (Z S 168 fr)
def uy{b:I6}{e:List I7}(h:W.ownsRow base 9 1 v k e)(f:∀q c fr,W.heap[q]?=Z c 9 fr->base<=q->b.heap[q]?=Z c 9 fr):b.ownsRow base 9 1 v k e:=by
 refine⟨h.1,?_⟩;obtain g|⟨q,cap,cur,j,d,i,a⟩:=h.2
 .exact Zi g
 exact Zj ⟨q,cap,cur,j,d,f _ _ _ i d,a⟩
def PZ.gr{bl:Nat}{f:I6->Prop}(h:PZ bl g n base f PA rs W)(lc:Sv bl g n base f)(k:Gr W a):PZ bl g n base f PA rs a:=by obtain⟨v,b,d⟩:=h.c;exact⟨⟨v,ZE k b,uy d λq c fr e _=>(ZE k e)⟩,lc.st _ _ h.i (p_ k),h.pz⟩
def A_.refl(bl g base:Nat)(W:I6):A_ bl g base W W:=ZP
def A_.trans{bl:Nat}{A B C:I6}(h:A_ bl g base A B)(k:A_ bl g base B C):A_ bl g base A C:=Fr.trans h k
def A_.of{bl:Nat}{A B:I6}(h:Gr A B):A_ bl g base A B:=p_ h
def Ht{bl:Nat}{a0:I6->Prop}(lc:Sv bl g n base a0)(x:I4)(Q:rs.length<=2000000000000)(W:I6)(h:PZ bl g n base a0 PA rs W)(a7:base<=W):i_ c_ 159 #[ZI bl,x] W λe M=>e=Ze #[]/\PZ bl g n base a0 PA (rs++[x]) M/\A_ bl g base W M:=by
 have f:(c_.info? 9).map (λi=>(i.zero,i.size,i.bytes))=S (S (Zb ⟨#[]⟩),1,16):=WR;obtain⟨a5,P,J,K,a6⟩:=We f;have G:=P;obtain⟨v,C,a1⟩:=h.c;have hpz:=h.pz;have V:=h.i;have c1:W.cell? ⟨bl,80,N⟩=v:=by rw[Zs C,ny hpz g n _ 8];rfl
 have r:=a1.alloc (Z #[x] 9);have F:∀j a3,[Zb x][j]?=S a3->(W.alloc (Z #[x] 9)).cell? ((⟨W,0,N⟩:Addr).add j)=S a3:=Wp _ _ _;have E:=(qB.1 C).1;have u:=C;have w:(W.alloc (Z #[x] 9)).heap[bl]?=W.heap[bl]?:=YP _ _ _ E;go_in;go_wp2_with(at_builtin;apply Xv _ R (.tmp 8) (.tmp 10) 43 rfl base 9 a5 (Zb ⟨#[]⟩) 1 16 underlying43 G J K a6 R WW v rs.length (rs.map Zb) R r ⟨W,0,N⟩ 1 1 [Zb x] R R F Vi Vk O WX;intro v' p b a A;obtain⟨B,sb,sc,rfl⟩:=RD b;have l:=b;have d:=a;have hw1:p.heap[bl]?=Z (CQ PA g n v) 233:=(a.block _ WX (RF r (w.trans u) WW)).trans (w.trans u);have z5:p.cell? ⟨bl,80,N⟩=v:=by { rw[Zs hw1,ny hpz g n _ 8];rfl };have zf:p.frozen? ⟨bl,80,N⟩=Zl:=HV hw1;have m:=hw1);have y:PZ bl g n base a0 PA (rs++[x]) (p.setCell ⟨bl,80,N⟩ (Zq B sb sc))/\A_ bl g base W (p.setCell ⟨bl,80,N⟩ (Zq B sb sc)):=by
  have z:=d
  have fg:Fr (λk o=>k<base\/¬TSt o) W p:=⟨z.os,z.tape,z.output,q7 WU z.size,λk o e q=>by
   have H:=(qB.1 e).1;have a4:=(YP W (Z #[x] 9) k H).trans e;refine(z.block _ WX λT=>?_).trans a4;obtain⟨q1,c,fr,a2⟩:=RG r k T.symm;rw[a4]at a2;obtain q|q:=q
   .omega
   exact q ⟨c,fr,qP a2⟩⟩
  have D:Fr (λk _=>k≠bl) p (p.setCell ⟨bl,80,N⟩ (Zq B sb sc)):=ZP.setCell _ (λ_ _ q=>q R);refine⟨⟨⟨Zq B sb sc,?_,?_⟩,?_,hpz⟩,?_⟩
  .have:=qv (i:=80) (v:=Zq B sb sc) m
   rwa[Ni hpz]at this
  .have:=l;rw[Ys,qZ];exact uy this λq c fr e a8=>D.same _ _ e (by have:=lc.b1;omega)
  .refine lc.st _ _ (lc.st _ _ V (fg.mono λk o _ q=>Zi (by rw[q];exact lc.b2))) (D.mono λk o _ q=>by rw[q];exact lc.ne.symm)
  exact Fr.trans (fg.mono λk o _ q=>q.2.2) (D.mono λk o _ q=>q.1)
 go_wp2;go_end0;exact⟨R,y⟩
def ad(u:Nat)(a:u<18446744073709551616)(w:I6)(h:HG w):ZL 281 #[I Zh u] w (Zb ⟨(d_ u).toArray⟩):=by
 have d:∀W,HG W->ZL 319 #[I Zh u,I L 10] W (Zb ⟨(d_ u).toArray⟩):=λW g=>by have f:=Nr u a W g;go_enter func319,ntmps319;go_wp2_with(go_at_call 350;refine Z0 f λw' b=>?_);go_ret;exact⟨R,b⟩
 go_enter func281,ntmps281;go_wp2_with(go_at_call 319;refine Z0 (d _ h) λw' b=>?_);go_ret;exact⟨R,b⟩
def df(lo:Nat)(t:I1):Option Nat:=(kZ 1 t).filter λd=>Zm (lo<=d)&&Zm (d<=3)
def MN{b:Nat}{t:I1}(h:df b t=d):b<=d/\d<=3:=by unfold df at h;have:=X5.1 h;have a:=this.2;simp at a;exact a
def Ae(t:I4)(q:t.size<=maxLen)(f:Nat)(p:f<=1)(w:I6):i_ c_ 280 #[t,f] w λe w'=>(∃v:Nat,(∀d,df f t.data.toList=S d->v=d)/\v<=999999999/\e=Ze #[v,(df f t.data.toList).isSome])/\w'=w:=by
 have a:=ey 1 O t q w;have i:=BR 1 O t.data.toList;have j:(df f t.data.toList).isSome=((kZ 1 t.data.toList).isSome&&Zm (f<=(kZ 1 t.data.toList).getD 0)&&Zm ((kZ 1 t.data.toList).getD 0<=3)):=by
  unfold df;cases kZ 1 t.data.toList with
  | none=>rfl
  | some d=>by_cases g:f<=d<;>by_cases n:d<=3<;>simp[Option.filter,g,n]
 have k:∀d,df f t.data.toList=S d->(kZ 1 t.data.toList).getD 0=d:=λd h=>by unfold df at h;rw[(X5.1 h).1];rfl
 rw[j];unfold vv at a;generalize (kZ _ _).getD _=v at a i k;generalize (kZ 1 t.data.toList).isSome=b at a;by_cases g:f<=v<;>by_cases o:v<=3<;>cases b;all_goals
  first|(have l:(f:Int)<=v:=O)|(have l:¬(f:Int)<=v:=O)
  first|(have m:(v:Int)<=3:=O)|(have m:¬(v:Int)<=3:=O)
  go_in;go_wp2_with(go_at_call 217;apply Z1 a);go_ret2;exact⟨⟨v,k,O,by simp[g,o]<;>omega⟩,R⟩
def bk:I1:=[32,59,68]
def ay(s:I1):List (I1):=Lib.splitK bk 0 (Lib.count s bk) s
def LW{s:I1}(h:Lib.index s bk=-1):ay s=[s]:=by rw[ay,Lib.count_miss h];rfl
def KQ{s:I1}(h:Lib.index s bk=i):ay s=s.take i::ay (s.drop (i+3)):=by
 have a:¬(Lib.index s bk==-1)=Zk:=by rw[h,YF];omega
 rw[ay,Lib.count_hit WW h,Nat.add_comm,Lib.splitK,qF a,h];rfl
def SH(L:I1):ay (32::59::68::L)=[]::ay L:=by
 have:Lib.index (32::59::68::L) bk=(0:Nat):=by unfold Lib.index;simp[bk]
 exact KQ this
def N8(L:I1):∃h t,ay L=h::t:=by
 by_cases b:Lib.index L bk=-1
 .exact⟨_,_,LW b⟩
 have:=Lib.index_ge L bk;obtain⟨i,a⟩:=Yt (show 0<=Lib.index L bk from O);exact⟨_,_,KQ a⟩
def Qu{b:UInt8}{L:I1}(g:bk.isPrefixOf (b::L)=Zl):∃h t,ay L=h::t/\ay (b::L)=(b::h)::t:=by
 have e:Lib.index (b::L) bk=if Lib.index L bk==-1 then -1 else Lib.index L bk+1:=by
  conv=>lhs;unfold Lib.index
  rw[g];rfl
 by_cases d:Lib.index L bk=-1
 .exact⟨L,[],LW d,LW (by rw[e,d];rfl)⟩
 have:=Lib.index_ge L bk;obtain⟨i,a⟩:=Yt (show 0<=Lib.index L bk from O);have f:Lib.index (b::L) bk=(i+1:Nat):=by rw[e,qF (by rw[YF];exact d),a];rfl
 exact⟨_,_,KQ a,by rw[KQ f];rfl⟩
theorem M7(l:I1):∀{x:I1},(32:UInt8)∉x->∃h t,ay l=h::t/\ay (x++l)=(x++h)::t
 | [],_=>by obtain⟨h,t,e⟩:=N8 l;exact⟨h,t,e,e⟩
 | b::x,hx=>by
  obtain⟨h,t,d,f⟩:=M7 l (x:=x) (λh=>hx UW);have i:b≠32:=λh=>hx UW;obtain⟨j,k,a,g⟩:=Qu (b:=b) (L:=x++l) (by simp[bk,List.isPrefixOf];intro h;exact w_ h.symm i);rw[f]at a;injection a with a e5
  subst a e5;exact⟨h,t,d,g⟩
def Hu{x:I1}(d:(32:UInt8)∉x):ay x=[x]:=by obtain⟨h,t,a,b⟩:=M7 [] d;have:ay []=[[]]:=WS;rw[this]at a;injection a with a e3;rw[Yh]at b;rw[b,<-a,<-e3,Yh]
def E'(y:I1):Prop:=y.take 2=[59,68]
instance(y:I1):Decidable (E' y):=inferInstanceAs (Decidable (_=_))
def Hp(h:E' y):y=59::68::y.drop 2:=by have:=XQ 2 y;rw[h]at this;exact this.symm
def jo2(x y:I1)(r:List (I1)):f_ (x::y::r) [32]=x++32::f_ (y::r) [32]:=by rw[Lib.join_cons,Lib.join_cons];simp[Lib.joinTail]
def RU(x y:I1)(r:List (I1)):f_ ((x++y)::r) [32]=x++f_ (y::r) [32]:=by rw[Lib.join_cons,Lib.join_cons];simp
def LV{x:I1}{r:List (I1)}(e:(32:UInt8)∉x)(f:E' y):ay (f_ (x::y::r) [32])=x::ay (f_ (y.drop 2::r) [32]):=by
 obtain⟨h,t,a,b⟩:=M7 (32::f_ (y::r) [32]) e;rw[jo2,b];have d:f_ (y::r) [32]=59::68::f_ (y.drop 2::r) [32]:=by
  conv=>lhs;rw[Hp f]
  exact RU [59,68] _ _
 rw[d,SH]at a;injection a with a e4;rw[<-a,<-e4,Yh]
def KO{x:I1}{r:List (I1)}(m:(32:UInt8)∉x)(e:¬E' y)(a:(32:UInt8)∉y):∃h t,ay (f_ (y::r) [32])=h::t/\ay (f_ (x::y::r) [32])=(x++32::h)::t:=by
 have l:bk.isPrefixOf (32::f_ (y::r) [32])=Zl:=by
  rw[Lib.join_cons];match y,e,a with
  | [],_,_=>
   cases r with
   | nil=>simp[bk,Lib.joinTail,List.isPrefixOf]
   | cons z r=>simp[bk,Lib.joinTail,List.isPrefixOf]
  | [c],_,a=>
   cases r with
   | nil=>simp[bk,Lib.joinTail,List.isPrefixOf]
   | cons z r=>simp[bk,Lib.joinTail,List.isPrefixOf]
  | c::d::y',e,_=>
   simp[bk,List.isPrefixOf];intro j k;exact e (by simp[E',<-j,<-k])
 obtain⟨h,t,f,g⟩:=Qu l;obtain⟨n,o,b,i⟩:=M7 (32::f_ (y::r) [32]) m;rw[g]at b;injection b with b e5;subst b e5;exact⟨h,t,f,by rw[jo2,i]⟩
theorem RV:∀{x:I1},(32:UInt8)∉x->Lib.index x [32]=-1
 | [],_=>rfl
 | b::x,h=>by
  have a:b≠32:=λe=>h Tf;rw[Lib.index,qF Om,RV (λe=>h Tf)];rfl
theorem RW(u:I1):∀{x:I1},(32:UInt8)∉x->Lib.index (x++32::u) [32]=(x.length:Nat)
 | [],_=>by simp[Lib.index,List.isPrefixOf]
 | b::x,h=>by
  have a:b≠32:=λe=>h Tf;rw[YA,Lib.index,qF Om,RW u (λe=>h Tf)];have:(((x.length:Nat):Int)==-1)=Zl:=Vp
  rw[this];simp
def Rl{x:I1}(h:(32:UInt8)∉x):g_ x [32]=(x,[],Zl):=by rw[g_,RV h];rfl
def Rn{x u:I1}(h:(32:UInt8)∉x):g_ (x++32::u) [32]=(x,u,Zk):=by rw[g_,RW u h,qI O];simp
def e8(t:I1):Option (Nat×Nat):=match df 1 (g_ t [32]).1,kZ 9 (g_ t [32]).2.1 with|some d,S n=>S (d,n)|_,_=>N
def KW{l:I1}{c:UInt8}(a:c∈l)(b:dg c=Zl)(k:Nat):kZ k l=N:=by rw[kZ,qF];rintro⟨_,_,_,h⟩;have:=qW.1 h c a;rw[b]at this;cases this
def Jw{x:I1}(h:(32:UInt8)∉x):e8 x=N:=by rw[e8,Rl h];have:kZ 9 []=N:=WW;show(match df 1 x,kZ 9 []with|some d,S n=>S (d,n)|_,_=>N)=N;rw[this];cases df 1 x<;>rfl
def Jy{x u:I1}(h:(32:UInt8)∉x):e8 (x++32::u)=match df 1 x,kZ 9 u with|some d,S n=>S (d,n)|_,_=>N:=by rw[e8,Rn h]
def pL:List (I1)->Option (List (Nat×Nat))
 | []=>S []
 | p::ps=>match e8 p with|some t=>(pL ps).map (t::·)|none=>N
def G':List (I1)->Option (List (Nat×Nat))
 | []=>S []
 | [_]=>N
 | x::y::r=>if x.length=3/\E' x then(match df 1 (x.drop 2),kZ 9 y with|some d,S n=>(G' r).map ((d,n)::·)|_,_=>N)else N
def MM{a:Nat}{x:I1}(h:df a x=d):x.length=1:=by
 unfold df at h;have:=(X5.1 h).1;unfold kZ at this;split at this
 .rename_i h;omega
 cases this
def Ph:∀(n:Nat)(x:I1) (r:List (I1)),r.length<=n->E' x->(∀y∈x::r,(32:UInt8)∉y)->pL (ay (f_ (x.drop 2::r) [32]))=G' (x::r):=by
 intro n;induction n with
 | zero=>
  intro x r u hD i;have:r=[]:=Yz.1 O;subst this;have b:(32:UInt8)∉x.drop 2:=λh=>i x WU (List.mem_of_mem_drop h);rw[Lib.join_one,Hu b,pL,Jw b];rfl
 | succ n ih=>
  intro x r u hD i;have b:(32:UInt8)∉x.drop 2:=λh=>i x WU (List.mem_of_mem_drop h);cases r with
  | nil=>
   rw[Lib.join_one,Hu b,pL,Jw b];rfl
  | cons y r=>
   have k:(32:UInt8)∉y:=i y WU
   have g:x.length=3↔(x.drop 2).length=1:=by
    have:=Xn List.length (Hp hD);simp only[Yq]at this;omega
   by_cases e:E' y
   .rw[LV b e,pL,Jw b];have:kZ 9 y=N:=KW (c:=59) (by rw[Hp e];simp) WW 9;rw[G',this];show N=_;by_cases j:x.length=3/\E' x
    .rw[qI j];cases df 1 (x.drop 2)<;>rfl
    rw[qF j]
   cases r with
   | nil=>
    obtain⟨h,t,a,l⟩:=KO (r:=[]) b e k;rw[Lib.join_one,Hu k]at a;injection a with a m
    subst a m;rw[l,pL,Jy b,G'];cases o:df 1 (x.drop 2)with
    | none=>simp
    | some d=>
     have:=g.2 (MM o);rw[qI ⟨this,hD⟩];cases kZ 9 y<;>rfl
   | cons z r=>
    have A:(32:UInt8)∉z:=i z WU;obtain⟨h,t,a,l⟩:=KO (r:=z::r) b e k;by_cases f:E' z
    .rw[LV k f]at a;injection a with a m
     subst a m;rw[l,pL,Jy b,G',ih z r (by simp at u;omega) f (λq p=>i q (by simp at p|-;right;right;exact p))];cases o:df 1 (x.drop 2)with
     | none=>simp
     | some d=>
      have:=g.2 (MM o);rw[qI ⟨this,hD⟩];cases kZ 9 y<;>rfl
    obtain⟨B,C,m,v⟩:=KO (r:=r) k f A;rw[v]at a;injection a with a e5
    subst a e5;rw[l,pL,Jy b,KW (c:=32) WU WW 9,G']
    have w:G' (z::r)=N:=by
     cases r with
     | nil=>rfl
     | cons q r=>rw[G',qF (λh=>f h.2)]
    rw[w];by_cases j:x.length=3/\E' x
    .rw[qI j];cases df 1 (x.drop 2)<;>cases kZ 9 y<;>rfl
    rw[qF j];cases df 1 (x.drop 2)<;>rfl
def KF(s a:I1):(g_ s a).1.length<=s.length/\(g_ s a).2.1.length<=s.length:=by
 unfold g_;split
 .exact⟨WX,WU⟩
 simp
def Kf(s:I4)(b:s.size<4294967281)(m:Int)(w:I6)(a:w.cell? ⟨4,0,N⟩=I L m):ZL 228 #[s,Zb ⟨#[32]⟩] w (Ze #[Zb ⟨(g_ s.data.toList [32]).1.toArray⟩,Zb ⟨(g_ s.data.toList [32]).2.1.toArray⟩,(g_ s.data.toList [32]).2.2]):=by refine(Tryz.strings_Cut s ⟨#[32]⟩ m w b a).mono ?_;rintro e w' ⟨rfl,k,rfl⟩;exact⟨R,(q_ w).drewN k⟩
def KJ(q:Option (Nat×Nat))(e:Ending):Prop:=∃a b:Nat,(∀d n,q=S (d,n)->a=d/\b=n)/\e=Zd (Ze #[Zc #[I L a,I Zh b],Za q.isSome])
def JR(t:I4)(T:t.size<4294967281)(m:Int)(w:I6)(a1:w.cell? ⟨4,0,N⟩=S (I L m))(P:4<w.heap.size):i_ c_ 322 #[Zb t] w λe w'=>KJ (e8 t.data.toList) e/\Gr w w':=by
 obtain⟨a0,J⟩:=KF t.data.toList [32];have j:∀W,W.cell? ⟨4,0,N⟩=S (I L m)->ZL 228 #[t,Zb ⟨#[32]⟩] W (Ze #[Zb ⟨(g_ t.data.toList [32]).1.toArray⟩,Zb ⟨(g_ t.data.toList [32]).2.1.toArray⟩,(g_ t.data.toList [32]).2.2]):=λW h=>Kf t T m W h;have p:e8 t.data.toList=match df 1 (g_ t.data.toList [32]).1,kZ 9 (g_ t.data.toList [32]).2.1 with|some d,S n=>S (d,n)|_,_=>N:=rfl;generalize e8 _=q at p|-;generalize g_ _ _=cu at j a0 J p;obtain⟨x,y,ok⟩:=cu;simp only at a0 J j;have p:=p;simp only[ZX,YY]at a0 J;have H:=λW=>Ae ⟨x.toArray⟩ (by show x.toArray.size<=maxLen;rw[Ya];unfold maxLen;omega) 1 O W;have r:=λW=>ey 9 O ⟨y.toArray⟩ (by show y.toArray.size<=maxLen;rw[Ya];unfold maxLen;omega) W;unfold vv at r;have z:(⟨x.toArray⟩:I4).data.toList=x:=R;have D:(⟨y.toArray⟩:I4).data.toList=y:=R;rw[z]at H;rw[D]at r;have A:=BR 9 O y;have b:∀a:Nat,(∀d,df 1 x=S d->a=d)->KJ q (Zd (Ze #[Zc #[I L a,I Zh ((kZ 9 y).getD 0:Nat)],Za ((df 1 x).isSome&&(kZ 9 y).isSome)])):=λa G=>by
  refine⟨a,(kZ 9 y).getD 0,λd n h=>?_,?_⟩
  .rw[p]at h;cases F:df 1 x with
   | none=>rw[F]at h;cases h
   | some d'=>
    cases M:kZ 9 y with
    | none=>rw[F,M]at h;cases h
    | some n'=>
     rw[F,M]at h;injection h with h
     injection h with e1 e2
     exact⟨by rw[G d' F,e1],by rw[<-e2];rfl⟩
  rw[p];cases df 1 x<;>cases kZ 9 y<;>rfl
 clear p;generalize (kZ 9 y).getD 0=v at r A b;generalize (kZ 9 y).isSome=a3 at r b;generalize (df 1 x).isSome=Q at H b;have V:a_ Zh (v:Int)=v:=Vh;have C:(w.alloc (Z #[I L 0,I Zh 0] 335)).cell? ⟨4,0,N⟩=I L m:=by rw[YZ _ _ _ P];exact a1
 have l:Gr w (w.alloc (Z #[I L 0,I Zh 0] 335)):=ZN;have i:(w.alloc (Z #[I L 0,I Zh 0] 335)).heap[w.heap.size]?=Z #[I L 0,I Zh 0] 335:=Zv;have g:=j _ C;clear a1 C j a0 J z D P;go_in;go_upto_region 1 with fail;generalize w.alloc _=a8 at l g i|-;obtain⟨B,a2⟩:∃B,B=w.heap.size:=⟨_,R⟩;have u:w.heap.size<=B:=O;rw[<-a2]at i|-;clear a2;go_upto_region 4 with(first|(go_at_call 228;refine Z0 g λw1 o=>?_)|(go_at_call 280;refine(H _).mono ?_;rintro e w2 ⟨⟨a,G,a7,rfl⟩,rfl⟩)|(go_at_call 217;refine(r _).mono ?_;rintro e E ⟨rfl,rfl⟩));have f:E.heap[B]?=Z #[I L 0,I Zh 0] 335:=ZE o i;have c0:E.cell? ⟨B,0,N⟩=I L 0:=by rw[Zs f];rfl
 have c1:E.cell? ⟨B,1,N⟩=I Zh 0:=by rw[Zs f];rfl
 have a5:E.frozen? ⟨B,0,N⟩=Zl:=HV f;have a6:E.frozen? ⟨B,1,N⟩=Zl:=HV f;have K:=o_ l o;have k:=b a G;have a4:=f;clear o l i f G g H r A b;cases Q<;>cases a3;all_goals
  go_wp2;exact ZS (qj results322 _ _ B 335 _ (0,0) _ R (qv (qv a4)) underlying335 rfl WR) R ⟨k,(K.setCell u _).setCell u _⟩
def ly(s:I4)(e:Ending):Prop:=
 (∃p,xG s=S p/\xP p=Zk/\e=Zd (Ze #[Zc (jV p),Za Zk]))\/((∀p,xG s=S p->xP p=Zl)/\∃A:I0,A.size=72/\A.all (·.oneCell')=Zk/\e=Zd (Ze #[Zc A,Za Zl]))
structure Pq(w:I6)(bp:Nat)(A:I0)(W:I6):Prop where
 res:∃R:I0,R.size=72/\W.heap[w.heap.size]?=S (Z R 70)
 p:W.heap[bp]?=S (Z A 70)
 ne:bp≠w.heap.size
 gr:Gr w W
 tab:jF W
 homes:vJ W
def Pq.next{bp:Nat}(h:Pq w bp A W)(g:Gr W a):Pq w bp A a:=by obtain⟨e,d,b⟩:=h.res;exact⟨⟨e,d,ZE g b⟩,ZE g h.p,h.ne,o_ h.gr g,h.tab.gr g,h.homes.gr g⟩
def Pq.put{bp:Nat}(h:Pq w bp A W)(d:A.size=72)(f:2<w.heap.size):Pq w bp A (W.setRow w.heap.size A):=by obtain⟨i,g,e⟩:=h.res;exact⟨⟨A,d,Zt e⟩,by rw[Zu h.ne];exact h.p,h.ne,h.gr.setRow _ Zy _,⟨λj a=>by rw[cell_setRow_other _ _ _ _ (show _≠w.heap.size by dsimp only;omega)];exact h.tab.1 j a,by rw[Xa];exact h.tab.2⟩,⟨λj v b=>by rw[cell_setRow_other _ _ _ _ (show _≠w.heap.size by dsimp only;omega)];exact h.homes.1 j v b,by rw[Xa];exact h.homes.2⟩⟩
def HX(s:I4)(a5:s.size<4294967281)(m:Int)(w:I6)(T:w.cell? ⟨4,0,N⟩=S (I .i64 m))(f:4<w.heap.size)(L:jF w)(Q:vJ w):i_ c_ 278 #[Zb s] w λe w'=>ly s e/\Gr w w':=by
 have j:Gr w (w.alloc (Z b_ 70)):=ZN;have G:=L.2;have B:=X (L.gr j);have z:=X (Q.gr j);have a4:Y (i_ c_ 62 #[Zb s] (w.alloc (Z b_ 70)) λe w'=>∃A ok,e=Zd (Ze #[Zc A,Za ok])/\A.size=72/\A.all (·.oneCell')=Zk/\(ok=Zk->∃p,xG s=S p/\A=jV p)/\(ok=Zl->xG s=N)/\Gr (w.alloc (Z b_ 70)) w'):=X ((rY s a5 m _ (by rw[YZ _ _ _ f];exact T) Vj).mono λe w' h=>by
  obtain⟨A,ok,a6,h2,h3,h4,h5⟩:=h.1.plain;exact⟨A,ok,a6,h2,h3,h4,h5,h.2⟩)
 have D:Y ((w.alloc (Z b_ 70)).heap[w.heap.size]?=Z b_ 70):=X Zv;have v:Y (w<(w.alloc (Z b_ 70)).heap.size):=X Vj;have r:=X j;clear j L Q T f a5;go_in;go_upto_region 2 with(first|(go_at_call 62;apply a4.mono;rintro e n ⟨A,ok,rfl,f,H,a3,M,u⟩)|(refine ZC n A Zv f H ?_));generalize l:(n.alloc (Z b_ 70)).setRow n A=P;have E:Gr n P:=by rw[<-l];exact ZN.setRow _ Zy _
 have b:=o_ u E;have y:Pp w n A P:=⟨by rw[Zz b v.a];exact D.a,by rw[<-l];exact Zt (Z7 n _),by rw[<-l,Xa,Z3];omega,qN v (ZR b),o_ r b,B.gr b,z.gr b⟩;have J:Pq w n A P:=⟨⟨_,xF,y.res⟩,y.p,(by have:=ZR u;rw[Z3]at this;omega),y.gr,y.tab,y.homes⟩;generalize n.heap.size=bp at J|-;clear y;clear l E b u a4 D v r B z;have i:(c_.info? 70).map (·.size)=S A.toList.length:=by rw[ZX,f];exact jJ
 refine ZT (S:=Pq w bp A) WR (J.next ZO.drew) (λd=>?_);apply ty 0 A R (wY i Vb _ R bp R (λ_ h=>h.p)) d;cases ok
 .have g:Y (ly s (Zd (Ze #[A,Zl]))):=Zj ⟨λp h=>(by rw[M R]at h;cases h),A,f,H,R⟩;clear M a3;apply tq 1 Zl d;apply tq 2 Zl d;apply ZA 3 d;apply ZA 4 d;apply tq 5 Zl d;refine rd 6 λK hK=>?_;rw[qI Vb];obtain⟨a2,a1,a0⟩:=d.res;apply YQ 70 _ _ R w A R R 70 a2 a0 T8 (by rw[f,a1]) H;refine hK.out _ _ (d.put f G) λa=>?_;clear hK K;try simp only[py]
  apply tq 7 Zl a;exact OX
 .obtain⟨p,k,x⟩:=a3 R;have o:Y (∀W:I6,jF W->vJ W->ZL 63 #[A] W (xP p)):=λW t h=>by rw[x];exact CX (jo k) W t h
  have g:Y (ly s (Zd (Ze #[Zc A,Za (xP p)]))):=X (by
   cases V:xP p with
   | true=>exact Zi ⟨p,k,V,by rw[x]⟩
   | false=>exact Zj ⟨λp' h=>by rw[k]at h;rw[<-qP h];exact V,A,f,H,R⟩)
  clear a3 M k x;generalize xP p=q at o g;apply tq 1 Zk d;apply tq 2 Zk d;apply ty 3 A R (wY i Vb _ R bp R (λ_ h=>h.p)) d;refine rd 4 λK hK=>?_;go_simp;refine Z0 (o _ d.tab d.homes) λwc F=>?_;refine hK.out _ _ (d.next F) λd=>?_;clear hK K F;try simp only[py]
  apply tq 5 q d;refine rd 6 λK hK=>?_;rw[qI Vb];obtain⟨a2,a1,a0⟩:=d.res;apply YQ 70 _ _ R w A R R 70 a2 a0 T8 (by rw[f,a1]) H;refine hK.out _ _ (d.put f G) λa=>?_;clear hK K;try simp only[py]
  apply tq 7 q a;exact OX
theorem KP:∀(ws:List (I1)),ws≠[]->(∀y∈ws,(32:UInt8)∉y)->∃a t,a≠[]/\ay (f_ ws [32])=f_ a [32]::t/\(∀y∈a.tail,¬E' y)/\((t=[]/\a=ws)\/∃x r,ws=a++x::r/\E' x/\t=ay (f_ (x.drop 2::r) [32]))
 | [],h,_=>w_ R h
 | [x],_,hw=>⟨[x],[],WU,by rw[Lib.join_one,Hu (hw x WU)],WU,Zi ⟨R,R⟩⟩
 | x::y::r,_,hw=>by
  have l:=hw x WU;by_cases d:E' y
  .exact⟨[x],_,WU,by rw[LV l d,Lib.join_one],WU,Zj ⟨y,r,R,d,R⟩⟩
  obtain⟨a,t,o,p,u,k⟩:=KP (y::r) WU (λq i=>hw q (Xg _ i));obtain⟨h,v,b,n⟩:=KO (r:=r) l d (hw y WU);rw[p]at b;injection b with b e3
  subst b e3;obtain⟨q,a,rfl⟩:=XI o
  have i:q=y:=by
   obtain⟨_,e⟩|⟨z,m,e,_⟩:=k
   .injection e
   injection e with e _;exact e.symm
  refine⟨x::q::a,t,WU,by rw[n,jo2],λz j=>?_,?_⟩
  .obtain rfl|j:=Yj.1 j
   .rw[i];exact d
   exact u z j
  obtain⟨e,f⟩|⟨z,m,e,f,g⟩:=k
  .exact Zi ⟨e,by rw[f]⟩
  exact Zj ⟨z,m,Tg,f,g⟩
def I':I1:=[32,48,32,49]
def U_{α:Type}(f:List UInt8->Option α)(s:I1):Option (α×List (Nat×Nat)):=match ay s with
 | h::t=>(match f (h++I')with|some a=>(pL t).map (a,·)|none=>N)
 | []=>N
def Pz{α:Type}(f:List UInt8->Option α):List (I1)->Option (α×List (Nat×Nat))
 | a::b::c::d::r=>(match f (f_ [a,b,c,d] [32]++I')with|some x=>(G' r).map (x,·)|none=>N)
 | _=>N
def Q6{e:I1}{r:List (I1)}(h:¬E' e):G' (e::r)=N:=by
 cases r with
 | nil=>rfl
 | cons q r=>rw[G',qF (λk=>h k.2)]
theorem ND{α:Type}(f:List UInt8->Option α)(u:∀g:List (I1),g≠[]->(∀y∈g,(32:UInt8)∉y)->g.length≠4->f (f_ g [32]++I')=N)(v:∀a b c d:I1,(∀y∈[a,b,c,d],(32:UInt8)∉y)->E' b\/E' c\/E' d->f (f_ [a,b,c,d] [32]++I')=N)(ws:List (I1)) (o:ws≠[]) (k:∀y∈ws,(32:UInt8)∉y):U_ f (f_ ws [32])=Pz f ws:=by
 obtain⟨g,t,z,A,p,j⟩:=KP ws o k;have n:∀y∈g,(32:UInt8)∉y:=λy i=>by
  obtain⟨_,rfl⟩|⟨x,r,rfl,_⟩:=j
  .exact k y i
  exact k y (List.mem_append_left _ i)
 rw[U_,A];show(match f (f_ g [32]++I')with|some a=>(pL t).map (a,·)|none=>N)=_;by_cases w:g.length=4
 .match g,w with
  | [a,b,c,d],_=>
   obtain⟨rfl,rfl⟩|⟨x,r,rfl,hD,rfl⟩:=j
   .rfl
   show _=(match f (f_ [a,b,c,d] [32]++I')with|some y=>(G' (x::r)).map (y,·)|none=>N);rw[Ph r.length x r Zy hD (λy i=>k y (by simp at i|-;right;right;right;right;exact i))]
 rw[u g z n w];show N=_;match ws,o,k,j with
 | [],o,_,_=>exact w_ R o
 | [a],_,_,_=>rfl
 | [a,b],_,_,_=>rfl
 | [a,b,c],_,_,_=>rfl
 | a::b::c::d::r,_,k,j=>
  have m:(E' b\/E' c\/E' d)\/∃e l,r=e::l/\¬E' e:=by
   match g,z,w,p,j with
   | [],h,_,_,_=>exact w_ R h
   | [_],_,_,_,Zj ⟨x,l,e,hD,_⟩=>injection e with _ e;injection e with e _;left;left;rw[e];exact hD
   | [_,_],_,_,_,Zj ⟨x,l,e,hD,_⟩=>injection e with _ e;injection e with _ e;injection e with e _;left;right;left;rw[e];exact hD
   | [_,_,_],_,_,_,Zj ⟨x,l,e,hD,_⟩=>injection e with _ e;injection e with _ e;injection e with _ e;injection e with e _;left;right;right;rw[e];exact hD
   | [_,_,_,_],_,h,_,_=>exact w_ R h
   | _::_::_::_::e::g,_,_,p,j=>
    right;obtain⟨_,q⟩|⟨x,l,q,_⟩:=j
    .injection q with _ q;injection q with _ q;injection q with _ q;injection q with _ q
     exact⟨e,g,q.symm,p e WU⟩
    injection q with _ q;injection q with _ q;injection q with _ q;injection q with _ q
    exact⟨e,_,q,p e WU⟩
   | [_],_,_,_,Zi ⟨_,q⟩=>injection q with _ q;cases q
   | [_,_],_,_,_,Zi ⟨_,q⟩=>injection q with _ q;injection q with _ q;cases q
   | [_,_,_],_,_,_,Zi ⟨_,q⟩=>injection q with _ q;injection q with _ q;injection q with _ q;cases q
  show N=(match f (f_ [a,b,c,d] [32]++I')with|some y=>(G' r).map (y,·)|none=>N);obtain B|⟨e,l,rfl,C⟩:=m
  .rw[v a b c d (λy i=>k y (by simp at i|-;rcases i with h|h|h|h<;>simp[h])) B]
  rw[Q6 C];cases f (f_ [a,b,c,d] [32]++I')<;>rfl
def PM(l:List (I1)):l.map ((λx:I4=>x.data.toList) ∘ λl:I1=>(⟨l.toArray⟩:I4))=l:=by have:((λx:I4=>x.data.toList) ∘ λl:I1=>(⟨l.toArray⟩:I4))=id:=R;rw[this,List.map_id]
theorem Kt(a:List (I1))(f:a≠[])(g:∀y∈a,(32:UInt8)∉y)(j:a.length≠4):xG ⟨(f_ a [32]++I').toArray⟩=N:=by
 have e:f_ a [32]++I'=f_ (a++[[48],[49]]) [32]:=by obtain⟨x,r,rfl⟩:=XI f;rw[YA,Lib.join_cons,Lib.join_cons];simp[Lib.joinTail,I']
 have d:=(qvk 32 7 O ⟨(f_ a [32]++I').toArray⟩ ((a++[[48],[49]]).map λl:I1=>(⟨l.toArray⟩:I4)) (λx i=>by
  obtain⟨y,b,rfl⟩:=YL.1 i;obtain b|b:=Yi.1 b
  .exact g y b
  obtain rfl|b:=Yj.1 b
  .decide
  rw[qT.1 b];decide) WU (by rw[List.map_map,PM];exact e.symm) 6 O).2 WX
 unfold xG;split
 .rename_i h;rw[h]at d;exact w_ R d
 rfl
def Jr(l:I1):(⟨l.toArray⟩:I4).data.toList=l:=R
def LM(l:I1):(⟨l.toArray⟩:I4).toList=l:=by rw[Xl]
def Qw(h:E' y):kO ⟨y.toArray⟩=N:=by rw[kO,LM,Hp h,qF WU,qF WU]
def Ru(h:E' y):vS y=N:=by
 rw[Hp h];generalize y.drop 2=r;rw[vS,qF WU];have tp:∀c:UInt8,c≠59->Lib.trimPrefix (59::68::r) [c]=59::68::r:=λc b=>by simp[Lib.trimPrefix,Lib.hasPrefix,List.isPrefixOf,b]
 have a:jN (59::68::r) 4=59::68::r:=by simp only[jN];rw[tp (vn 0) WW,tp (vn 1) WW,tp (vn 2) WW,tp (vn 3) WW]
 rw[a];simp
def Sm(h:E' y):v8 ⟨y.toArray⟩=N:=by
 rw[v8,LM,Hp h,qF WU];generalize y.drop 2=r;unfold uX;split
 .rename_i b;rw[qF]
  .rfl
  rintro⟨a,_⟩;have:((⟨(59::68::r).toArray⟩:I4)[0]' O)=59:=R;rw[this]at a;exact w_ a WW
 rfl
theorem Q3(a b c d:I1)(j:∀y∈[a,b,c,d],(32:UInt8)∉y)(g:E' b\/E' c\/E' d):xG ⟨(f_ [a,b,c,d] [32]++I').toArray⟩=N:=by
 have e:f_ [a,b,c,d] [32]++I'=f_ ([a,b,c,d]++[[48],[49]]) [32]:=by rw[YA,Lib.join_cons,Lib.join_cons];simp[Lib.joinTail,I']
 have i:=(qvk 32 7 O ⟨(f_ [a,b,c,d] [32]++I').toArray⟩ (([a,b,c,d]++[[48],[49]]).map λl:I1=>(⟨l.toArray⟩:I4)) (λx k=>by
  obtain⟨y,f,rfl⟩:=YL.1 k;obtain f|f:=Yi.1 f
  .exact j y f
  obtain rfl|f:=Yj.1 f
  .decide
  rw[qT.1 f];decide) WU (by rw[List.map_map,PM];exact e.symm) 6 O).1 WU
 rw[xG,i];show Ac ⟨a.toArray⟩ ⟨b.toArray⟩ ⟨c.toArray⟩ ⟨d.toArray⟩ _ _=N;unfold Ac;obtain h|h|h:=g
 .rw[Qw h];cases j7 ⟨a.toArray⟩<;>rfl
 .rw[Jr,Ru h];cases j7 ⟨a.toArray⟩<;>cases kO ⟨b.toArray⟩<;>rfl
 rw[Sm h];cases j7 ⟨a.toArray⟩<;>cases kO ⟨b.toArray⟩<;>cases vS (⟨c.toArray⟩:I4).data.toList<;>rfl
def W_(lo:Nat)(l:I1):Int:=match df lo l with|some d=>(d:Int)|none=>-1
def TV(a:Nat)(l:I1):W_ a l=if JW 1 3 l<(a:Int)then -1 else JW 1 3 l:=by
 unfold W_ df JW;cases kZ 1 l with
 | none=>simp[Option.filter]
 | some d=>
  by_cases b:a<=d<;>by_cases e:d<=3<;>simp[Option.filter,b,e]<;>omega
def pn(s:I4)(d:s.size<=maxLen)(b:Nat)(w:I6):i_ c_ 162 #[s,b] w λe w'=>e=Zd (W_ b s.data.toList)/\w'=w:=by
 have a:=ry 1 3 O s d w;rw[TV];generalize JW _ _ _=v at a;go_in;by_cases h:v<(b:Int)
 .rw[qI h];go_wp2_with(go_at_call 199;apply a.mono;rintro e w' ⟨rfl,rfl⟩);exact WB
 rw[qF h];go_wp2_with(go_at_call 199;apply Z1 a);exact WB
theorem H8:∀(l:I1),Lib.index l [32]=e_ l 32
 | []=>rfl
 | b::l=>by
  unfold Lib.index e_;rw[H8 l];by_cases h:b=32
  .simp[h,List.isPrefixOf]
  have a:(b==32)=Zl:=by rw[qM];exact h
  rw[a,qF (by simp[List.isPrefixOf];exact λe=>h e.symm)];rfl
def Nv(s:I4)(q:s.size<4294967281)(w:I6):ZL 72 #[s] w (Ze #[Zb ⟨(g_ s.data.toList [32]).1.toArray⟩,Zb ⟨(g_ s.data.toList [32]).2.1.toArray⟩,(g_ s.data.toList [32]).2.2]):=by
 have g:=xa s Vk 32 w;have f:s.data.toList.length=s.size:=WU;rw[g_,H8];obtain d|d:=Int.lt_or_le (e_ s.data.toList 32) 0
 .rw[qF O];generalize e_ _ _=v at g d;have b:(⟨s.data.toList.toArray⟩:I4)=s:=R;show i_ _ _ _ _ λe w'=>e=Ze #[Zb ⟨s.data.toList.toArray⟩,Zb ⟨#[]⟩,Zl]/\Gr w w';rw[b];go_enter func72,ntmps72;go_wp2_with(go_at_call 111;apply g.mono;rintro e w' ⟨rfl,rfl⟩);apply ZS (results_tmp3 R _ _ _) R;exact⟨R,ZO⟩
 rw[qI d];obtain⟨i,h⟩:=Yt d;have a:=Lib.index_room s.data.toList [32] (by rw[H8];exact d);rw[H8,h,f]at a;rw[h]at g|-;have m:i+1<=s.size:=by have p:(i:Int)+1<=s.size:=VS;omega
 have o:a_ L ((i:Int)+1)=((i+1:Nat):Int):=Vc;have l:¬(i:Int)<0:=O;have j:(⟨(s.data.toList.take i).toArray⟩:I4)=s.extract 0 i:=eu (by rw[Lib.extract_from_zero]);have k:(⟨(s.data.toList.drop (i+1)).toArray⟩:I4)=s.extract (i+1) s.size:=eu (by rw[Lib.extract_to_end]);show i_ _ _ _ _ λe w'=>e=Ze #[Zb ⟨(s.data.toList.take i).toArray⟩,Zb ⟨(s.data.toList.drop (i+1)).toArray⟩,Zk]/\Gr w w';rw[j,k];have n:∀W,(Instr.slice 9 s N (S i) N).run c_ W=.ok (s.extract 0 i) W:=λW=>run_slice_string_h W 9 s underlying9 L (i:Int) O O;generalize s.extract 0 i=r at n;go_enter func72,ntmps72;go_upto_region 4 with(go_at_call 111;apply Z1 g);go_quiet(fail);go_wp2_with fail;go_ret3;exact⟨R,ZO.drewN _⟩
structure y_ where
 z:I2
 wh:Bool
 fc:I5
 b:Int
 h:Int
 g:Int
def y_.ok(s:y_):Prop:=Ok s.z s.wh s.fc s.b s.h s.g
def y_.row(s:y_)(PA:I0):Prop:=jE s.z s.wh s.fc s.b s.h s.g PA
def y_.mov(s:y_):List Mv:=xC s.z s.wh s.fc s.b
def y_.aft(s:y_)(x:Mv):y_:=⟨zE s.z s.b x,!s.wh,kB s.fc x.1 x.2.1 4,vK s.z x.1 x.2.1,kK s.z x.1 x.2.1 s.h,kj s.wh s.g⟩
def y_.text(s:y_):I1:=oI s.z s.wh s.fc s.b s.h s.g
def y_.of(p:pH):y_:=⟨xM p,p.white,yC p.castle,p.behind,p.half,p.full⟩
def y_.paths(s:y_)(d:Nat):Nat:=z_ d s.z s.wh s.fc s.b
def y_.ok_of{x:I4}{p:pH}(b:xG x=p)(a:xP p=Zk):(y_.of p).ok:=Ok.of b a
def y_.row_of{x:I4}{p:pH}(a:xG x=p):(y_.of p).row (jV p):=F5 (jo a)
theorem y_.ok_aft{s:y_}(o:s.ok){x:Mv}(a:x∈s.mov):(s.aft x).ok:=Ok.next o a
def y_.short{s:y_}(o:s.ok):(xJ s.text).size<4294967281:=tN o.can
def fV{s:y_}(o:s.ok):∃p,xG (xJ s.text)=S p/\xP p=Zk/\y_.of p=s:=by
 obtain⟨z,wh,fc,b,h,g⟩:=s;have l:z=zB ((h_ 64).map z):=Qn o.nz;have e:((h_ 64).map z).length=64:=WU;have k:k6 (zB ((h_ 64).map z)) wh fc b h g=Zk:=by rw[<-l];exact o.can
 obtain⟨p,q,u,v,w,x,y⟩:=JQ e k;have d:jE (zB ((h_ 64).map z)) wh fc b h g (kU ((h_ 64).map λn=>I Zg ((z n).toNat:Int)).toArray wh (fc 0) (fc 1) (fc 2) (fc 3) b h g):=by rw[<-l];exact qkb z ((h_ 64).map λn=>I Zg ((z n).toNat:Int)).toArray WU (λi B=>by simp[B]) wh fc b h g
 have a:=A2 e d k (Zi ⟨p,q,u,R⟩);injection a with a;injection a with a;have a:=Xn Array.toList a;injection a with a _;injection a with a;have r:=jo q;rw[a]at r;have f:=(r.h).symm.trans d.h;have j:=(r.g).symm.trans d.g;injection f with f;injection f with _ f;injection j with j;injection j with _ j;refine⟨p,by show xG ⟨(oI z wh fc b h g).toArray⟩=_;rw[l];exact q,u,?_⟩;have A:yC p.castle=fc:=by
  funext n;by_cases m:n<4
  .rw[fU _ m,x n m]
  have:=o.nf n O;show(Zm (n<4)&&_)=_;rw[qE m];exact this.symm
 rw[y_.of,v,w,y,A,f,j,<-l]
def kt(n:Nat):I4:=xJ (d_ n)
def KY(s:y_):I4:=if s.mov=[]then xJ [110,111,110,101]else xJ (f_ ((jI s.mov).map yJ) [32])
def rx(n:Int):I1:=if n=0 then[111,112,101,110]else if n=1 then[109,97,116,101]else if n=2 then[115,116,97,108,101,109,97,116,101]else[100,101,97,100]
def HD(s:y_):I4:=xJ (rx (yO s.z (kz s.z s.wh) (s.mov.length:Int))++if kz s.z s.wh=Zk then[32,99,104,101,99,107]else[])
def ex(s:y_):I4:=xJ ([111,107,32]++s.text)
def fk(s:y_):List (Nat×Nat)->I4
 | []=>xJ [112,97,115,115]
 | (d,n)::l=>if s.paths d=n then fk s l else xJ ([102,97,105,108,32,68]++d_ d++[32]++d_ (s.paths d))
def Hq(d:Nat)(s:y_):I3:=(HQ d s.z s.wh s.fc s.b (jI s.mov)).map (λc=>c.1++xJ [32]++kt c.2)++[xJ ([115,117,109,32]++d_ (s.paths (d+1)))]
def E_(l:I1):Option pH:=match xG ⟨l.toArray⟩with|some p=>if xP p=Zk then S p else N|none=>N
def H3{l:I1}{p:pH}(h:E_ l=p):xG ⟨l.toArray⟩=p/\xP p=Zk:=by grind[E_]
def La{l:I1}{p:pH}(h:E_ l=p){e:Ending}(d:ly ⟨l.toArray⟩ e):e=Ze #[jV p,Zk]:=by
 obtain⟨a,b⟩:=H3 h;obtain⟨q,c,_,rfl⟩|⟨c,_⟩:=d
 .rw[a]at c;rw[qP c]
 rw[c p a]at b;cases b
def NB{l:I1}(h:E_ l=N){e:Ending}(f:ly ⟨l.toArray⟩ e):∃A:I0,A.size=72/\A.all (·.oneCell')=Zk/\e=Ze #[A,Zl]:=by
 obtain⟨q,a,b,rfl⟩|⟨_,d⟩:=f
 .unfold E_ at h;rw[a]at h;have d:(if xP q=Zk then S q else N)=N:=h;rw[qI b]at d;cases d
 exact d
def Li{α:Type}(f:List UInt8->Option α){s h:I1}{t:List (I1)}(e:ay s=h::t)(b:f (h++I')=N):U_ f s=N:=by exact Is
def JP{α:Type}(f:List UInt8->Option α){s h:I1}{t:List (I1)}{a:α}(e:ay s=h::t)(b:f (h++I')=a):U_ f s=(pL t).map λq=>(a,q):=by exact Is
def eK(PA:I0)(v:I7):I0:=PA++#[v]
def S7(c:Nat×Nat):List I7:=[I L (c.1:Int),I Zh (c.2:Int)]
def Hy(l:List (Nat×Nat)):List I7:=l.flatMap S7
def Hm(base:Nat)(v:I7)(l:List (Nat×Nat))(w:I6):Prop:=w.ownsRow base 335 2 v l.length (Hy l)
def Ma(base:Nat)(r:Option (pH×List (Nat×Nat)))(e:Ending)(w':I6):Prop:=match r with
 | some (p,tl)=>∃v,e=Zd (Ze #[Zc (eK (jV p) v),Za Zk])/\Hm base v tl w'
 | none=>∃A:I0,A.size=73/\A.all (·.oneCell')=Zk/\e=Zd (Ze #[Zc A,Za Zl])
theorem LX(a:I4):∀(k:Nat)(s:I4),∀x∈Lib.splitB a 0 k s,x.size<=s.size
 | 0,s,x,h=>by rw[Lib.splitB_zero,qT]at h;rw[h];exact Zy
 | k+1,s,x,h=>by
  rw[Lib.splitB]at h;split at h
  .rw[qT]at h;rw[h];exact Zy
  obtain rfl|h:=Yj.1 h
  .rw[Wu];omega
  have:=LX a k _ x h;rw[Wu]at this;omega
theorem Hi:∀{a:List (I1)} {l:List (Nat×Nat)} {p:I1} {t:Nat×Nat},pL a=l->e8 p=t->pL (a++[p])=S (l++[t])
 | [],l,p,t,h,h2=>by
  have:=qP (show S []=S l from h);rw[<-this];show pL [p]=_;rw[pL,h2];rfl
 | q::a,l,p,t,h,h2=>by
  rw[YA,pL];rw[pL]at h;cases d:e8 q with
  | none=>rw[d]at h;cases h
  | some c=>
   rw[d]at h;cases b:pL a with
   | none=>rw[b]at h;cases h
   | some l'=>
    rw[b]at h;have:=qP (show S (c::l')=S l from h);show Option.map _ _=_;rw[Hi b h2,<-this];rfl
theorem Hj:∀{a:List (I1)} {p:I1},p∈a->e8 p=N->pL a=N
 | [],_,h,_=>by cases h
 | q::a,p,h,h2=>by
  rw[pL];obtain rfl|h:=Yj.1 h
  .rw[h2]
  rw[Hj h h2];cases e8 q<;>rfl
def Hg:(c_.info? 331).map (·.size)=S 73:=WR
def RX:(c_.info? 335).map (λi=>(i.zero,i.size,i.bytes))=S (S (Zc #[I L 0,I Zh 0]),2,16):=WR
def HR:c_.built 331 []=eK b_ (Zq N 0 0):=WR
def br(h:PA.all (·.oneCell')=Zk){a:Option Addr}{b c:Nat}:(eK PA (Zq a b c)).all (·.oneCell')=Zk:=by rw[eK,Wo,h];simp[Value.oneCell']
def Mi:(Z zeroCells331 331)=Z (eK b_ (Zq N 0 0)) 331:=Vb
def Ry(a:List (Nat×I7)):c_.built 331 a=Instr.fill (λi=>(#[(0,72),(72,1)]:Array (Nat×Nat))[i]?) zeroCells331 a:=WR
def Mm:zeroCells331.size=73:=WR
def Pc:zeroCells331[72]?=Zq N 0 0:=WR
def MR(a:I0)(d:a.size=72):c_.built 331 [(0,a)]=eK a (Zq N 0 0):=by
 rw[Ry];have f:=zo 0 a zeroCells331;have z:=Mm;rw[xv _ _ 0 0 72 _ _ R (by simpa[Value.cells]using d) O];simp only[Instr.fill,Value.cells,Xh];apply YV;intro i;rw[f.2 i O];rw[eK,Y7,d];by_cases b:i<72
 .rw[qI ⟨O,O⟩,qI b];simp
 rw[qF O,qF b];by_cases e:i=72
 .rw[e,Pc];rfl
 rw[Z6 O,Z6 WX]
def J2(a:PA.size=72)(v:I7):(eK PA v)[72]?=v:=by rw[eK,Y7,a,qF O];rfl
def NG(a:PA.size=72)(v v':I7):(eK PA v).setIfInBounds 72 v'=eK PA v':=by rw[eK,Array.setIfInBounds_append_right O,a];rfl
def vl(a:PA.size=72)(v:I7):(eK PA v).size=73:=by unfold eK;simp[a]
def K7(w:I6)(a b:Nat):∀j d,[I L (a:Int),I Zh b][j]?=S d->(w.alloc (Z #[a,I Zh b] 335)).cell? ((⟨w,0,N⟩:Addr).add j)=S d:=λj d e=>by
 rw[X2,Z2,Z8 _ _ _ _ R,<-qO];exact e
def N5{l:List (Nat×Nat)}(h:Hm base v l W):∃a b c,v=Zq a b c:=by
 obtain⟨rfl,_⟩|⟨d,cap,cur,rfl,_⟩:=h.2
 .exact⟨_,_,_,R⟩
 exact⟨_,_,_,R⟩
def N6{l:List (Nat×Nat)}{q:Nat}{c:I0}{t:TypeId}{fr:Nat×Nat}(h:Hm base v l W)(a:W.heap[q]?=Z c t fr)(f:335≠t):S q≠v.ownBlock:=λd=>by
 obtain⟨rfl,_⟩|⟨e,cap,cur,rfl,_,b,_⟩:=h.2
 .simp[Value.ownBlock]at d
 obtain rfl:q=e:=by simpa[Value.ownBlock]using d
 rw[b]at a;injection a with a
 injection a with _ a _
 exact f a
def Pi{l:List (Nat×Nat)}(h:Hm base v l W):∀q,v.ownBlock=S q->base<=q:=by exact O9
def KL{l:List (Nat×Nat)}{d:I6}{c:I0}{t:TypeId}(h:Hm base v l W)(i:W.heap[B]?=Z c t)(k:335≠t)(f:∀q o,q≠B->W.heap[q]?=S o->d.heap[q]?=S o):Hm base v l d:=by
 refine⟨h.1,?_⟩;obtain g|⟨q,cap,cur,m,j,a,b⟩:=h.2
 .exact Zi g
 exact Zj ⟨q,cap,cur,m,j,f _ _ (λe=>by rw[e,i]at a;injection a with a;injection a with _ a _;exact k a.symm) a,b⟩
structure Rw(B0 B1 B7 base:Nat)(PB:I0)(ps:I3)(v:I7)(l:List (Nat×Nat))(w W:I6):Prop where
 r0:W.heap[B0]?=S (Z (eK b_ (Zq N 0 0)) 331)
 r1:W.heap[B1]?=S (Z (ps.map Zb).toArray 9)
 r7:W.heap[B7]?=S (Z (eK PB v) 331)
 own:Hm base v l W
 gr:Gr w W
def Hm.gr{l:List (Nat×Nat)}{b:I6}(h:Hm base v l W)(k:Gr W b):Hm base v l b:=by
 refine⟨h.1,?_⟩;obtain e|⟨q,cap,cur,g,f,d,a⟩:=h.2
 .exact Zi e
 exact Zj ⟨q,cap,cur,g,f,ZE k d,a⟩
def Rw.next{B0 a b:Nat}{d:I0}{f:I3}{l:List (Nat×Nat)}{e:I6}(h:Rw B0 a b base d f v l w W)(k:Gr W e):Rw B0 a b base d f v l w e:=⟨ZE k h.r0,ZE k h.r1,ZE k h.r7,Hm.gr h.own k,o_ h.gr k⟩
def HW(t:I4)(hs:t.size<=2000000000)(m:Int)(w:I6)(hm:w.cell? ⟨4,0,N⟩=S (I L m))(a4:4<w.heap.size)(hT:jF w)(hH:vJ w):i_ c_ 285 #[Zb t] w λe w'=>Ma w.heap.size (U_ E_ t.data.toList) e w'/\Gr w w':=by
 have J:=Lib.splitB_all ⟨#[32,59,68]⟩ WW 0 _ t R;have d3:=Lib.countB_le ⟨#[32,59,68]⟩ WW t.size t Zy;have b3:=LX ⟨#[32,59,68]⟩ (Lib.countB t ⟨#[32,59,68]⟩) t;have j:(Lib.splitB ⟨#[32,59,68]⟩ 0 (Lib.countB t ⟨#[32,59,68]⟩) t).map (·.data.toList)=ay t.data.toList:=Lib.splitB_data ⟨#[32,59,68]⟩ 0 _ t;have a7:Y (∀W,W.cell? ⟨4,0,N⟩=S (I L m)->i_ c_ 321 #[Zb t,Zb ⟨#[32,59,68]⟩] W λe w'=>e=Zd (Zq (S W.heap.size) (Lib.countB t ⟨#[32,59,68]⟩+1) (Lib.countB t ⟨#[32,59,68]⟩+1))/\w'=W.alloc (Z ((Lib.splitB ⟨#[32,59,68]⟩ 0 (Lib.countB t ⟨#[32,59,68]⟩) t).map Zb).toArray 9)):=λW h=>Tryz.strings_Split t ⟨#[32,59,68]⟩ m W O h WW;generalize Lib.splitB _ _ _ _=ps at J b3 j a7;generalize Lib.countB _ _=k8 at J d3 a7;obtain⟨C,r,rfl⟩:∃C r,ps=C::r:=by
  cases ps with
  | nil=>simp at J
  | cons a b=>exact⟨a,b,R⟩
 rw[YM]at j;have f7:k8=r.length:=by simp at J;omega
 subst f7;have h3:=b3 C WU;have f0:(w.alloc (Z zeroCells331 331)).cell? ⟨4,0,N⟩=I L m:=by rw[YZ _ _ _ a4];exact hm
 have B:=X (a7 _ f0);rw[YM]at B;have h6:Gr w ((w.alloc (Z zeroCells331 331)).alloc (Z (Zb C::r.map Zb).toArray 9)):=ZN.al;obtain⟨G,x1⟩:=s6 w (Z zeroCells331 331) (Z (Zb C::r.map Zb).toArray 9);have G:=G.trans (Xn S Mi);have f4:(w.alloc (Z zeroCells331 331)).heap.size=w.heap.size+1:=WU;rw[f4]at B;have P:Y (C++⟨#[32,48,32,49]⟩=(⟨(C.data.toList++I').toArray⟩:I4)):=eu (by simp[I']);have b5:Y (∀W,Gr w W->i_ c_ 278 #[Zb ⟨(C.data.toList++I').toArray⟩] W λe w'=>ly ⟨(C.data.toList++I').toArray⟩ e/\Gr W w'):=λW g=>HX _ (by show(C.data.toList++I').toArray.size<_;simp[I'];omega) m W ((ZW g a4).trans hm) (qN a4 (ZR g)) (hT.gr g) (hH.gr g);cases h7:E_ (C.data.toList++I')with
 | none=>
  have z:Y (∀W,Gr w W->i_ c_ 278 #[Zb (C++⟨#[32,48,32,49]⟩)] W λe w'=>(∃A:I0,A.size=72/\A.all (·.oneCell')=Zk/\e=Zd (Ze #[Zc A,Za Zl]))/\Gr W w'):=X λW g=>by
   rw[P.a];exact(b5 W g).mono λe w' k=>⟨NB h7 k.1,k.2⟩
  rw[Li E_ j.symm h7];go_in;go_upto_region 2 with(go_at_call 321;apply B.mono;rintro e w' ⟨rfl,b0⟩;rw[b0]);generalize (w.alloc (Z zeroCells331 331)).alloc (Z (Zb C::r.map Zb).toArray 9)=w1 at h6 G x1|-;have c0:w1.cell? ⟨w+1,0,N⟩=Zb C:=by rw[Zs x1];rfl
  have K:=X (z _ h6);have g5:(0:Int)<((r.length+1:Nat):Int):=O
  clear z B a7
  go_upto_region 3 with(first|(go_at_call 278;apply K.mono;rintro e D ⟨⟨A,hz,ho,rfl⟩,V⟩)|(refine ZC D A Zv hz ho ?_));have x2:=ZE V G;have h8:Gr D ((D.alloc (Z b_ 70)).setRow D A):=ZN.setRow _ Zy _;have x3:=ZE h8 x2;have k0:=X (o_ h6 (o_ V h8));generalize (D.alloc (Z b_ 70)).setRow D A=T at h8 x3 k0|-
  go_wp2_with(first|(refine qqq R 331 #[] R (eK b_ (Zq N 0 0)) ?_ ?_;focus (first|(go_simp;exact HR)|(simp;exact HR)))|(refine ZU R 331 _ _ R w (eK b_ (Zq N 0 0)) R R 331 _ x3 U9 R (br xH) ?_));exact ZS (qj results285 _ _ w 331 _ (0,0) _ R (Zt x3) underlying331 rfl U9) R ⟨⟨_,vl xF _,br xH,R⟩,k0.setRow _ Zy _⟩
 | some p=>
  obtain⟨f3,d2⟩:=H3 h7;have a6:=jo f3
  have z:Y (∀W,Gr w W->ZL 278 #[Zb (C++⟨#[32,48,32,49]⟩)] W (Ze #[Zc (jV p),Za Zk])):=X λW g=>by
   rw[P.a];exact(b5 W g).mono λe w' k=>⟨La h7 k.1,k.2⟩
  have hz:=jE.size a6;have ho:=qx a6;have f5:Y (∀(k:Nat)(hk:k<r.length),∀W,Gr w W->i_ c_ 322 #[r[k]] W λe w'=>KJ (e8 (r[k]).data.toList) e/\Gr W w'):=λk hk W g=>JR _ (by have:=b3 r[k] (Xg _ (Xs hk));omega) m W ((ZW g a4).trans hm) (qN a4 (ZR g));have Q:Y (∀v l W',pL (r.map λx:I4=>x.data.toList)=S l->Hm w v l W'->Ma w ((pL (r.map λx:I4=>x.data.toList)).map λq=>(p,q)) (Zd (Ze #[eK (jV p) v,Zk])) W'):=λv l W' e k=>by rw[e];exact⟨v,R,k⟩
  have a0:Y (∀W',pL (r.map λx:I4=>x.data.toList)=N->Ma w ((pL (r.map λx:I4=>x.data.toList)).map λq=>(p,q)) (Zd (Ze #[eK b_ (Zq N 0 0),Zl])) W'):=λW' e=>by rw[e];exact⟨_,vl xF _,br xH,R⟩
  rw[JP E_ j.symm h7];generalize (pL (r.map λx:I4=>x.data.toList)).map (λq=>(p,q))=h5 at Q a0|-;generalize jV p=H at z hz ho Q;have b7:=X (MR H hz);go_in;go_upto_region 2 with(go_at_call 321;apply B.mono;rintro e w' ⟨rfl,b0⟩;rw[b0]);generalize (w.alloc (Z zeroCells331 331)).alloc (Z (Zb C::r.map Zb).toArray 9)=w1 at h6 G x1|-;have c0:w1.cell? ⟨w+1,0,N⟩=Zb C:=by rw[Zs x1];rfl
  have K:=X (z _ h6);have g5:(0:Int)<((r.length+1:Nat):Int):=O
  clear z B
  go_upto_region 3 with(first|(go_at_call 278;apply K.mono;rintro e D ⟨rfl,V⟩)|(refine ZC D H Zv hz ho ?_));have h8:Gr D ((D.alloc (Z b_ 70)).setRow D H):=ZN.setRow _ Zy _;have b4:((D.alloc (Z b_ 70)).setRow D H).heap[D.heap.size]?=Z H 70:=Zt (Z7 D _);have u:=o_ V h8;generalize (D.alloc (Z b_ 70)).setRow D H=T at b4 u|-;generalize D.heap.size=B5 at b4|-;go_upto_region 5 with fail
  go_upto_region 6 with(first|(refine ZD B5 H b4 hz ?_)|(refine qqq R 331 #[(0,.tmp 25)] R (eK H (Zq N 0 0)) ?_ ?_;focus (first|(go_simp;exact b7)|(simp;exact b7.a)))|(refine ZU R 331 _ _ R T (eK H (Zq N 0 0)) R R 331 _ Zv Uy (by rw[vl hz];exact Mm.symm) (br ho) ?_));have b2:Gr T ((T.alloc (Z zeroCells331 331)).setRow T (eK H (Zq N 0 0))):=ZN.setRow _ Zy _;have d5:=o_ h6 (o_ u b2);have hR:Rw w.heap.size (w.heap.size+1) T.heap.size w.heap.size H (C::r) (Zq N 0 0) [] w ((T.alloc (Z zeroCells331 331)).setRow T.heap.size (eK H (Zq N 0 0))) :=
   ⟨ZE (o_ u b2) G,ZE (o_ u b2) x1,Zt (Z7 T _),⟨R,Zi ⟨R,R⟩⟩,d5⟩
  have c6:w<T.heap.size:=qN (qB.1 G).1 (ZR u);generalize (T.alloc (Z zeroCells331 331)).setRow T (eK H (Zq N 0 0))=w4 at hR|-;generalize T.heap.size=B7 at hR c6|-;have h1:(1:Int)<=((r.length+1:Nat):Int):=O
  have h2:r.length<4294967296:=O
  go_wp2
  all_goals
   go_loopg [30] r.length (λgk i wr=>∃(k:Nat)(v:I7) (l:List (Nat×Nat)),k+gk=r.length/\i=k/\pL ((r.take k).map λx:I4=>x.data.toList)=S l/\l.length=k/\Rw w (w+1) B7 w H (C::r) v l w wr)
   case atStart=>exact⟨0,_,[],O,R,R,R,hR⟩
   case round=>
    obtain⟨k,v,l,k1,rfl,f6,g4,hR⟩:=hrel;have E:=X hR;have a8:=X f6;by_cases k2:k<r.length
    .first
      | (exfalso;rw[h]at k2;exact w_ k2 (Yy _))
      | (
       have g3:(k:Int)<(r.length:Int):=O
       have g0:wr.cell? ⟨w+1,1+k,N⟩=r[k]:=(by rw[Zs E.a.r1,Xu,YM,Nat.add_comm,List.getElem?_cons_succ,YN,Yf k2];rfl);have hc:=X (f5 k k2);have k4:Y ((r[k]).data.toList∈r.map λx:I4=>x.data.toList):=X (List.mem_map_of_mem (Xs k2));have c4:Y ((r.take (k+1)).map (λx:I4=>x.data.toList)=(r.take k).map (λx:I4=>x.data.toList)++[(r[k]).data.toList]):=(by rw[Yd k2,Ys];rfl);generalize r[k]=y at g0 hc k4 c4;cases k3:e8 y.data.toList with
       | none=>
        have f8:=X (λW'=>a0 W' (Hj k4 k3));rw[k3]at hc;have a1:Y (i_ c_ 322 #[y] wr λe w'=>(∃a b:Nat,e=Ze #[Zc #[a,I Zh b],Zl])/\Gr wr w'):=(hc wr E.gr).mono λe w' q=>⟨by obtain⟨a,b,_,e1⟩:=q.1;exact⟨a,b,e1⟩,q.2⟩;go_upto_region 10 with(go_at_call 322;apply a1.mono;rintro e w5 ⟨⟨a,b,rfl⟩,a2⟩);have x6:=E.next (o_ a2 ((q_ w5).alloc #[a,I Zh b] 335));generalize w5.alloc (Z #[a,I Zh b] 335)=w6 at x6|-;have G:=x6.r0;have k0:=X x6.gr
        go_wp2_with(first|(refine qqq R 331 #[] R (eK b_ (Zq N 0 0)) ?_ ?_;focus (first|(go_simp;exact HR)|(simp;exact HR)))|(refine ZU R 331 _ _ R w (eK b_ (Zq N 0 0)) R R 331 _ G U9 R (br xH) ?_));exact ZS (qj results285 _ _ w 331 _ (0,0) _ R (Zt G) underlying331 rfl U9) R ⟨f8 _,k0.setRow _ Zy _⟩
       | some dn=>
        obtain⟨d,n⟩:=dn;rw[k3]at hc;have g6:=X (Hi a8 k3);have a1:Y (ZL 322 #[y] wr (Ze #[Zc #[d,I Zh n],Zk])):=(hc wr E.gr).mono λe w' q=>⟨by obtain⟨a,b,e0,e1⟩:=q.1;obtain⟨rfl,rfl⟩:=e0 d n R;exact e1,q.2⟩;go_upto_region 10 with(go_at_call 322;apply a1.mono;rintro e w5 ⟨rfl,a2⟩);have x6:=E.next (o_ a2 ((q_ w5).alloc #[d,I Zh n] 335));have y6:(w5.alloc (Z #[d,I Zh n] 335)).heap[w5.heap.size]?=Z #[d,I Zh n] 335:=Z7 w5 _;generalize w5.alloc (Z #[d,I Zh n] 335)=w6 at x6 y6|-;generalize w5.heap.size=c5 at y6|-;have h0:=X x6;have c7:w6.cell? ⟨B7,72,N⟩=S v:=by rw[Zs x6.r7,J2 hz]
        have d0:w6.cell? c5=I L d:=(by rw[Zs y6];rfl);have d1:w6.cell? ⟨c5,1,N⟩=I Zh n:=(by rw[Zs y6];rfl);obtain⟨i0,hi,g7,g8,g9⟩:=We RX;have g2:=X hi;have f9:=K7 w6 d n;have h4:=ZR x6.gr;have a3:Gr w6 (w6.alloc (Z #[d,I Zh n] 335)):=ZN;have b1:=X (x6.next a3);have f:=X (x6.next a3).own;go_upto_region 13 with(at_builtin;apply Xv _ R (.tmp 43) (.tmp 45) 329 rfl w 335 i0 (Zc #[I L 0,I Zh 0]) 2 16 underlying329 g2 g7 g8 g9 R WW v l.length (Hy l) R f ⟨w6,0,N⟩ 1 1 [I L d,I Zh n] R R f9 Vi Vk O WX;intro v' w8 M F f1;obtain⟨sa,sb,sc,rfl⟩:∃a b c,v'=Zq a b c:=N5 (l:=l++[(d,n)]) (base:=w) (W:=w8) (by unfold Hm Hy;rw[Xj,qZ];exact M);have hw8:=(F.block _ (qB.1 b1.r7).1 (N6 f b1.r7 WW)).trans b1.r7;have z5:w8.cell? ⟨B7,72,N⟩=S v:=by { rw[Zs hw8,J2 hz] };have zf:w8.frozen? ⟨B7,72,N⟩=Zl:=HV hw8;have a9:=X hw8;have a5:=X M;have k5:=X F)
        have d4:Y (Rw w.heap.size (w.heap.size+1) B7 w.heap.size H (C::r) (Zq sa sb sc) (l++[(d,n)]) w (w8.setCell ⟨B7,72,N⟩ (Zq sa sb sc))):=X (by
         have hk:=k5;have x7:=b1;have keep:∀q c t,(w6.alloc (Z #[d,I Zh n] 335)).heap[q]?=Z c t->335≠t->q≠B7->(w8.setCell ⟨B7,72,N⟩ (Zq sa sb sc)).heap[q]?=Z c t:=λq c t e hn hq=>(Yg w8 _ _ _ hq).trans ((hk.block _ (qB.1 e).1 (N6 f e hn)).trans e);refine⟨keep _ _ _ x7.r0 WW O,keep _ _ _ x7.r1 WW (λe=>by have:=x7.r1;rw[e,x7.r7]at this;injection this with this;injection this with _ this _;exact w_ this WW),?_,?_,?_⟩
         .have:=qv (i:=72) (v:=Zq sa sb sc) a9
          rwa[NG hz]at this
         .have h9:Hm w.heap.size (Zq sa sb sc) (l++[(d,n)]) w8:=(by unfold Hm Hy;rw[Xj,qZ];exact a5);exact KL h9 a9 WW λq o hq e=>(Yg w8 _ _ _ hq).trans e
         exact(Below.grown x7.gr hk (ZR x7.gr) (Pi f)).setCell (p:=⟨B7,72,N⟩) (Nat.le_of_lt c6) _)
        go_wp2;go_roundg (gk-1)
        case measure=>omega
        case rel=>exact⟨k+1,Zq sa sb sc,l++[(d,n)],O,Vg,by rw[c4.a];exact g6.a,by simp[g4],d4⟩)
    have ek:k=r.length:=O
    have b6:pL (r.map λx:I4=>x.data.toList)=S l:=(by have:=a8;rwa[ek,XA]at this);have hR:=E;have g1:=X (λW'=>Q v l W' b6);have x7:=hR.r7;have G:=hR.r0;obtain⟨sa,sb,sc,rfl⟩:=N5 hR.own;have f2:=X hR.own;have k0:=X hR.gr;have g3:¬(k:Int)<(r.length:Int):=O
    clear hR E a8 b6 Q a0 f5
    go_wp2_with(first|(refine ZV R 331 _ R B7 R 331 (eK H (Zq sa sb sc)) (0,0) _ x7 underlying331 rfl Uy ?_)|(refine ZU R 331 _ _ R w (eK H (Zq sa sb sc)) R R 331 _ G Uy (by rw[vl hz,vl xF]) (br ho) ?_));exact ZS (qj results285 _ _ w 331 _ (0,0) _ R (Zt G) underlying331 rfl Uy) R ⟨g1 _ (KL f2 G WW λq o hq e=>by rw[Zu hq];exact e),k0.setRow _ Zy _⟩
def Qf(w:I6):Prop:=w.cell? ⟨5,0,N⟩=S (Zb (xJ (rx 0)))/\w.cell? ⟨5,1,N⟩=S (Zb (xJ (rx 1)))/\w.cell? ⟨5,2,N⟩=S (Zb (xJ (rx 2)))/\w.cell? ⟨5,3,N⟩=S (Zb (xJ (rx 3)))
structure T_(m:Int)(W:I6):Prop where
 ct:Ct m W
 tb:uV W
 pw:HG W
 ow:Qf W
structure N2(n:Nat):Prop where
 a:LD n
 t5:n≠4
 t6:n≠8
 t7:n≠5
def HG.fr(h:HG w)(f:Fr Q w w')(b:∀o,Q 8 o):HG w':=by
 have a:c_.globalNamed "internal/strconv.uint64pow10"=S 8:=WR;unfold HG Lib.TabIs World.var? at h |-;rw[a]at h |-;simp only[Option.bind_some]at h |-;cases e:w.heap[8]? with
 | none=>rw[e]at h;cases h
 | some o=>rw[e]at h;rw[f.same _ _ e (b o)];exact h
def T_.fr(h:T_ m w)(f:Fr Q w w')(b:∀k o,¬N2 k->Q k o):T_ m w':=by have d:∀o,Q 2 o:=λo=>b _ o λk=>k.a.t1 R;have e:∀o,Q 3 o:=λo=>b _ o λk=>k.a.t2 R;have g:∀o,Q 0 o:=λo=>b _ o λk=>k.a.t3 R;have i:∀o,Q 1 o:=λo=>b _ o λk=>k.a.t4 R;have j:∀o,Q 4 o:=λo=>b _ o λk=>k.t5 R;have q6:∀o,Q 8 o:=λo=>b _ o λk=>k.t6 R;have q7:∀o,Q 5 o:=λo=>b _ o λk=>k.t7 R;exact⟨⟨f.cell h.ct.mx (λo _=>j o),qN h.ct.ml f.size,h.ct.tab.fr f d,h.ct.homes.fr f i⟩,⟨h.tb.cas.fr f e,h.tb.st.fr f g⟩,h.pw.fr f q6,f.cell h.ow.1 (λo _=>q7 o),f.cell h.ow.2.1 (λo _=>q7 o),f.cell h.ow.2.2.1 (λo _=>q7 o),f.cell h.ow.2.2.2 (λo _=>q7 o)⟩
def T_.gr(h:T_ m w)(g:Gr w w'):T_ m w':=h.fr (Q:=λ_ _=>True) (p_ g) (λ_ _ _=>x_)
def T_.wt(h:T_ m w):Wt w:=Po h.ct h.tb
structure oj(bl g n base:Nat):Prop where
 b1:bl<base
 b2:g<base
 ne:bl≠g
 le:n<=4096
 a1:N2 bl
 a2:N2 g
 lo:∀k,¬N2 k->k<base
def oj.lc{bl:Nat}(x:oj bl g n base):Sv bl g n base (LC g n):=⟨x.b1,x.b2,x.ne,(Mc g n x.le).st,(Mc g n x.le).ob⟩
structure ux(m:Int)(bl g n base:Nat)(s:y_)(rs:I3)(W:I6):Prop where
 w:∃PA,s.row PA/\PZ bl g n base (LC g n) PA rs W
 ok:s.ok
 k:T_ m W
 hb:base<=W.heap.size
def oj.fr{bl:Nat}(x:oj bl g n base){b:I6}(h:T_ m W)(f:A_ bl g base W b):T_ m b:=h.fr f λk _ a=>⟨λe=>a (e▸x.a1),λe=>a (e▸x.a2),Zi (x.lo k a)⟩
def ux.gr{bl:Nat}{s:y_}(h:ux m bl g n base s rs W)(x:oj bl g n base)(k:Gr W a):ux m bl g n base s rs a:=by obtain⟨PA,b,d⟩:=h.w;exact⟨⟨PA,b,d.gr x.lc k⟩,h.ok,h.k.gr k,q7 h.hb (ZR k)⟩
def ux.fx{bl:Nat}{s:y_}(h:ux m bl g n base s rs W)(x:oj bl g n base)(k:zm g W a)(l:LC g n a):ux m bl g n base s rs a/\A_ bl g base W a:=by obtain⟨PA,d,b⟩:=h.w;obtain⟨v,i,j⟩:=b.c;have f:A_ bl g base W a:=Fr.mono k λk o _ q=>q.2.1;exact⟨⟨⟨PA,d,⟨v,k.at i x.ne,uy j λq c fr e p=>k.at e UU⟩,l,b.pz⟩,h.ok,x.fr h.k f,q7 h.hb k.size⟩,f⟩
def LP{bl:Nat}{s:y_}(x:oj bl g n base)(t:I4)(a:rs.length<=2000000000000)(W:I6)(h:ux m bl g n base s rs W):i_ c_ 159 #[ZI bl,t] W λe b=>e=Ze #[]/\ux m bl g n base s (rs++[t]) b/\A_ bl g base W b:=by obtain⟨PA,d,i⟩:=h.w;refine Z0 (Ht x.lc t a W i h.hb) λb⟨j,f⟩=>?_;exact⟨R,⟨⟨PA,d,j⟩,h.ok,x.fr h.k f,q7 h.hb f.size⟩,f⟩
def Kb{b:I0}(e:PA.size=72)(a:b.size=72)(g n:Nat)(v:I7):Hw (CQ PA g n v) 0 b.toList=CQ b g n v:=by
 have f:(CQ PA g n v).size=81:=by unfold CQ;simp[e]
 apply YV;intro i;rw[AH _ _ _ (by rw[f];simp[a])];simp only[ZX,a,Nat.zero_le,true_and,Z2,Nat.sub_zero];by_cases d:i<72
 .rw[qI d,H7 a g n v d,qO]
 rw[qF d];obtain⟨k,rfl⟩:∃k,i=72+k:=⟨i-72,O⟩;rw[ny e,ny a]
def ux.put{bl:Nat}{s j:y_}(h:ux m bl g n base s rs W)(x:oj bl g n base){a:I0}(d:j.row a)(u:j.ok):ux m bl g n base j rs (W.setCells bl 0 a.toList)/\A_ bl g base W (W.setCells bl 0 a.toList):=by obtain⟨PA,y,b⟩:=h.w;obtain⟨v,p,r⟩:=b.c;have k:=ba bl a.toList 0 W;have f:A_ bl g base W (W.setCells bl 0 a.toList):=Fr.mono k λk o _ q=>q.1;have l:=bP bl 233 a.toList 0 W _ p;rw[Kb b.pz (jE.size d)]at l;exact⟨⟨⟨a,d,⟨v,l,uy r λq c fr e z=>k.at e UV⟩,x.lc.st _ _ b.i (Fr.mono k λq o _ e=>by rw[e];exact x.ne.symm),jE.size d⟩,u,x.fr h.k f,q7 h.hb k.size⟩,f⟩
def L2(b:PA.size=72){bl:Nat}(h:W.heap[bl]?=Z (CQ PA g n v) 233):W.there bl 0 72:=λj a=>by
 refine⟨?_,HV h⟩;rw[Zs h,Z2,H7 b g n v a,qQ O];rfl
def L3(b:PA.size=72){bl:Nat}(h:W.heap[bl]?=Z (CQ PA g n v) 233):W.rangeAt bl 0 PA.toList:=λj v' a=>by
 have d:j<72:=by rw[<-b,<-ZX];exact(Z5.1 a).1
 rw[Zs h,Z2,H7 b g n v d,<-qO];exact a
def L4(a:PA.size=72){bl:Nat}(h:W.heap[bl]?=Z (CQ PA g n v) 233)(i:Nat):W.cell? ⟨bl,72+i,N⟩=(#[.func (.func 64) #[] #[],.func (.func 65) #[] #[],I L 1,ec g n,.func (.func 60) #[] #[],.func (.func 61) #[] #[],I L 2,ec g n,v]:I0)[i]?:=by rw[Zs h,ny a]
structure cv(m:Int)(bl g n base:Nat)(PA:I0)(rs:I3)(W0 W:I6):Prop where
 w:PZ bl g n base (LC g n) PA rs W
 k:T_ m W
 hb:base<=W.heap.size
 f:A_ bl g base W0 W
def cv.next{bl:Nat}{b:I6}(h:cv m bl g n base PA rs b W)(x:oj bl g n base)(k:Gr W a):cv m bl g n base PA rs b a:=⟨h.w.gr x.lc k,h.k.gr k,q7 h.hb (ZR k),A_.trans h.f (A_.of k)⟩
def cv.rng{bl:Nat}(h:cv m bl g n base PA rs a W):W.rangeAt bl 0 PA.toList:=by obtain⟨v,b,_⟩:=h.w.c;exact L3 h.w.pz b
def cv.s{bl:Nat}{s:y_}(h:cv m bl g n base PA rs a W)(d:s.row PA)(b:s.ok):ux m bl g n base s rs W:=⟨⟨PA,d,h.w⟩,b,h.k,h.hb⟩
def ux.t{bl:Nat}{s:y_}(h:ux m bl g n base s rs W):∃PA,s.row PA/\cv m bl g n base PA rs W W:=by obtain⟨PA,a,b⟩:=h.w;exact⟨PA,a,b,h.k,h.hb,A_.refl _ _ _ _⟩
def ux.there{bl:Nat}{s:y_}(h:ux m bl g n base s rs W):W.there bl 0 72:=by obtain⟨PA,d,a⟩:=h.w;obtain⟨v,b,_⟩:=a.c;exact L2 a.pz b
def Md(t:I4):Option y_:=match xG t with|some p=>if xP p=Zk then S (.of p)else N|none=>N
def NA{t:I4}{g:y_}(h:Md t=g):∃i,g.row i/\g.ok/\∀e,ly t e->e=Ze #[i,Zk]:=by
 unfold Md at h;cases b:xG t with
 | none=>rw[b]at h;cases h
 | some p=>
  rw[b]at h;by_cases f:xP p=Zk
  .have d:(if xP p=Zk then S (y_.of p)else N)=g:=h;rw[qI f]at d;have j:=qP d;subst j;refine⟨jV p,y_.row_of b,y_.ok_of b f,λe k=>?_⟩;obtain⟨q,a,_,rfl⟩|⟨a,_⟩:=k
   .rw[b]at a;rw[qP a]
   rw[a p b]at f;cases f
  have d:(if xP p=Zk then S (y_.of p)else N)=g:=h;rw[qF f]at d;cases d
def Py{t:I4}(h:Md t=N){e:Ending}(f:ly t e):∃A:I0,A.size=72/\A.all (·.oneCell')=Zk/\e=Ze #[A,Zl]:=by
 obtain⟨q,a,b,rfl⟩|⟨_,d⟩:=f
 .unfold Md at h;rw[a]at h;have d:(if xP q=Zk then S (y_.of q)else N)=N:=h;rw[qI b]at d;cases d
 exact d
def vs(m:Int)(bl g n base:Nat)(s:y_)(rs:I3)(r:Option (y_×I3))(e:Ending)(W':I6):Prop:=match r with
 | some (s',l)=>e=Zd (Za Zk)/\ux m bl g n base s' (rs++l) W'
 | none=>e=Zd (Za Zl)/\ux m bl g n base s rs W'
def QS{bl:Nat}{s:y_}(x:oj bl g n base)(t:I4)(a1:t.size<4294967281)(M:rs.length<=1900000000000)(W:I6)(h:ux m bl g n base s rs W):i_ c_ 230 #[ZI bl,t] W λe a=>vs m bl g n base s rs ((Md t).map λv=>(v,[xJ [111,107]])) e a/\A_ bl g base W a:=by
 have H:=HX t a1 m W h.k.ct.mx h.k.ct.ml h.k.ct.tab h.k.ct.homes;cases F:Md t with
 | none=>
  have j:i_ c_ 278 #[t] W λe w'=>(∃A:I0,A.size=72/\A.all (·.oneCell')=Zk/\e=Ze #[A,Zl])/\Gr W w':=H.mono λe w' k=>⟨Py F k.1,k.2⟩;have f:∀a,Gr W a->vs m bl g n base s rs N (Zd Zl) a/\A_ bl g base W a:=λa k=>⟨⟨R,h.gr x k⟩,A_.of k⟩;show i_ _ _ _ _ λe a=>vs m bl g n base s rs N e a/\A_ bl g base W a;clear H F h;go_in
  go_upto_region 2 with(first|(go_at_call 278;apply j.mono;rintro e w1 ⟨⟨A,r,G,rfl⟩,i⟩)|(refine ZC w1 A Zv r G ?_));have d:=o_ i (((q_ w1).alloc b_ 70).setRow _ Zy A);generalize (w1.alloc _).setRow _ _=a0 at d|-;clear i j;go_wp2;go_ret;exact f _ d
 | some v=>
  obtain⟨b,o,D,p⟩:=NA F;have j:ZL 278 #[t] W (Ze #[b,Zk]):=H.mono λe w' k=>⟨p e k.1,k.2⟩;have r:=jE.size o;have G:=qx o
  have q:∀a,Gr W a->a.there bl 0 b.size/\ux m bl g n base v rs (a.setCells bl 0 b.toList)/\A_ bl g base W (a.setCells bl 0 b.toList):=λa k=>by
   have J:=(h.gr x k).put x o D;exact⟨by rw[r];exact(h.gr x k).there,J.1,A_.trans (A_.of k) J.2⟩
  have u:∀a,ux m bl g n base v rs a->i_ c_ 159 #[ZI bl,Zb ⟨#[111,107]⟩] a λe T=>e=Ze #[]/\ux m bl g n base v (rs++[xJ [111,107]]) T/\A_ bl g base a T:=λa k=>LP x (xJ [111,107]) O a k;show i_ _ _ _ _ λe a=>vs m bl g n base s rs (S (v,[xJ [111,107]])) e a/\A_ bl g base W a;clear H F h o D p;go_in
  go_upto_region 2 with(first|(go_at_call 278;refine Z0 j λw1 i=>?_)|(refine ZC w1 b Zv r G ?_));have d:=o_ i (((q_ w1).alloc b_ 70).setRow _ Zy b);have l:((w1.alloc (Z b_ 70)).setRow w1 b).heap[w1.heap.size]?=Z b 70:=Zt (Z7 w1 _);generalize (w1.alloc _).setRow _ _=a0 at d l|-;generalize w1.heap.size=B at l|-;obtain⟨E,V,K⟩:=q _ d;have z:=V;have w:=K;clear i j q d V K
  go_upto_region 5 with(first|(refine ZD B b l r ?_)|(refine wpList_store_mid R 70 _ _ R bl 0 b R R E (by rw[r];exact q9) G ?_));generalize a0.setCells _ _ _=Q at z w|-;clear l E;go_wp2_with(go_at_call 159;refine Z0 (u _ z) λP⟨C,y⟩=>?_;have f:=YB (show vs m bl g n base s rs (S (v,[xJ [111,107]])) (Zd Zk) P from⟨R,C⟩) (A_.trans w y);clear C y);go_ret;exact f
def TZ(m:Int)(bl g n base:Nat)(rs:I3)(B:Nat)(M:I0)(W0 W:I6):Prop:=(∃PA,cv m bl g n base PA rs W0 W)/\W.heap[B]?=S (Z M 87)
def KT{bl:Nat}{s:y_}(x:oj bl g n base)(f t:Nat)(u:UInt8)(hx:(f,t,u)∈s.mov)(a6:rs.length<=1900000000000)(W:I6)(h:ux m bl g n base s rs W):i_ c_ 279 #[ZI bl,Zc (ZJ f t u)] W λe d=>e=Zd (Za Zk)/\ux m bl g n base (s.aft (f,t,u)) (rs++[ex (s.aft (f,t,u))]) d/\A_ bl g base W d:=by
 obtain⟨PA,E,hT⟩:=h.t;have H:=h.ok;obtain⟨c0,c1,c2,c3⟩:=Ok.clk H;obtain⟨hf,ht,hu,k1,k2⟩:=Ok.mv H hx;have hz:=jE.size E;have l:=y_.ok_aft H hx;have b3:Y (∀W,vJ W->i_ c_ 50 #[Zc PA,Zc (ZJ f t u)] W λe w'=>∃Q,e=Zd (Zc Q)/\(s.aft (f,t,u)).row Q/\Gr W w'):=λW hH=>iJ E f t u hf ht k1 k2 c0 c1 c2 c3 W hH;have a2:Y (∀Q,(s.aft (f,t,u)).row Q->∀W,HG W->ZL 239 #[Q] W (xJ (s.aft (f,t,u)).text)):=λQ D W hW=>by obtain⟨d0,d1,d2,d3⟩:=Ok.clk l;exact Kl D (by have:=l.b0;have:=l.b1;omega) d0 d1 d2 d3 W hW
 have a5:=y_.short l;have a8:=ZQ W (Z (ZJ f t u) 87);have a9:Gr W (W.alloc (Z (ZJ f t u) 87)):=ZN;have J:=hT.next x a9;have F:Y (∀d,ux m bl g n base (s.aft (f,t,u)) rs d->i_ c_ 159 #[ZI bl,ex (s.aft (f,t,u))] d λe a7=>e=Ze #[]/\ux m bl g n base (s.aft (f,t,u)) (rs++[ex (s.aft (f,t,u))]) a7/\A_ bl g base d a7):=λd k=>LP x _ O d k;have b5:Y (ex (s.aft (f,t,u))=⟨#[111,107,32]⟩++xJ (s.aft (f,t,u)).text):=X (by unfold ex;rw[show(⟨#[111,107,32]⟩:I4)=xJ [111,107,32]from R,F6]);have b4:Y (∀d Q,(s.aft (f,t,u)).row Q->cv m bl g n base PA rs W d->d.there bl 0 Q.size/\cv m bl g n base Q rs W (d.setCells bl 0 Q.toList)):=X λd Q D k=>by have hS:=k.s E H;have r:=jE.size D;have h2:=hS.put x D l;obtain⟨v,e3,e4⟩:=k.w.c;have hh:=bP bl 233 Q.toList 0 d _ e3;rw[Kb k.w.pz r]at hh;have kk:=ba bl Q.toList 0 d;exact⟨by rw[r];exact hS.there,⟨⟨⟨v,hh,uy e4 λq c fr e D=>kk.at e UV⟩,x.lc.st _ _ k.w.i (Fr.mono kk λq o _ e=>by rw[e];exact x.ne.symm),r⟩,h2.1.k,h2.1.hb,A_.trans k.f h2.2⟩⟩
 go_in;go_upto_region 1 with fail;generalize W.alloc _=w0 at a8 J a9|-;generalize W.heap.size=B at a8|-;have z:=J.next x (q_ w0).drew;refine ZT (S:=TZ m bl g n base rs B (ZJ f t u) W) WR ⟨⟨PA,z⟩,a8⟩ (λy=>?_);apply tq 0 _ y;apply tq 1 _ y;apply tq 2 _ y;apply tq 3 _ y;refine ZB 5 (ZJ f t u) R (λw hw=>by obtain⟨m0,m1,m2⟩:=qm hw.2;go_simp) y ?_;refine rd 4 λK hK=>?_;rw[qI Vb];refine wp_load_mid 70 _ R bl 0 R PA.toList _ z.rng s_ rfl (by rw[q9];simp[hz]) ?_;rw[Yb];refine hK.out _ _ y λy=>?_;try simp only[py]
 refine rd 6 λK hK=>?_;go_simp;refine(b3 _ z.k.ct.homes).mono ?_;rintro e w1 ⟨Q,rfl,D,M⟩;have G:=z.next x M;have j:w1.heap[B]?=Z (ZJ f t u) 87:=ZE M a8;refine hK.out _ _ ⟨⟨PA,G⟩,j⟩ (λy=>?_);try simp only[py]
 apply tq 7 _ y;apply tq 8 _ y;refine rd 9 λK hK=>?_;rw[qI Vb];obtain⟨a0,p⟩:=b4 _ Q D G;have r:=jE.size D;refine wp_store_mid 70 _ _ R bl 0 Q R R a0 (by rw[r];exact q9) (qx D) ?_;have P:(w1.setCells bl 0 Q.toList).heap[B]?=Z (ZJ f t u) 87:=zm.at (ba bl Q.toList 0 w1) j (λe=>by obtain⟨v,e3,_⟩:=G.w.c;rw[e,e3]at j;injection j with j;injection j with _ j _;exact w_ j WW);refine hK.out _ _ ⟨⟨Q,p⟩,P⟩ (λy=>?_);try simp only[py]
 refine ZZ WR ?_ _;generalize w1.setCells _ _ _=w2 at p|-;have a4:=p.rng;have a1:=X (a2 Q D w2 p.k.pw);have V:=X p;have A:Y (∀d,Gr w2 d->i_ c_ 159 #[ZI bl,Zb (⟨#[111,107,32]⟩++xJ (s.aft (f,t,u)).text)] d λe a7=>(e=Zd (Ze #[])/\ux m bl g n base (s.aft (f,t,u)) (rs++[ex (s.aft (f,t,u))]) a7/\A_ bl g base W a7)):=X λd k=>by rw[<-b5.a];have hk:=V.next x k;refine Z0 (F d (hk.s D l)) λa7⟨a,b⟩=>?_;exact⟨R,a,A_.trans hk.f b⟩
 generalize xJ _=b7 at a1 A a5;go_wp2_with(first|(refine Yo R 70 _ R bl 0 R Q.toList _ a4 s_ rfl (by rw[q9];simp[r]) ?_;rw[Yb])|(go_at_call 239;refine Z0 a1 λw3 a3=>?_)|(go_at_call 159;refine Z0 (A _ a3) λw4⟨T,b2⟩=>?_;have b6:=X (YB T b2)));go_ret;exact⟨R,b6⟩
def cv.box{bl:Nat}{b:I6}(h:cv m bl g n base PA rs a W)(x:oj bl g n base){c:I0}{t:TypeId}(p:W.heap[B]?=Z c t)(u:9≠t)(C:base<=a)(D:a<=B)(f:Fr (λk _=>k≠B) W b):cv m bl g n base PA rs a b:=by obtain⟨v,j,l⟩:=h.w.c;have y:=x.b1;have z:=x.b2;refine⟨⟨⟨v,f.same _ _ j O,uy l λq A fr e E=>f.same _ _ e (λd=>by rw[d,p]at e;injection e with e;injection e with _ e _;exact u e.symm)⟩,x.lc.st _ _ h.w.i (f.mono λk o _ q=>O),h.w.pz⟩,h.k.fr f (λk o r=>by have:=x.lo k r;omega),q7 h.hb f.size,?_⟩;exact⟨f.os.trans h.f.os,f.tape.trans h.f.tape,f.output.trans h.f.output,q7 h.f.size f.size,λk o e q=>f.same _ _ (h.f.same k o e q) UR⟩
def JM(W:I6)(B:Nat)(A:I0):Fr (λk _=>k≠B) W (W.setRow B A):=⟨R,R,R,by rw[Xa];exact Zy,λk o e q=>by rw[Zu q];exact e⟩
def P9(z:I2)(c:Bool)(n:Int):yO z c n=0\/yO z c n=1\/yO z c n=2\/yO z c n=3:=by unfold yO;repeat' split;all_goals simp
def Nb{bl:Nat}{s:y_}(x:oj bl g n base)(a4:rs.length<=1900000000000)(W:I6)(h:ux m bl g n base s rs W):i_ c_ 277 #[ZI bl] W λe F=>e=Zd (Ze #[])/\ux m bl g n base s (rs++[HD s]) F/\A_ bl g base W F:=by
 obtain⟨PA,u,hT⟩:=h.t;have h0:base<=W:=h.hb;have A:=h.ok;have hz:=jE.size u;obtain⟨k0,k1⟩:=Ok.king A;have p:Y (∀W,jF W->jQ W->ZL 240 #[jP,PA] W (bx s.z s.wh s.fc s.b)):=λW a c=>Lz u A.lay A.b0 A.b1 k0 k1 W a c;have T:=P9 s.z (kz s.z s.wh) (s.mov.length:Int);have y:Y (HD s=xJ (rx (yO s.z (kz s.z s.wh) (s.mov.length:Int))++if kz s.z s.wh=Zk then[32,99,104,101,99,107]else[])):=R;have c4:bx s.z s.wh s.fc s.b=xB (kz s.z s.wh) (s.mov.length:Int) (yO s.z (kz s.z s.wh) (s.mov.length:Int)):=R;rw[c4]at p;have i:Y (∀F,cv m bl g n base PA rs W F->i_ c_ 159 #[ZI bl,HD s] F λe b2=>e=Ze #[]/\ux m bl g n base s (rs++[HD s]) b2/\A_ bl g base W b2):=λF k=>(LP x _ O F (k.s u A)).mono λe b2 q=>⟨q.1,q.2.1,A_.trans k.f q.2.2⟩;have b5:=X (λW=>qxk W);obtain⟨l,Q,a8⟩:∃k:Nat,yO s.z (kz s.z s.wh) (s.mov.length:Int)=(k:Int)/\k<4:=by
  obtain e|e|e|e:=T
  .exact⟨0,e,O⟩
  .exact⟨1,e,O⟩
  .exact⟨2,e,O⟩
  .exact⟨3,e,O⟩
 have V:Y (∀w',Qf w'->w'.cell? ⟨5,l,N⟩=S (Zb (xJ (rx (l:Int))))):=X λw' o=>by
  have:l=0\/l=1\/l=2\/l=3:=O;obtain rfl|rfl|rfl|rfl:=this
  .exact o.1
  .exact o.2.1
  .exact o.2.2.1
  .exact o.2.2.2
 have a3:(xJ (rx (l:Int))).size<100:=by have:l=0\/l=1\/l=2\/l=3:=O;rcases this with rfl|rfl|rfl|rfl<;>decide
 rw[Q]at p y;have y:Y (HD s=if kz s.z s.wh=Zk then xJ (rx (l:Int))++⟨#[32,99,104,101,99,107]⟩else xJ (rx (l:Int))):=X (by
  rw[y.a];cases kz s.z s.wh
  .simp
  .rw[qI R,qI R,show(⟨#[32,99,104,101,99,107]⟩:I4)=xJ [32,99,104,101,99,107]from R,F6])
 generalize xJ _=b6 at V y a3;have v:Y (∀F,cv m bl g n base PA rs W F->i_ c_ 159 #[ZI bl,Zb (if kz s.z s.wh=Zk then b6++⟨#[32,99,104,101,99,107]⟩else b6)] F λe b2=>e=Zd (Ze #[])/\ux m bl g n base s (rs++[HD s]) b2/\A_ bl g base W b2):=X (by rw[<-y.a];exact i);have i:=v;generalize HD s=LT at i|-;generalize kz _ _=M at p i;generalize (s.mov.length:Int)=b4 at p;simp only[jP,zG]at p b5;go_in;go_upto_region 0 with fail;refine ZT (S:=cv m bl g n base PA rs W) WR (hT.next x ZO.drew) (λd=>?_);apply tq 1 _ d;apply tq 2 _ d;apply tq 3 _ d;apply ty 4 PA R (r8 hz Vb _ R bl R (λ_ h=>h.rng)) d;have a2:=h0;apply Xk (rs:=[0,6]) WR WU;refine Yc R (λK hK=>?a0) (Yc R (λK hK=>?b0) Xb)
 case' a0=>
  go_simp;refine Z0 (b5 _) λw1 H=>?_;refine hK.out _ _ (d.next x H) λd=>?_;try simp only[py]
  apply Xk (rs:=[5,6]) WR WU;refine Yc R (λK hK=>?a1) (Yc R (λK hK=>?b1) Xb)
  case' a1=>
   go_simp;refine Z0 (p _ d.k.ct.tab d.k.tb.cas) λJ r=>?_;refine hK.out _ _ (d.next x r) λd=>?_;try simp only[py]
   refine rd 6 λK hK=>?_;go_simp;have w:=d.f.size;have j:=ZQ J (Z #[Zl,I L 0,I L 0] 186);refine hK.out _ _ (d.next x ZN) λd=>?_;try simp only[py]
   generalize (J).heap.size=B at j w|-;generalize (J).alloc (Z #[Zl,I L 0,I L 0] 186)=b3 at j d|-
  case' b1=>
   go_simp;have w:=d.f.size;have j:=ZQ w1 (Z #[Zl,I L 0,I L 0] 186);refine hK.out _ _ (d.next x ZN) λd=>?_;try simp only[py]
   generalize (w1).heap.size=B at j w|-;generalize (w1).alloc (Z #[Zl,I L 0,I L 0] 186)=b3 at j d|-;refine rd 5 λK hK=>?_;go_simp;refine Z0 (p _ d.k.ct.tab d.k.tb.cas) λJ r=>?_;have j:=ZE r j;refine hK.out _ _ (d.next x r) λd=>?_;try simp only[py]
   generalize J=b3 at j d|-
 case' b0=>
  go_simp;have j:(W.alloc (Z #[Zl,I L 0,I L 0] 186)).drew.heap[W.heap.size]?=Z #[Zl,I L 0,I L 0] 186:=ZQ W _;refine hK.out _ _ (hT.next x (((q_ W).alloc #[Zl,I L 0,I L 0] 186).drew)) (λd=>?_);try simp only[py]
  obtain⟨B,b7⟩:∃B,B=W.heap.size:=⟨_,R⟩;have w:W.heap.size<=B:=O;rw[<-b7]at j|-;clear b7;generalize (W.alloc (Z #[Zl,I L 0,I L 0] 186)).drew=b3 at j d|-;refine rd 0 λK hK=>?_;go_simp;refine Z0 (b5 _) λw1 H=>?_;have j:=ZE H j;refine hK.out _ _ (d.next x H) λd=>?_;clear hK K;try simp only[py]
  refine rd 5 λK hK=>?_;go_simp;refine Z0 (p _ d.k.ct.tab d.k.tb.cas) λJ r=>?_;have j:=ZE r j;refine hK.out _ _ (d.next x r) λd=>?_;clear hK K;try simp only[py]
  generalize J=b3 at j d|-
 all_goals
  refine rd 7 λK hK=>?_;rw[qI Vb];apply YQ 186 _ _ R B (xB M b4 (l:Int)) R R 186 _ j WR R (by simp[xB,Value.oneCell']);have G:(b3.setRow B (xB M b4 (l:Int))).heap[B]?=Z (xB M b4 (l:Int)) 186:=Zt j;refine hK.out _ _ (d.box x j WW a2 w (JM _ _ _)) λd=>?_;try simp only[py]
  refine ZZ WR ?_ _;generalize b3.setRow _ _=E at G d|-;have c0:E.cell? ⟨B,0,N⟩=Za M:=by rw[Zs G];rfl
  have c2:E.cell? ⟨B,2,N⟩=I L l:=by rw[Zs G];rfl
  have a5:E.cell? ⟨5,l,N⟩=Zb b6:=V E d.k.ow;have c5:=X (i E d);have a7:(l:Int)<4:=O
  have a6:0<=(l:Int):=O
  cases M
  all_goals
   have D:=c5
   first|rw[qI R]at D|rw[qF WW]at D
   go_wp2_with(go_at_call 159;refine Z0 D λa9⟨hS,hF⟩=>?_;have P:=X (YB hS hF));go_end0;exact⟨R,P⟩
def JI(l:List Mv):(ud l).map (·.data.toList)=l.map yJ:=by rw[ud,List.map_map];rfl
def wg(x:Mv):(yJ x).length<=5:=by unfold yJ uY;rw[qZ,qZ,zF,zF];split<;>simp
def K4(l:List (I1))(h:∀x∈l,x.length<=5):(f_ l [32]).length<=6*l.length:=by
 cases l with
 | nil=>simp[Lib.join_nil]
 | cons a r=>
  rw[Lib.join_cons,qZ]
  have e:∀r:List (I1),(∀x∈r,x.length<=5)->(Lib.joinTail [32] r).length<=6*r.length:=by
   intro r;induction r with
   | nil=>intro _;simp[Lib.joinTail]
   | cons b r ih=>
    intro h;have:=ih λx d=>h x (by simp[d]);have:=h b WU;simp[Lib.joinTail]at *;omega
  have:=e r λx d=>h x (by simp[d]);have:=h a WU;simp;omega
def Lv{bl:Nat}{s:y_}(x:oj bl g n base)(a1:rs.length<=1900000000000)(W:I6)(h:ux m bl g n base s rs W):i_ c_ 276 #[ZI bl] W λe d=>e=Ze #[]/\ux m bl g n base s (rs++[KY s]) d/\A_ bl g base W d:=by
 obtain⟨PA,o,hT⟩:=h.t;have B:=h.ok;have hz:=jE.size o;have D:Y (∀W,jF W->jQ W->i_ c_ 36 #[jP,PA] W λe w'=>∃v,e=Zd v/\yt W v (ud (jI s.mov)) w'/\Gr W w'):=λW a c=>qxz hz (mkS o B.lay B.b0 B.b1 W a c);have b:Y (∀t d,cv m bl g n base PA rs W d->t=KY s->i_ c_ 159 #[ZI bl,t] d λe G=>e=Ze #[]/\ux m bl g n base s (rs++[KY s]) G/\A_ bl g base W G):=λt d k e=>by rw[e];exact(LP x _ O d (k.s o B)).mono λe G q=>⟨q.1,q.2.1,A_.trans k.f q.2.2⟩
 have a8:s.mov.length<=1000000:=bu _ _ _ _;have l:Y (s.mov=[]->(⟨#[110,111,110,101]⟩:I4)=KY s):=λe=>by unfold KY;rw[qI e];rfl
 have i:Y (s.mov≠[]->(⟨(f_ ((ud (jI s.mov)).map (·.data.toList)) [32]).toArray⟩:I4)=KY s):=λe=>by unfold KY;rw[qF e,JI];rfl
 have A:Y ((f_ ((ud (jI s.mov)).map (·.data.toList)) [32]).length<=6*s.mov.length):=X (by
  rw[JI];refine q7 (K4 _ λx hx=>?_) (by rw[YD,qj7];exact Zy);obtain⟨y,_,rfl⟩:=YL.1 hx;exact wg y)
 have T:(ud (jI s.mov)).length=s.mov.length:=by rw[ud,YD,qj7]
 have p:s.mov=[]↔s.mov.length=0:=Yz.symm;have a4:=X (λW=>qxk W);rw[<-T]at a8 p A;generalize ud _=F at D i a8 p A;generalize KY s=MT at b l i|-;simp only[jP,zG]at D a4;go_in;go_upto_region 0 with fail;refine ZT (S:=cv m bl g n base PA rs W) WR (hT.next x ZO.drew) (λr=>?_);apply tq 1 _ r;apply tq 2 _ r;apply tq 3 _ r;apply ty 4 _ R (r8 hz Vb _ R bl R (λ_ h=>h.rng)) r;refine rd 0 λK hK=>?_;go_simp;refine Z0 (a4 _) λw1 Q=>?_;refine hK.out _ _ (r.next x Q) λr=>?_;try simp only[py]
 refine rd 5 λK hK=>?_;go_simp;refine(D _ r.k.ct.tab r.k.tb.cas).mono ?_;rintro e E ⟨v,rfl,a9,a6⟩;obtain⟨pp,cap,rfl,P,w⟩:=l7 a9;refine hK.out _ _ (r.next x a6) λr=>?_;try simp only[py]
 apply tq 6 _ r;refine ZZ WR ?_ _;have H:=X r;by_cases h0:F.length=0
 .have V:=X (l (p.2 h0));have M:Y (i_ c_ 291 #[Zq (S E) 1 1,Zb ⟨#[32]⟩] (E.alloc (Z #[Zb ⟨#[110,111,110,101]⟩] 9)) λe w'=>e=Zd (Zb ⟨#[110,111,110,101]⟩)/\Gr E w'):=X (by
   refine(Tryz.strings_Join E 0 1 [⟨#[110,111,110,101]⟩] ⟨#[32]⟩ (E.alloc (Z #[Zb ⟨#[110,111,110,101]⟩] 9)) (λj y hy=>by
    have M:j<1:=(by simpa using(Z5.1 hy).1);have:j=0:=O
    subst this;rw[Z8 _ _ _ _ R];simp at hy;rw[<-hy];rfl) WU WU WU WW).mono ?_
   rintro e w' ⟨rfl,hg⟩;exact⟨R,o_ ZN hg⟩)
  have J:Y (∀d,Gr E d->i_ c_ 159 #[ZI bl,Zb ⟨#[110,111,110,101]⟩] d λe G=>e=Ze #[]/\ux m bl g n base s (rs++[MT]) G/\A_ bl g base W G):=λd k=>b _ d (H.next x k) V;have a0:((F.length:Int)==0)=Zk:=UP;exact ON
 obtain⟨gg,rfl,_⟩:=w 0 O;have a7:=X (i (λe=>h0 (p.1 e)));have M:Y (ZL 291 #[Zq (S gg) F.length cap,Zb ⟨#[32]⟩] E (Zb ⟨(f_ (F.map (·.data.toList)) [32]).toArray⟩)):=X (Tryz.strings_Join gg 0 cap F ⟨#[32]⟩ E (λj y hy=>by
  obtain⟨M,e⟩:=Z5.1 hy;obtain⟨g2,u,e3⟩:=w j M;injection u with u
  injection u with u _ _
  rw[Z2,u,e3,e]) (by obtain⟨g2,u,e3⟩:=w 0 O;injection u with u;injection u with u _ _;rw[u];exact Zx e3) O P (by have:=A.a;show(f_ (F.map (·.data.toList)) [32]).length<=_;omega))
 have J:Y (∀d,Gr E d->i_ c_ 159 #[ZI bl,Zb ⟨(f_ (F.map (·.data.toList)) [32]).toArray⟩] d λe G=>e=Ze #[]/\ux m bl g n base s (rs++[MT]) G/\A_ bl g base W G):=λd k=>b _ d (H.next x k) a7;have a0:((F.length:Int)==0)=Zl:=Vp;generalize (⟨(f_ (F.map (·.data.toList)) [32]).toArray⟩:I4)=JJ at M J;exact ON
def fd(s:y_)(t:I4):Option (y_×I3):=match yn t with
 | some y=>if s.mov.any (λz=>z==y)=Zk then S (s.aft y,[ex (s.aft y)])else N
 | none=>N
theorem F8{s:y_}{y:Mv}(h:(s.mov.any λz=>z==y)=Zk):y∈s.mov:=by obtain⟨z,a,e⟩:=qY.1 h;rw[<-YF.1 e];exact a
def Na{bl:Nat}{s:y_}(x:oj bl g n base)(V:I4)(ht:V.size<4294967281)(a1:rs.length<=1900000000000)(W:I6)(h:ux m bl g n base s rs W):i_ c_ 231 #[ZI bl,Zb V] W λe d=>vs m bl g n base s rs (fd s V) e d/\A_ bl g base W d:=by
 have j:=mX V ht W;unfold yy at j;unfold fd;cases a2:yn V with
 | none=>
  rw[a2]at j;have i:∀d,Gr W d->vs m bl g n base s rs N (Zd Zl) d/\A_ bl g base W d:=λd k=>⟨⟨R,h.gr x k⟩,A_.of k⟩;simp only[z8]at j;go_in;go_upto_region 2 with(go_at_call 56;refine Z0 j λw1 E=>?_);have Q:=o_ E ((q_ w1).alloc #[I L 0,I L 0,I Zg 0] 87);generalize w1.alloc _=w2 at Q|-;generalize w1.heap.size=B;refine ZT (S:=Gr W) WR (o_ Q ZO.drew) (λb=>?_);apply tq 0 Zl b;apply tq 1 Zl b;apply ZA 2 b;apply ZA 3 b;apply ZA 4 b;apply ZA 5 b;apply ZA 6 b;apply ZA 7 b;apply ZA 8 b;apply tq 9 Zl b;apply tq 10 Zl b;apply ZA 11 b;apply ZA 12 b;apply ZA 13 b;apply tq 14 Zl b;apply tq 15 Zl b;refine ZZ WR ?_ _;go_wp2;go_ret;exact i _ b
 | some y=>
  obtain⟨f,t,u⟩:=y;rw[a2]at j;simp only[z8]at j;obtain⟨PA,l,hT⟩:=h.t;have h0:=h.hb;have v:=h.ok;have hz:=jE.size l;have a4:∀W,jF W->jQ W->ZL 57 #[jP,PA,ZJ f t u] W (s.mov.any λz=>z==(f,t,u)):=λW a c=>dl l v.lay v.b0 v.b1 (f,t,u) W a c;have T:(s.mov.any λz=>z==(f,t,u))=Zk->∀d,cv m bl g n base PA rs W d->i_ c_ 279 #[ZI bl,ZJ f t u] d λe W2=>e=Zd Zk/\ux m bl g n base (s.aft (f,t,u)) (rs++[ex (s.aft (f,t,u))]) W2/\A_ bl g base d W2:=λe d k=>KT x f t u (F8 e) O d (k.s l v);have P:∀d,cv m bl g n base PA rs W d->vs m bl g n base s rs N (Zd Zl) d/\A_ bl g base W d:=λd k=>⟨⟨R,k.s l v⟩,k.f⟩;have M:=λW=>qxk W;show i_ _ _ _ _ λe d=>vs m bl g n base s rs (if(s.mov.any λz=>z==(f,t,u))=Zk then S (s.aft (f,t,u),[ex (s.aft (f,t,u))])else N) e d/\A_ bl g base W d;generalize (s.mov.any λz=>z==(f,t,u))=q at a4 T|-;simp only[jP,zG]at a4 M;go_in;go_upto_region 2 with(go_at_call 56;refine Z0 j λw1 E=>?_);have a3:=(hT.next x E).next x ((q_ w1).alloc (ZJ f t u) 87);have F:(w1.alloc (Z (ZJ f t u) 87)).heap[w1.heap.size]?=Z (ZJ f t u) 87:=ZQ w1 _;have a9:=ZR E;generalize w1.alloc _=w2 at a3 F|-;generalize w1.heap.size=B at F a9|-;have J:=a3.next x (q_ w2).drew;have A:w2.drew.heap[B]?=Z (ZJ f t u) 87:=F;refine ZT (S:=λd=>d.heap[B]?=Z (ZJ f t u) 87) WR A (λb=>?_);apply tq 0 Zk b;apply tq 1 Zk b;apply tq 3 _ b;apply tq 4 _ b;apply tq 5 _ b;refine ZB 7 (ZJ f t u) R (λw a5=>by obtain⟨m0,m1,m2⟩:=qm a5;go_simp) b ?_;apply Xk (rs:=[2,6]) WR WU;refine Yc R (λK hK=>?a0) (Yc R (λK hK=>?b0) Xb)
  case' a0=>
   go_simp;refine Z0 (M _) λw3 r=>?_;have p:=J.next x r;have o:=ZE r A;refine hK.out _ _ o λb=>?_;try simp only[py]
   refine rd 6 λK hK=>?_;rw[qI Vb];refine wp_load_mid 70 _ R bl 0 R PA.toList _ p.rng s_ rfl (by rw[q9];simp[hz]) ?_;rw[Yb];refine hK.out _ _ b λb=>?_;try simp only[py]
  case' b0=>
   rw[qI Vb];refine wp_load_mid 70 _ R bl 0 R PA.toList _ J.rng s_ rfl (by rw[q9];simp[hz]) ?_;rw[Yb];refine hK.out _ _ b λb=>?_;try simp only[py]
   refine rd 2 λK hK=>?_;go_simp;refine Z0 (M _) λw3 r=>?_;have p:=J.next x r;have o:=ZE r A;refine hK.out _ _ o λb=>?_;try simp only[py]
  all_goals
   refine rd 8 λK hK=>?_;go_simp;refine Z0 (a4 _ p.k.ct.tab p.k.tb.cas) λw4 a7=>?_;have D:=p.next x a7;have G:=ZE a7 o;refine hK.out _ _ G λb=>?_;try simp only[py]
   cases q
   .apply tq 9 Zl b;apply tq 10 Zl b;apply ZA 11 b;apply ZA 12 b;apply ZA 13 b;apply tq 14 Zl b;apply tq 15 Zl b;refine ZZ WR ?_ _;have i:=P _ D;go_wp2;go_ret;exact i
   apply tq 9 Zk b;apply tq 10 Zk b;apply tq 11 _ b;refine ZB 12 (ZJ f t u) R (λw a5=>by obtain⟨m0,m1,m2⟩:=qm a5;go_simp) b ?_;refine rd 13 λK hK=>?_;go_simp;refine Z0 (T R _ D) λw5⟨a6,H⟩=>?_;have i:vs m bl g n base s rs (S (s.aft (f,t,u),[ex (s.aft (f,t,u))])) (Zd Zk) w5/\A_ bl g base W w5:=⟨⟨R,a6⟩,A_.trans D.f H⟩;have a8:w5.heap[B]?=Z (ZJ f t u) 87:=H.same _ _ G ⟨UV,UU,Zj λk=>by obtain⟨c,fr,k⟩:=k;injection k with _ k _;exact w_ k WW⟩;refine hK.out _ _ a8 λb=>?_;try simp only[py]
   apply tq 14 Zk b;apply tq 15 Zk b;refine ZZ WR ?_ _;go_wp2;go_ret;exact i
def H_(s:y_)(t:I4):Option (y_×I3):=match cU s.z s.wh s.fc s.b t with
 | y::_=>S (s.aft y,[ex (s.aft y)])
 | []=>N
def LZ{bl:Nat}{s:y_}(x:oj bl g n base)(H:I4)(T:rs.length<=1900000000000)(W:I6)(h:ux m bl g n base s rs W):i_ c_ 232 #[ZI bl,Zb H] W λe w=>vs m bl g n base s rs (H_ s H) e w/\A_ bl g base W w:=by
 obtain⟨PA,o,P⟩:=h.t;have V:=h.hb;have E:=h.ok;have hz:=jE.size o;obtain⟨⟨f,t,u⟩,ok,v,F,r⟩:∃(y:Mv)(ok:Bool),Y (∀W,jF W->jQ W->vJ W->ZL 37 #[Zc jP,Zc PA,Zb H] W (Ze #[gJ y,Za ok]))/\Y (ok=Zk->∀w,cv m bl g n base PA rs W w->i_ c_ 279 #[ZI bl,gJ y] w λe Q=>e=Zd (Za Zk)/\vs m bl g n base s rs (H_ s H) (Zd (Za Zk)) Q/\A_ bl g base W Q)/\Y (ok=Zl->∀w,cv m bl g n base PA rs W w->vs m bl g n base s rs (H_ s H) (Zd (Za Zl)) w/\A_ bl g base W w):=by
  cases a5:cU s.z s.wh s.fc s.b H with
  | nil=>
   refine⟨(0,0,0),Zl,X λW a c d=>?_,X (λe=>by cases e),X λ_ w k=>?_⟩
   .have:=nM o E H W a c d;rw[a5]at this;exact this
   rw[H_,a5];exact⟨⟨R,k.s o E⟩,k.f⟩
  | cons y l=>
   have hy:y∈s.mov:=(qV.1 (show y∈cU s.z s.wh s.fc s.b H by rw[a5];simp)).1;refine⟨y,Zk,X λW a c d=>?_,X λ_ w k=>?_,X (λe=>by cases e)⟩
   .have:=nM o E H W a c d;rw[a5]at this;exact this
   obtain⟨f,t,u⟩:=y;refine Z0 (KT x f t u hy O w (k.s o E)) λQ⟨a9,a8⟩=>?_;rw[H_,a5];exact⟨R,⟨R,a9⟩,A_.trans k.f a8⟩
 have G:=λW=>qxk W;generalize H_ s H=b3 at F r|-;simp only[jP,zG,gJ]at v G F;clear h o E;go_in;go_upto_region 1 with fail;refine ZT (S:=cv m bl g n base PA rs W) WR (P.next x ZO.drew) (λi=>?_);apply tq 1 _ i;apply tq 2 _ i;apply tq 3 _ i;apply ty 4 PA R (r8 hz Vb _ R bl R (λ_ h=>h.rng)) i;apply tq 5 H i;apply Xk (rs:=[0,10]) WR WU;refine Yc R (λK hK=>?a0) (Yc R (λK hK=>?b0) Xb)
 case' a0=>
  go_simp;refine Z0 (G _) λw1 J=>?_;refine hK.out _ _ (i.next x J) λi=>?_;clear hK K;try simp only[py]
  apply Xk (rs:=[6,10]) WR WU;refine Yc R (λK hK=>?a1) (Yc R (λK hK=>?b1) Xb)
  case' a1=>
   go_simp;refine Z0 (v _ i.k.ct.tab i.k.tb.cas i.k.ct.homes) λa4 q=>?_;refine hK.out _ _ (i.next x q) λi=>?_;clear hK K;try simp only[py]
   apply tq 7 (Ze #[ZJ f t u,ok]) i;apply tq 8 (ZJ f t u) i;apply tq 9 ok i;refine rd 10 λK hK=>?_;go_simp;have p:=i.f.size;have j:=ZQ a4 (Z #[I L 0,I L 0,I Zg 0] 87);refine hK.out _ _ (i.next x ZN) λi=>?_;clear hK K;try simp only[py]
   generalize (a4).heap.size=B at j p|-;generalize (a4).alloc _=M at j i|-
  case' b1=>
   go_simp;have p:=i.f.size;have j:=ZQ w1 (Z #[I L 0,I L 0,I Zg 0] 87);refine hK.out _ _ (i.next x ZN) λi=>?_;clear hK K;try simp only[py]
   generalize (w1).heap.size=B at j p|-;generalize (w1).alloc _=M at j i|-;refine rd 6 λK hK=>?_;go_simp;refine Z0 (v _ i.k.ct.tab i.k.tb.cas i.k.ct.homes) λa4 q=>?_;have j:=ZE q j;refine hK.out _ _ (i.next x q) λi=>?_;clear hK K;try simp only[py]
   apply tq 7 (Ze #[ZJ f t u,ok]) i;apply tq 8 (ZJ f t u) i;apply tq 9 ok i;generalize a4=M at j i|-
 case' b0=>
  go_simp;have j:(W.alloc (Z #[I L 0,I L 0,I Zg 0] 87)).drew.heap[W.heap.size]?=Z #[I L 0,I L 0,I Zg 0] 87:=ZQ W _;refine hK.out _ _ (P.next x (((q_ W).alloc #[I L 0,I L 0,I Zg 0] 87).drew)) (λi=>?_);clear hK K;try simp only[py]
  obtain⟨B,a7⟩:∃B,B=W.heap.size:=⟨_,R⟩;have p:W.heap.size<=B:=O;rw[<-a7]at j|-;clear a7;generalize (W.alloc (Z #[I L 0,I L 0,I Zg 0] 87)).drew=M at j i|-;refine rd 0 λK hK=>?_;go_simp;refine Z0 (G _) λw1 J=>?_;have j:=ZE J j;refine hK.out _ _ (i.next x J) λi=>?_;clear hK K;try simp only[py]
  refine rd 6 λK hK=>?_;go_simp;refine Z0 (v _ i.k.ct.tab i.k.tb.cas i.k.ct.homes) λa4 q=>?_;have j:=ZE q j;refine hK.out _ _ (i.next x q) λi=>?_;clear hK K;try simp only[py]
  apply tq 7 (Ze #[ZJ f t u,ok]) i;apply tq 8 (ZJ f t u) i;apply tq 9 ok i;generalize a4=M at j i|-
 all_goals
  refine rd 11 λK hK=>?_;rw[qI Vb];apply YQ 87 _ _ R B (ZJ f t u) R R 87 _ j xW R Vi;have a6:(M.setRow B (ZJ f t u)).heap[B]?=Z (ZJ f t u) 87:=Zt j;refine hK.out _ _ (i.box x j WW V p (JM _ _ _)) λi=>?_;try simp only[py]
  apply tq 12 ok i;refine ZZ WR ?_ _;generalize M.setRow _ _=a2 at a6 i|-;obtain⟨m0,m1,m2⟩:=qm a6;cases ok
  .have A:=r R _ i;go_wp2;go_ret;exact A
  have b2:=F R _ i;go_wp2_with(go_at_call 279;refine Z0 b2 λa3 D=>?_;have A:=D);go_ret;exact A
def N3(m:Int)(bl g n base:Nat)(PA:I0)(W0 W:I6):Prop:=∃rs,cv m bl g n base PA rs W0 W
def N3.rng{bl:Nat}(h:N3 m bl g n base PA a W):W.rangeAt bl 0 PA.toList:=h.elim λ_ h=>h.rng
def N3.ctr{bl:Nat}(h:N3 m bl g n base PA a W):(W.cell? ⟨bl,72,N⟩=S (.func (.func 64) #[] #[])/\W.cell? ⟨bl,73,N⟩=S (.func (.func 65) #[] #[])/\W.cell? ⟨bl,74,N⟩=S (I L 1)/\W.cell? ⟨bl,75,N⟩=S (ec g n))/\(W.cell? ⟨bl,76,N⟩=S (.func (.func 60) #[] #[])/\W.cell? ⟨bl,77,N⟩=S (.func (.func 61) #[] #[])/\W.cell? ⟨bl,78,N⟩=S (I L 2)/\W.cell? ⟨bl,79,N⟩=S (ec g n)):=by obtain⟨rs,h⟩:=h;obtain⟨v,b,_⟩:=h.w.c;have c:=λi=>L4 h.w.pz b i;exact⟨⟨c 0,c 1,c 2,c 3⟩,c 4,c 5,c 6,c 7⟩
def cv.fx{bl:Nat}{b:I6}(h:cv m bl g n base PA rs b W)(x:oj bl g n base)(k:zm g W a)(j:LC g n a):cv m bl g n base PA rs b a:=by obtain⟨v,d,i⟩:=h.w.c;have f:A_ bl g base W a:=Fr.mono k λk o _ q=>q.2.1;exact⟨⟨⟨v,k.at d x.ne,uy i λq c fr e l=>k.at e UU⟩,j,h.w.pz⟩,x.fr h.k f,q7 h.hb k.size,A_.trans h.f f⟩
def Ka:LB 2 60 61 128:=⟨Zj ⟨R,R,R,R⟩⟩
def RO:LB 1 64 65 155:=⟨Zi ⟨R,R,R,R⟩⟩
def Lp{bl:Nat}{j:I0}{s:y_}(x:oj bl g n base)(b:s.row j)(f:s.ok){p q r:Nat}{wn:Int}(y:LB wn p q r)(d:Nat)(u:d<=3){o:I6}(h:cv m bl g n base PA rs o W):i_ c_ 25 #[Zc #[.func (.func p) #[] #[],.func (.func q) #[] #[],I L wn,ec g n],Zc j,I L d] W λe l=>e=Zd (I Zh (s.paths d:Nat))/\cv m bl g n base PA rs o l:=by refine Z0 (HZ (Mc g n x.le) x.a2.a y d u f b W h.w.i h.k.wt) λl⟨k,v⟩=>?_;exact⟨R,h.fx x k v⟩
def Pn{bl:Nat}(x:oj bl g n base)(t:I4)(a:rs.length<=2000000000000){d:I6}(h:cv m bl g n base PA rs d W):i_ c_ 159 #[ZI bl,Zb t] W λe b=>e=Zd (Ze #[])/\cv m bl g n base PA (rs++[t]) d b:=by refine Z0 (Ht x.lc t a W h.w h.hb) λb⟨i,f⟩=>?_;exact⟨R,i,x.fr h.k f,q7 h.hb f.size,A_.trans h.f f⟩
def Lo{bl:Nat}{s:y_}(x:oj bl g n base)(d:Nat)(G:d<=3)(H:rs.length<=1900000000000)(W:I6)(h:ux m bl g n base s rs W):i_ c_ 234 #[ZI bl,I L d] W λe a=>e=Zd (Za Zk)/\ux m bl g n base s (rs++[kt (s.paths d)]) a/\A_ bl g base W a:=by
 obtain⟨PA,i,F⟩:=h.t;have v:=h.ok;have J:=jE.size i;have y:∀rs' a,cv m bl g n base PA rs' W a->i_ c_ 25 #[Zc #[.func (.func 60) #[] #[],.func (.func 61) #[] #[],I L 2,ec g n],PA,d] a λe A=>e=I Zh (s.paths d:Nat)/\cv m bl g n base PA rs' W A:=λrs' a k=>Lp x i v Ka d G k;have u:∀a,HG a->ZL 281 #[I Zh (s.paths d:Nat)] a (kt (s.paths d)):=λa k=>ad _ (by have:=pb G s.z s.wh s.fc s.b;show z_ d s.z s.wh s.fc s.b<_;omega) a k;have o:∀a,cv m bl g n base PA (rs++[kt (s.paths d)]) W a->ux m bl g n base s (rs++[kt (s.paths d)]) a/\A_ bl g base W a:=λa k=>⟨k.s i v,k.f⟩;generalize ((s.paths d:Nat):Int)=Q at y u;generalize kt _=DB at u o|-;have E:∀a,cv m bl g n base PA rs W a->i_ c_ 159 #[ZI bl,DB] a λe A=>e=Ze #[]/\cv m bl g n base PA (rs++[DB]) W A:=λa k=>Pn x DB O k;unfold ec at y;go_in;go_upto_region 1 with fail;have r:=F.next x (q_ W).drew;refine ZT (S:=N3 m bl g n base PA W) WR ⟨_,r⟩ (λj=>?_);apply tq 0 _ j;apply tq 1 _ j;apply tq 2 _ j;apply tq 3 _ j;refine ZB 4 (Zc #[.func (.func 60) #[] #[],.func (.func 61) #[] #[],I L 2,Zq (S g) n n]) R (λw P=>by obtain⟨_,c0,c1,c2,c3⟩:=P.ctr;unfold ec at c3;go_simp) j ?_;apply tq 5 _ j;apply tq 6 _ j;apply tq 7 _ j;apply ty 8 PA R (r8 J Vb _ R bl R (λ_ h=>h.rng)) j;apply tq 9 d j;refine rd 10 λK hK=>?_;go_simp;refine Z0 (y _ _ r) λw1 l=>?_;refine hK.out _ _ ⟨_,l⟩ (λj=>?_);try simp only[py]
 refine rd 11 λK hK=>?_;go_simp;refine Z0 (u _ l.k.pw) λM D=>?_;have p:=l.next x D;refine hK.out _ _ ⟨_,p⟩ (λj=>?_);try simp only[py]
 refine rd 12 λK hK=>?_;go_simp;refine Z0 (E _ p) λT q=>?_;refine hK.out _ _ ⟨_,q⟩ (λj=>?_);try simp only[py]
 refine ZZ WR ?_ _;have B:=o _ q;go_wp2;go_ret;exact⟨R,B⟩
def rL{bl:Nat}{s:y_}(t:I4)(H:t.size<=maxLen)(o:Nat)(A:o<=1)(a:Nat)(K:∀args w,(callFunc a args).run c_ w=.ok (.enter a args) w)(J:Nat->I3)(W:I6)(h:ux m bl g n base s rs W)(y:∀d,o<=d->d<=3->i_ c_ a #[ZI bl,I L d] W λe B=>e=Zd (Za Zk)/\ux m bl g n base s (rs++J d) B/\A_ bl g base W B):i_ c_ 233 #[ZI bl,Zb t,I L o,.func (.func a) #[ZI bl] #[]] W λe l=>vs m bl g n base s rs ((df o t.data.toList).map λd=>(s,J d)) e l/\A_ bl g base W l:=by
 have j:=Ae t H o A W;cases r:df o t.data.toList with
 | none=>
  have p:i_ c_ 280 #[Zb t,I L o] W λe w'=>(∃v:Nat,e=Zd (Ze #[I L v,Za Zl]))/\w'=W:=j.mono λe w' k=>by
   obtain⟨⟨v,_,_,q⟩,x⟩:=k;rw[r]at q;exact⟨⟨v,q⟩,x⟩
  have b:vs m bl g n base s rs N (Zd Zl) W/\A_ bl g base W W:=⟨⟨R,h⟩,A_.refl _ _ _ _⟩;show i_ _ _ _ _ λe l=>vs m bl g n base s rs N e l/\A_ bl g base W l;go_in;go_wp2_with(go_at_call 280;apply p.mono;rintro e w' ⟨⟨v,rfl⟩,f⟩;have i:=f.symm;subst i);go_ret;exact b
 | some d=>
  obtain⟨E,F⟩:=MN r
  have p:i_ c_ 280 #[Zb t,I L o] W λe w'=>e=Zd (Ze #[I L d,Za Zk])/\w'=W:=j.mono λe w' k=>by
   obtain⟨⟨v,G,_,q⟩,x⟩:=k;rw[r]at q;rw[G d r]at q;exact⟨q,x⟩
  have z:=y d E F;show i_ _ _ _ _ λe l=>vs m bl g n base s rs (S (s,J d)) e l/\A_ bl g base W l;go_in
  go_wp2_with(first|(go_at_call 280;refine Z0 p λw' f=>?_;have i:=f.symm;subst i)|(go_at_fn a;refine Z0 z λD⟨C,u⟩=>?_;have b:vs m bl g n base s rs (S (s,J d)) (Zd Zk) D/\A_ bl g base W D:=⟨⟨R,C⟩,u⟩));go_ret;exact b
def KG{bl:Nat}{s:y_}(x:oj bl g n base)(d:Nat)(H:d<=3)(a4:rs.length<=1900000000000)(W:I6)(h:ux m bl g n base s rs W):i_ c_ 236 #[ZI bl,I L d] W λe i=>e=Zd (Za Zk)/\ux m bl g n base s (rs++[⟨#[115,97,109,101,32]⟩++kt (s.paths d)]) i/\A_ bl g base W i:=by
 obtain⟨PA,j,a0⟩:=h.t;have o:=h.ok;have P:=jE.size j;have A:∀rs' i,cv m bl g n base PA rs' W i->i_ c_ 25 #[Zc #[.func (.func 60) #[] #[],.func (.func 61) #[] #[],I L 2,ec g n],PA,d] i λe p=>e=I Zh (s.paths d:Nat)/\cv m bl g n base PA rs' W p:=λrs' i k=>Lp x j o Ka d H k;have y:∀rs' i,cv m bl g n base PA rs' W i->i_ c_ 25 #[Zc #[.func (.func 64) #[] #[],.func (.func 65) #[] #[],I L 1,ec g n],PA,d] i λe p=>e=I Zh (s.paths d:Nat)/\cv m bl g n base PA rs' W p:=λrs' i k=>Lp x j o RO d H k;have v:∀i,HG i->ZL 281 #[I Zh (s.paths d:Nat)] i (kt (s.paths d)):=λi k=>ad _ (by have:=pb H s.z s.wh s.fc s.b;show z_ d s.z s.wh s.fc s.b<_;omega) i k;have J:(kt (s.paths d)).size<1000:=by have T:=pb H s.z s.wh s.fc s.b;have V:=dz 18 (s.paths d) (by show z_ d s.z s.wh s.fc s.b<_;omega);show(d_ (s.paths d)).toArray.size<_;rw[Ya];omega
 have F:∀t i,cv m bl g n base PA (rs++[t]) W i->ux m bl g n base s (rs++[t]) i/\A_ bl g base W i:=λt i k=>⟨k.s j o,k.f⟩;generalize ((s.paths d:Nat):Int)=Q at A y v;generalize kt _=DB at v J|-;have a3:∀t i,cv m bl g n base PA rs W i->i_ c_ 159 #[ZI bl,Zb t] i λe p=>e=Ze #[]/\cv m bl g n base PA (rs++[t]) W p:=λt i k=>Pn x t O k;unfold ec at A y;go_in;go_upto_region 1 with fail;have r:=a0.next x (q_ W).drew;refine ZT (S:=N3 m bl g n base PA W) WR ⟨_,r⟩ (λa=>?_);apply tq 0 _ a;apply tq 1 _ a;apply tq 2 _ a;refine ZB 3 (Zc #[.func (.func 64) #[] #[],.func (.func 65) #[] #[],I L 1,Zq (S g) n n]) R (λw M=>by obtain⟨⟨c0,c1,c2,c3⟩,_⟩:=M.ctr;unfold ec at c3;go_simp) a ?_;apply tq 4 _ a;apply tq 5 _ a;apply tq 6 _ a;apply ty 7 PA R (r8 P Vb _ R bl R (λ_ h=>h.rng)) a;apply tq 8 d a;refine rd 9 λK hK=>?_;go_simp;refine Z0 (y _ _ r) λw1 q=>?_;refine hK.out _ _ ⟨_,q⟩ (λa=>?_);try simp only[py]
 apply tq 10 _ a;refine ZZ WR ?_ _;go_upto_region 2 with fail;have u:=q.next x (q_ w1).drew;refine ZT (S:=N3 m bl g n base PA W) WR ⟨_,u⟩ (λa=>?_);apply tq 0 _ a;apply tq 1 _ a;apply tq 2 _ a;refine ZB 3 (Zc #[.func (.func 60) #[] #[],.func (.func 61) #[] #[],I L 2,Zq (S g) n n]) R (λw M=>by obtain⟨_,c0,c1,c2,c3⟩:=M.ctr;unfold ec at c3;go_simp) a ?_;apply tq 4 _ a;apply tq 5 _ a;apply tq 6 _ a;apply ty 7 PA R (r8 P Vb _ R bl R (λ_ h=>h.rng)) a;apply tq 8 d a;apply tq 10 _ a;refine rd 9 λK hK=>?_;go_simp;refine Z0 (A _ _ u) λa1 l=>?_;refine hK.out _ _ ⟨_,l⟩ (λa=>?_);try simp only[py]
 apply tq 11 Zl a;refine ZZ WR ?_ _;have E:=v a1 l.k.pw;have B:=l;go_wp2_with(first|(go_at_call 281;refine Z0 E λa5 a2=>?_)|(go_at_call 159;refine Z0 (a3 _ _ (B.next x a2)) λa6 D=>?_;have G:=F _ _ D));go_ret;exact⟨R,G⟩
def CtC(p:Option Addr)(B:Nat)(k:Nat):Prop:=k=B\/∃q,p=S q/\k=q.block
def ge.fr{p:Option Addr}{L:List R_}(h:ge p L w)(f:Fr Q w w')(d:∀k o,CtC p B k->Q k o):ge p L w':=λi j=>by
 obtain⟨g,e,a,b⟩:=h i j;exact⟨g,e,f.cell a (λo _=>d _ o (Zj ⟨_,e,R⟩)),f.cell b (λo _=>d _ o (Zj ⟨_,e,R⟩))⟩
def LN(L:List R_)(K:L.length<=1000000)(p:Option Addr)(cap B:Nat)(T:Obj->Prop)(w:I6)(n:w.heap[B]?=S (Z #[Zq p L.length cap] 33))(d:ge p L w):It c_ 320 #[ZI B] (λc:R_=>#[Zc #[Zb c.1,I Zh (c.2:Int)]]) T (CtC p B) L w:=by
 intro l BB J a4 W z a3 P Q A H;have F:=z.same _ _ n (Zi R);have d:=d.fr (B:=B) z (λ_ _ q=>q);have c1:=(qi F).1;refine(ZY (n:=1)).1 ?_;refine callsIn_of_wp func320 rfl x_ ?_ R;simp only[ntmps320,Nat.reduceAdd,Nat.reduceSub,Zr];apply Z9.2;go_wp2;refine(Z9 (n:=1)).1 ?_;gi_loopg [7] L.length (λgk i wr=>∃k:Nat,k+gk=L.length/\i=I .i64 k/\ge p L wr/\J (L.take k) wr)
 .exact⟨0,O,R,d,H⟩
 obtain⟨k,k1,rfl,d,v⟩:=hrel;have f:=d;by_cases x:k<L.length
 .obtain⟨gg,a0,V,a1⟩:=d k x;subst a0;have D:(k:Int)<(L.length:Int):=O;have h:=Yd x;have g:L.take k++[L[k]]<+:L:=by rw[<-h];exact List.take_prefix _ _
  obtain⟨a,b,r⟩:∃a b,L[k]=(a,b):=⟨_,_,R⟩;rw[r]at V a1 h g;obtain⟨a6,tmps,y,E,a2,hR⟩:=A (L.take k) (a,b) (wr.alloc (Z #[a,I Zh b] 37)) g (P _ _ _ v (ZP.alloc _));simp only at a2 hR;have a5:a_ .i64 ((k:Int)+1)=(((k+1:Nat)):Int):=Vc;gi_wp2;apply hR.mono;rintro e W3 ⟨G,⟨rfl,j⟩|⟨rfl,o⟩⟩
  .have u:=f.fr (B:=B) (((Fr.refl _ wr).alloc (Z #[a,I Zh b] 37)).trans G) (λ_ _ q=>Zi q);have m:=j;gi_wp2;gi_roundg (gk-1)
   .exact⟨k+1,O,R,u,by rw[h];exact m⟩
   omega
  gi_wp2;apply ZS (XS R _ _ _) R;exact⟨⟨_,R⟩,Zj ⟨_,g,o⟩⟩
 have M:k=L.length:=O;have D:¬(k:Int)<(L.length:Int):=O;rw[M,XA]at v;have C:=v;gi_wp2;go_end0;exact⟨⟨_,R⟩,Zi C⟩
def LL(a:I4)(b:Nat)(w:I6):ZL 284 #[Zc #[Zb a,I Zh b]] w (I Zh b):=by unfold ZL;go_in;go_wp2;exact WM
def Jv(p:Option Addr)(k cap:Nat)(w:I6):i_ c_ 283 #[Zq p k cap] w λe w'=>e=Zd (.func (.func 320) #[] #[ZI w.heap.size])/\w'=w.alloc (Z #[Zq p k cap] 33):=by have b:=qmf;go_in;go_wp2;exact WB
def Mx{f:R_->Nat}{a L:List R_}{x:R_}(h:a++[x] <+:L):(a.map f).sum+f x<=(L.map f).sum:=by obtain⟨t,rfl⟩:=h;simp
def My(L:List R_)(p:Option Addr)(B:Nat)(w:I6)(T:It c_ 320 #[ZI B] (λc:R_=>#[Zc #[Zb c.1,I Zh (c.2:Int)]]) (λ_=>False) (CtC p B) L w)(b0:∀k,CtC p B k->k<w.heap.size)(hb:(L.map (·.2)).sum<=1000000000000000000):ZL 282 #[.func (.func 320) #[] #[ZI B],.func (.func 284) #[] #[]] w (I Zh (((L.map (·.2)).sum:Nat):Int)):=by
 obtain⟨x,i⟩:∃x:I7,x=.func (.func 284) #[] #[]:=⟨_,R⟩;rw[<-i];refine(ZY (n:=9)).1 ?_;refine callsIn_of_wp_marks func282 rfl x_ ?_ R;simp only[ntmps282,Nat.reduceAdd,Nat.reduceSub,Zr];apply Z9.2;have a4:x.oneCell'=Zk:=by rw[i];rfl
 rw[i];go_wp2;rw[<-i];obtain⟨h1,h2⟩:=x6 w (Z #[x] 328) (Z #[I Zh 0] 23);have E:Gr w ((w.alloc (Z #[x] 328)).alloc (Z #[I Zh 0] 23)):=ZN.al;have b2:((w.alloc (Z #[x] 328)).alloc (Z #[I Zh 0] 23)).heap.size=w.heap.size+2:=WU;generalize (w.alloc _).alloc _=P at h1 h2 E b2|-;refine Z9.1 (xj (n:=9) (gf:=320) (lb:=#[ZI B]) R (YC func320 WR R) T (λ_ h=>h.elim) (λk hk=>by have:=b0 k hk;omega) (p_ E) (λ_=>R)
  (λu V=>V.heap[w.heap.size]?=S (Z #[x] 328)/\V.heap[w.heap.size+1]?=S (Z #[I Zh (((u.map (·.2)).sum:Nat):Int)] 23)/\Gr w V/\P.heap.size<=V.heap.size)
  (λ_ _ _=>False)
  ?sI (λ_ _ _ _ h _=>h) ⟨h1,h2,E,Zy⟩ ?rnd ?done (λ_ _ _ _ _ _ h _=>h.elim))
 case sI=>exact λs A A' h f=>⟨f.same _ _ h.1 (Zi O),f.same _ _ h.2.1 (Zi O),u_ h.2.2.1 (f.below (n:=w) (ZR h.2.2.1) (λk o hk=>Zi O)),q7 h.2.2.2 f.size⟩
 case done=>rintro D V hD ⟨G,y,v,K⟩ hK;have c2:=(qi y).1;go_wp2;refine⟨WU,Zi ⟨_,_,R,YU hK,?_⟩⟩;exact⟨_,Wh R _ _ _,R,u_ v (XZ (w:=P) (n₀:=w) O _ D _ _ hD hK R R)⟩
 case rnd=>
  rintro l1 u ⟨a,b⟩ V a0 hx ⟨G,y,v,K⟩ hl;have a5:l1<V:=hl.elim λr hr=>(qB.1 hr).1;simp only;gi_wp2;refine⟨ZP.alloc _,?_⟩;intro d f2 b4 a6;obtain⟨G,y,v,K⟩:=b4;have a9:d.heap[V.heap.size]?=Z #[a,I Zh b] 37:=f2.same _ _ (ZQ V _) O;generalize V.heap.size=M at a9|-;have F:=Mx (f:=λc:R_=>c.2) hx;obtain⟨j,m⟩:∃n,Y (n=(u.map λc:R_=>c.2).sum):=⟨_,X R⟩;have b3:Y ((((u++[((a,b):R_)]).map λc:R_=>c.2).sum:Nat)=j+b):=X (by rw[m.a];simp);have C:=X (λW=>LL a b W);rw[<-m.a]at y F;have F:j+b<=1000000000000000000:=by simp only at F;omega
  have a7:a_ Zh ((j:Int)+b)=(j:Int)+b:=Vh;have d1:d.drew.cell? w=x:=(qi G).1;rw[i]at d1;have d2:d.drew.cell? ⟨w+1,0,N⟩=I Zh j:=(qi y).1;have d3:d.drew.frozen? ⟨w+1,0,N⟩=Zl:=(qi y).2;have x0:d.drew.cell? M=Zb a:=by rw[Zs (show d.drew.heap[M]?=_ from a9)];rfl
  have x1:d.drew.cell? ⟨M,1,N⟩=I Zh b:=by rw[Zs (show d.drew.heap[M]?=_ from a9)];rfl
  have H:Y (∀g,Gr d.drew g->(g.cell? w=S (.func (.func 284) #[] #[])/\g.cell? ⟨w+1,0,N⟩=I Zh j/\g.frozen? ⟨w+1,0,N⟩=Zl)):=λg z=>by have Q:=ZE z (show d.drew.heap[w.heap.size]?=_ from G);have a8:=ZE z (show d.drew.heap[w.heap.size+1]?=_ from y);exact⟨by rw[<-i];exact(qi Q).1,(qi a8).1,(qi a8).2⟩
  have b1:Y (∀g,Gr d.drew g->Fr (jM P.heap.size (λ_=>False) (CtC p B)) d (g.setCell ⟨w.heap.size+1,0,N⟩ (I Zh ((j:Int)+b)))/\(g.setCell ⟨w.heap.size+1,0,N⟩ (I Zh ((j:Int)+b))).heap[w.heap.size]?=S (Z #[x] 328)/\(g.setCell ⟨w.heap.size+1,0,N⟩ (I Zh ((j:Int)+b))).heap[w.heap.size+1]?=S (Z #[I Zh ((((u++[((a,b):R_)]).map λc:R_=>c.2).sum:Nat):Int)] 23)/\Gr w (g.setCell ⟨w.heap.size+1,0,N⟩ (I Zh ((j:Int)+b)))/\P.heap.size<=(g.setCell ⟨w.heap.size+1,0,N⟩ (I Zh ((j:Int)+b))).heap.size):=X λg z=>by
   have l:=o_ (q_ d).drew z;have Q:=ZE l G;have a8:=ZE l y;have fs:Fr (λk _=>k≠w.heap.size+1) g (g.setCell ⟨w+1,0,N⟩ (I Zh ((j:Int)+b))):=ZP.setCell _ (λo _ q=>q R);refine⟨Fr.trans (p_ l) (fs.mono λk o _ q=>?_),fs.same _ _ Q O,?_,(o_ v l).setCell (p:=⟨w.heap.size+1,0,N⟩) (by show w<=w.heap.size+1;omega) _,?_⟩
   .rintro rfl;obtain q|q:=q
    .have:=b0 _ q;omega
    omega
   .have:=jm (v:=I Zh ((j:Int)+b)) a8;rw[this,b3.a];simp
   have:=ZR l;simp[World.setCell];omega
  gi_wp2;gi_region_with (refine⟨x_,?_⟩;gi_at_call 284;refine((ZY.2 (C _)).inRound l1).mono ?_;rintro e wc ⟨rfl,J⟩;obtain⟨a1,a2,a3⟩:=H wc J);all_goals
   gi_wp2;exact b1 _ J
def ge.frL{p:Option Addr}{L:List R_}{bl:Nat}(x:oj bl g n base)(h:ge p L w)(j:∀q,p=S q->base<=q.block/\∃c,w.heap[q.block]?=S (Z c 37))(f:A_ bl g base w w'):ge p L w'/\∀q,p=S q->base<=q.block/\∃c,w'.heap[q.block]?=S (Z c 37):=by
 have u:=x.b1;have v:=x.b2;have m:∀q,p=S q->∀o,w.heap[q.block]?=S o->q.block≠bl/\q.block≠g/\(q.block<base\/¬TSt o):=λq e o d=>by obtain⟨a,c,k⟩:=j q e;refine⟨O,O,Zj ?_⟩;rintro⟨y,fr',rfl⟩;rw[k]at d;injection d with d;injection d with _ d _;exact w_ d WW
 refine⟨λi r=>?_,λq e=>?_⟩
 .obtain⟨l,e,a,b⟩:=h i r;exact⟨l,e,f.cell a (m ⟨l,0,N⟩ e),f.cell b (m ⟨l,0,N⟩ e)⟩
 obtain⟨a,c,k⟩:=j q e;exact⟨a,c,f.same _ _ k (m q e _ k)⟩
def Ro{p:Option Addr}{cap:Nat}{L:List R_}(h:gs base (Zq p k cap) L w):∀q,p=S q->base<=q.block/\∃c,w.heap[q.block]?=S (Z c 37):=by
 intro q d;obtain⟨e,_⟩|⟨g,b,cur,e,f,a,_⟩:=h.2
 .injection e with e _ _;rw[d]at e;cases e
 injection e with e _ _;rw[d]at e;injection e with e;rw[e];exact⟨f,cur,a⟩
def MJ(d:Nat)(s:y_):((HQ d s.z s.wh s.fc s.b (jI s.mov)).map (·.2)).sum=s.paths (d+1):=by rw[HQ,List.map_map];show((jI s.mov).map (eO d s.z s.wh s.fc s.b)).sum=_;rw[((xq s.mov).map _).sum_nat];rfl
def PT{s:y_}(e:d+1<=3){c:R_}(a:c∈HQ d s.z s.wh s.fc s.b (jI s.mov)):c.2<=1000000000000000000/\c.1.size<=5:=by obtain⟨y,_,rfl⟩:=YL.1 a;refine⟨pb O _ _ _ _,?_⟩;show(yJ y).toArray.size<=5;rw[Ya];exact wg y
def cj(a b:I4)(h:a.size+b.size<1000000)(W:I6):(k_ .add a b).run c_ W=.ok (Zb (a++b)) W:=by exact Xy W a b (q7 (Nat.le_of_lt h) WW)
def K6{bl:Nat}{s:y_}(x:oj bl g n base)(d:Nat)(hd:d+1<=3)(g7:rs.length<=1900000000000)(W:I6)(h:ux m bl g n base s rs W):i_ c_ 235 #[ZI bl,I L (d+1:Nat)] W λe j=>e=Zd (Za Zk)/\ux m bl g n base s (rs++Hq d s) j/\A_ bl g base W j:=by
 obtain⟨PA,A,hT⟩:=h.t;have h0:=h.hb;have c6:=h.ok;have hz:=jE.size A;have b5:Y (∀j,cv m bl g n base PA rs W j->i_ c_ 26 #[Zc #[.func (.func 60) #[] #[],.func (.func 61) #[] #[],I L 2,ec g n],Zc PA,I L (d+1:Nat)] j λe W2=>(∃v,e=Zd v/\gs j.heap.size v (HQ d s.z s.wh s.fc s.b (jI s.mov)) W2)/\cv m bl g n base PA rs W W2):=X λj k=>by refine(KE (Mc g n x.le) x.a2.a Ka d hd c6 A j k.w.i k.k.wt).mono ?_;rintro e W2 ⟨v,rfl,hc,hf,hm⟩;exact⟨⟨v,R,hc⟩,k.fx x hf hm⟩
 have u:=MJ d s;have c4:Y (∀c∈HQ d s.z s.wh s.fc s.b (jI s.mov),c.2<=1000000000000000000/\c.1.size<=5):=X λc hc=>PT hd hc;have f8:=pb hd s.z s.wh s.fc s.b;have f7:(HQ d s.z s.wh s.fc s.b (jI s.mov)).length<=1000000:=by unfold HQ;rw[YD,qj7];exact bu _ _ _ _
 have F:Y (Hq d s=(HQ d s.z s.wh s.fc s.b (jI s.mov)).map (λc=>c.1++xJ [32]++kt c.2)++[xJ ([115,117,109,32]++d_ (s.paths (d+1)))]):=X R;have f3:Y (∀t j,cv m bl g n base PA (rs++t) W j->ux m bl g n base s (rs++t) j/\A_ bl g base W j):=X λt j k=>⟨k.s A c6,k.f⟩;generalize Hq d s=DT at F|-;have a7:s.paths (d+1)<=1000000000000000000:=f8;generalize s.paths (d+1)=pv at u F a7;generalize HQ d s.z s.wh s.fc s.b (jI s.mov)=B at b5 u c4 f7 F;have g0:Y (∀rs' t j,rs'.length<=2000000000000->cv m bl g n base PA rs' W j->i_ c_ 159 #[ZI bl,Zb t] j λe W2=>e=Zd (Ze #[])/\cv m bl g n base PA (rs'++[t]) W W2/\A_ bl g base j W2):=X λrs' t j hl k=>(Ht x.lc t hl j k.w k.hb).mono λe W2 q=>⟨q.1,⟨q.2.1,x.fr k.k q.2.2,q7 k.hb q.2.2.size,A_.trans k.f q.2.2⟩,q.2.2⟩;have g8:((d+1:Nat):Int)=(d:Int)+1:=O;unfold ec at b5;go_in;go_upto_region 1 with fail;have g9:=hT.next x (q_ W).drew;refine ZT (S:=N3 m bl g n base PA W) WR ⟨_,g9⟩ (λl=>?_);refine tq 0 (ZI bl) l ?_;refine tq 1 (ZI bl) l ?_;refine tq 2 (.pointer (S ⟨bl,76,N⟩)) l ?_;refine ZB 3 (Zc #[.func (.func 60) #[] #[],.func (.func 61) #[] #[],I L 2,Zq (S g) n n]) R (λw hw=>by obtain⟨_,c0,c1,c2,c3⟩:=hw.ctr;unfold ec at c3;go_simp) l ?_;refine tq 4 (ZI bl) l ?_;refine tq 5 (ZI bl) l ?_;refine tq 6 (ZI bl) l ?_;refine ty 7 (Zc PA) R (r8 hz Vb _ R bl R (λ_ h=>h.rng)) l ?_;refine tq 8 (I L (d+1:Nat)) l ?_;refine rd 9 λK hK=>?_;go_simp;refine(b5.a _ g9).mono ?_;rintro e w1 ⟨⟨v,rfl,b3⟩,o⟩;obtain⟨Q,cap,rfl,g6,p⟩:=Kg b3;have r:=Ro b3;refine hK.out _ _ ⟨_,o⟩ (λl=>?_);try simp only[py]
 refine tq 10 (Zq Q B.length cap) l ?_;refine ZZ WR ?_ _;have a3:∀q,Q=S q->base<=q.block/\∃c,w1.heap[q.block]?=S (Z c 37):=λq e=>⟨q7 (q7 h0 g9.f.size) (r q e).1,(r q e).2⟩;go_wp2;go_loopg [21] B.length (λgk i wr=>∃k:Nat,k+gk=B.length/\i=I L k/\cv m bl g n base PA (rs++(B.take k).map λc=>c.1++xJ [32]++kt c.2) W wr/\ge Q B wr/\∀q,Q=S q->base<=q.block/\∃c,wr.heap[q.block]?=S (Z c 37))
 .exact⟨0,O,R,by simpa using o,p,a3⟩
 obtain⟨k,k1,rfl,o,p,r⟩:=hrel;by_cases c5:k<B.length
 .obtain⟨gg,hp,x0,x1⟩:=p k c5;have g5:(k:Int)<(B.length:Int):=O;have T:Y ((B.take (k+1)).map (λc=>c.1++xJ [32]++kt c.2)=(B.take k).map (λc=>c.1++xJ [32]++kt c.2)++[(B[k]).1++xJ [32]++kt (B[k]).2]):=X (by rw[Yd c5,Ys];rfl);obtain⟨f1,f0⟩:=c4.a B[k] (Xs c5);generalize B[k]=c at x0 x1 T f1 f0;obtain⟨a,b⟩:=c;simp only at x0 x1 T f1 f0;have E:=X o;have a0:=X p;have a6:=X r;have d0:(rs++(B.take k).map λc=>c.1++xJ [32]++kt c.2).length<=2000000000000:=by rw[qZ,YD,Xt];omega
  have G:Y (∀j,HG j->ZL 281 #[I Zh b] j (Zb (kt b))):=X λj k=>ad b O j k;have b4:(kt b).size<1000:=by have h2:=dz 18 b O;show(d_ b).toArray.size<_;rw[Ya];omega
  generalize kt b=D8 at G b4 T;have a1:∀W,(k_ .add a ⟨#[32]⟩).run c_ W=.ok (Zb (a++⟨#[32]⟩)) W:=λW=>cj a ⟨#[32]⟩ (by show a.size+1<_;omega) W;have a2:∀W,(k_ .add (a++⟨#[32]⟩) (D8)).run c_ W=.ok (Zb (a++⟨#[32]⟩++D8)) W:=λW=>cj _ _ (by rw[Yn];show a.size+1+_<_;omega) W;subst hp;go_upto_region 5 with fail;have b6:Gr wr (wr.alloc (Z #[Zb a,I Zh b] 37)):=ZN;have P:(wr.alloc (Z #[Zb a,I Zh b] 37)).heap[wr.heap.size]?=S (Z #[Zb a,I Zh b] 37):=ZQ wr _;have b0:=E.a.next x b6;obtain⟨H,M⟩:=ge.frL x a0.a a6.a (A_.of b6);have g4:base<=wr.heap.size:=E.a.hb;generalize wr.alloc (Z #[Zb a,I Zh b] 37)=w7 at P b0 H M|-;generalize wr.heap.size=B7 at P g4|-;have D:=b0.next x (q_ w7).drew;have y:w7.drew.heap[B7]?=S (Z #[Zb a,I Zh b] 37):=P;obtain⟨h4,h5⟩:=ge.frL x H M (A_.of (q_ w7).drew);refine ZT (S:=λj=>j.heap[B7]?=S (Z #[Zb a,I Zh b] 37)) WR y (λl=>?_);refine tq 0 (ZI bl) l ?_;refine tq 1 (ZI B7) l ?_;refine ZB 2 (Zb a) R (λw hw=>by have e0:w.cell? B7=S (Zb a):=(by rw[Zs hw];rfl);go_simp) l ?_;refine tq 3 (Zb (a++⟨#[32]⟩)) l ?_;refine tq 4 (.pointer (S ⟨B7,1,N⟩)) l ?_;refine ZB 5 (I Zh b) R (λw hw=>by have e0:w.cell? ⟨B7,1,N⟩=S (I Zh b):=(by rw[Zs hw];rfl);go_simp) l ?_;refine rd 6 λK hK=>?_;go_simp;refine Z0 (G.a _ D.k.pw) λw8 b7=>?_;have d4:=D.next x b7;have a8:=ZE b7 y;obtain⟨h1,a4⟩:=ge.frL x h4 h5 (A_.of b7);refine hK.out _ _ a8 λl=>?_;try simp only[py]
  refine tq 7 (Zb (a++⟨#[32]⟩++D8)) l ?_;refine rd 8 λK hK=>?_;go_simp;refine Z0 (g0.a _ _ _ d0 d4) λw9⟨d5,a9⟩=>?_;have d1:w9.heap[B7]?=S (Z #[Zb a,I Zh b] 37):=a9.same _ _ a8 ⟨UV,UU,Zj λq=>by obtain⟨c,fr,q⟩:=q;injection q with _ q _;exact w_ q WW⟩;obtain⟨h3,a5⟩:=ge.frL x h1 a4 a9;refine hK.out _ _ d1 λl=>?_;try simp only[py]
  refine ZZ WR ?_ _;have J:Y (cv m bl g n base PA (rs++(B.take (k+1)).map λc=>c.1++xJ [32]++kt c.2) W w9/\ge (S (⟨gg,0,N⟩:Addr)) B w9/\∀q,S (⟨gg,0,N⟩:Addr)=S q->base<=q.block/\∃c,w9.heap[q.block]?=S (Z c 37)):=X ⟨by rw[T.a,<-qS];exact d5,h3,a5⟩;go_wp2;go_roundg (gk-1)
  .exact⟨k+1,O,Vg,J.a⟩
  omega
 have ek:k=B.length:=O;have g5:¬(k:Int)<(B.length:Int):=O;rw[ek,XA]at o;have E:=X o;have d0:(rs++B.map λc=>c.1++xJ [32]++kt c.2).length<=2000000000000:=by rw[qZ,YD];omega
 have g1:=X (Jv Q B.length cap wr);have hB:(wr.alloc (Z #[Zq Q B.length cap] 33)).heap[wr.heap.size]?=S (Z #[Zq Q B.length cap] 33):=ZQ wr _;have f6:Gr wr (wr.alloc (Z #[Zq Q B.length cap] 33)):=ZN;have h6:=p.fr (B:=wr.heap.size) (Q:=λ_ _=>True) (p_ f6) (λ_ _ _=>x_);have f9:=X (My B Q wr.heap.size (wr.alloc (Z #[Zq Q B.length cap] 33)) (LN B f7 Q cap wr.heap.size _ _ hB h6) (λq hq=>by
  obtain rfl|⟨q',e,rfl⟩:=hq
  .simp
  obtain⟨_,c,hc⟩:=r q' e;have:=(qB.1 hc).1;simp;omega) (by rw[u];exact a7))
 rw[u]at f9;have G:=X (λj=>ad pv O j);have b4:(kt pv).size<1000:=by have h2:=dz 18 pv O;show(d_ pv).toArray.size<_;rw[Ya];omega
 have V:Y (rs++DT=(rs++B.map λc=>c.1++xJ [32]++kt c.2)++[⟨#[115,117,109,32]⟩++kt pv]):=X (by rw[F.a,qS,show(⟨#[115,117,109,32]⟩:I4)=xJ [115,117,109,32]from R,kt,F6]);have f2:Y (∀j,HG j->ZL 281 #[I Zh pv] j (Zb (kt pv))):=X λj k=>G.a j k;generalize kt pv=DB at f2 b4 V;go_wp2_with(first|(go_at_call 283;refine Z0 g1.a λw2 g2=>?_;rw[g2])|(go_at_call 282;refine Z0 f9.a λw3 f4=>?_;have d2:=X ((E.a.next x f6).next x f4))|(go_at_call 281;refine Z0 (f2.a _ d2.a.k.pw) λw4 f5=>?_;have g3:=X (d2.a.next x f5))|(go_at_call 159;refine Z0 (g0.a _ _ _ d0 g3.a) λw5⟨d3,_⟩=>?_;have J:Y (ux m bl g n base s (rs++DT) w5/\A_ bl g base W w5):=X (f3.a DT w5 (by rw[V.a];exact d3))));go_ret;exact⟨R,J.a⟩
theorem JN:∀(d:List (Nat×Nat)) (i:Nat) (a:i<d.length),(Hy d)[i*2]?=S (I L (d[i].1:Int))/\(Hy d)[i*2+1]?=S (I Zh (d[i].2:Int))
 | [],i,a=>w_ a (Yy i)
 | c::d,0,_=>⟨R,R⟩
 | c::d,i+1,a=>by
  have:=JN d i VS;have e:Hy (c::d)=I L (c.1:Int)::I Zh (c.2:Int)::Hy d:=R;have b:(i+1)*2=i*2+1+1:=O
  rw[e,b];exact this
def ElT(p:Option Addr)(L:List (Nat×Nat))(W:I6):Prop:=∀i (hi:i<L.length),∃g,p=S ⟨g,0,N⟩/\W.cell? ⟨g,i*2,N⟩=S (I .i64 (L[i].1:Int))/\W.cell? ⟨g,i*2+1,N⟩=S (I Zh (L[i].2:Int))
def Mu{L:List (Nat×Nat)}(h:Hm base v L w):∃p cap,v=Zq p L.length cap/\L.length<=maxLen/\ElT p L w/\∀q,p=S q->base<=q.block/\∃c,w.heap[q.block]?=S (Z c 335):=by
 obtain⟨rfl,l⟩|⟨g,cap,cur,rfl,n,j,x,u,o,d⟩:=h.2
 .have f:=l;exact⟨N,0,by rw[f],by rw[f];exact Nat.zero_le _,λi r=>w_ r O,λq e=>by cases e⟩
 refine⟨_,_,R,q7 x u,λi y=>⟨g,R,?_⟩,λq e=>?_⟩
 .have k:∀c,c<2->w.cell? ⟨g,i*2+c,N⟩=(Hy L)[i*2+c]?:=λc z=>by have m:i*2+c<L.length*2:=O;simp only[World.cell?];rw[j];show cur[i*2+c]?=_;rw[<-qO,<-Xi m,d]
  obtain⟨a,b⟩:=JN L i y;exact⟨(k 0 WW).trans a,(k 1 WW).trans b⟩
 injection e with e;rw[<-e];exact⟨n,cur,j⟩
structure EpW(B base:Nat)(PB:I0)(p:Option Addr)(cap:Nat)(L:List (Nat×Nat))(w:I6):Prop where
 r:w.heap[B]?=S (Z (eK PB (Zq p L.length cap)) 331)
 b:base<=B
 el:ElT p L w
 ob:∀q,p=S q->base<=q.block/\∃c,w.heap[q.block]?=S (Z c 335)
def QM{bl q:Nat}{c:I0}{t:TypeId}(x:oj bl g n base)(d:base<=q)(h:w.heap[q]?=S (Z c t))(a:t≠9)(f:A_ bl g base w w'):w'.heap[q]?=S (Z c t):=f.same _ _ h ⟨UV,UU,Zj λk=>by obtain⟨b,fr,k⟩:=k;injection k with _ k _;exact a k⟩
def EpW.frL{bl:Nat}{k:I0}{p:Option Addr}{cap:Nat}{L:List (Nat×Nat)}(x:oj bl g n base)(h:EpW B base k p cap L w)(f:A_ bl g base w w'):EpW B base k p cap L w':=by
 have l:∀q,p=S q->∃c,w.heap[q.block]?=Z c 335/\w'.heap[q.block]?=Z c 335:=λq e=>by obtain⟨a,c,d⟩:=h.ob q e;exact⟨c,d,QM x a d WW f⟩
 have d:∀i (q:Nat),p=S ⟨q,0,N⟩->w'.cell? ⟨q,i,N⟩=w.cell? ⟨q,i,N⟩:=λi q e=>by obtain⟨c,o,j⟩:=l _ e;rw[Zs o,Zs j]
 refine⟨QM x h.b h.r WW f,h.b,λi u=>?_,λq e=>?_⟩
 .obtain⟨m,e,a,b⟩:=h.el i u;exact⟨m,e,(d _ _ e).trans a,(d _ _ e).trans b⟩
 obtain⟨c,_,j⟩:=l q e;exact⟨(h.ob q e).1,c,j⟩
def Le{a:I0}(d:a.size=72)(h:W.heap[B]?=S (Z (eK a v) 331)):W.rangeAt B 0 a.toList:=λj v' b=>by
 have e:j<72:=by rw[<-d,<-ZX];exact(Z5.1 b).1
 rw[Zs h,Z2];rw[eK,Y7,d,qI e,<-qO];exact b
def Mr{x:I1}{c:Nat×Nat}(h:e8 x=S c):c.1<=3:=by
 unfold e8 at h;cases a:df 1 (g_ x [32]).1 with
 | none=>rw[a]at h;cases h
 | some d=>
  cases b:kZ 9 (g_ x [32]).2.1 with
  | none=>rw[a,b]at h;cases h
  | some k=>
   rw[a,b]at h;have e:=qP (show S (d,k)=S c from h);rw[<-e];exact(MN a).2
theorem KK:∀{a:List (I1)} {l:List (Nat×Nat)},pL a=S l->∀c∈l,c.1<=3
 | [],l,h,c,b=>by
  have:=qP (show S []=S l from h);rw[<-this]at b;cases b
 | q::a,l,h,c,b=>by
  rw[pL]at h;cases e:e8 q with
  | none=>rw[e]at h;cases h
  | some t=>
   rw[e]at h;cases d:pL a with
   | none=>rw[d]at h;cases h
   | some l'=>
    rw[d]at h;have f:=qP (show S (t::l')=S l from h);rw[<-f]at b;obtain rfl|b:=Yj.1 b
    .exact Mr e
    exact KK d c b
def Ks{t:I1}{p:pH}{g:List (Nat×Nat)}(h:U_ E_ t=S (p,g)):(∃x,xG x=S p)/\(y_.of p).ok/\∀c∈g,c.1<=3:=by
 obtain⟨j,r,e⟩:=N8 t;cases f:E_ (j++I')with
 | none=>rw[Li E_ e f]at h;cases h
 | some q=>
  rw[JP E_ e f]at h;obtain⟨l,i,d⟩:=Xp.1 h;injection d with d h3
  subst d h3;obtain⟨a,b⟩:=H3 f;exact⟨⟨_,a⟩,y_.ok_of a b,KK i⟩
def Rh{bl:Nat}{s:y_}(x:oj bl g n base)(t:I4)(q:t.size<=2000000000)(W:I6)(h:ux m bl g n base s rs W)(j:U_ E_ t.data.toList=N):i_ c_ 237 #[ZI bl,Zb t] W λe a=>vs m bl g n base s rs N e a/\A_ bl g base W a:=by
 have l:=X (HW t q m W h.k.ct.mx h.k.ct.ml h.k.ct.tab h.k.ct.homes);have i:Y (i_ c_ 285 #[Zb t] W λe w'=>(∃A:I0,A.size=73/\A.all (·.oneCell')=Zk/\e=Zd (Ze #[Zc A,Za Zl]))/\Gr W w'):=X (l.a.mono λe w' k=>by rw[j]at k;exact k);have b:Y (∀a,Gr W a->vs m bl g n base s rs N (Zd (Za Zl)) a/\A_ bl g base W a):=X λa k=>⟨⟨R,h.gr x k⟩,A_.of k⟩;show i_ _ _ _ _ λe a=>vs m bl g n base s rs N e a/\A_ bl g base W a;go_in;go_upto_region 2 with(first|(go_at_call 285;refine i.a.mono ?_;rintro e w1 ⟨⟨A,o,p,rfl⟩,d⟩)|(refine ZU R 331 _ _ R w1.heap.size A R R 331 _ Zv (by rw[o];exact Hg) (by rw[o];exact Mm.symm) p ?_));have f:=X (o_ d (((q_ w1).alloc zeroCells331 331).setRow _ Zy A));generalize (w1.alloc (Z zeroCells331 331)).setRow w1 A=r at f|-;go_wp2;go_ret;exact b _ f
def QT{bl:Nat}{s:y_}(x:oj bl g n base)(t:I4)(ht:t.size<=2000000000)(k2:rs.length<=1900000000000)(W:I6)(h:ux m bl g n base s rs W)(p:pH)(l:List (Nat×Nat))(hf:U_ E_ t.data.toList=S (p,l)):i_ c_ 237 #[ZI bl,Zb t] W λe j=>vs m bl g n base s rs (S (s,[fk (y_.of p) l])) e j/\A_ bl g base W j:=by
 have hr:=X (HW t ht m W h.k.ct.mx h.k.ct.ml h.k.ct.tab h.k.ct.homes);obtain⟨⟨xx,g9⟩,l2,g0⟩:=Ks hf;have f3:Y (i_ c_ 285 #[Zb t] W λe w'=>(∃E cap,e=Zd (Ze #[Zc (eK (jV p) (Zq E l.length cap)),Za Zk])/\l.length<=maxLen/\ElT E l w'/\∀q,E=S q->W.heap.size<=q.block/\∃c,w'.heap[q.block]?=S (Z c 335))/\Gr W w'):=X (hr.a.mono λe w' k=>by
  rw[hf]at k;obtain⟨⟨v,e1,hT⟩,kg⟩:=k;obtain⟨E,cap,rfl,f1,a4,Q⟩:=Mu hT;exact⟨⟨E,cap,e1,f1,a4,Q⟩,kg⟩)
 have y:=y_.row_of g9;have hz:(jV p).size=72:=jE.size y;have ho:(jV p).all (·.oneCell')=Zk:=qx y;obtain⟨PA,b1,hT⟩:=h.t;have h0:=h.hb;have g5:=h.ok;generalize y_.of p=A at l2 y|-;generalize jV p=H at f3 hz ho y;have f2:Y (∀d:Nat,d<=3->∀j,cv m bl g n base PA rs W j->i_ c_ 25 #[Zc #[.func (.func 60) #[] #[],.func (.func 61) #[] #[],I L 2,ec g n],Zc H,I L d] j λe W2=>e=Zd (I Zh (A.paths d:Nat))/\cv m bl g n base PA rs W W2/\A_ bl g base j W2):=X λd hd j k=>by refine Z0 (HZ (Mc g n x.le) x.a2.a Ka d hd l2 y j k.w.i k.k.wt) λW2⟨kf,hm⟩=>?_;exact⟨R,k.fx x kf hm,Fr.mono kf λk o _ q=>q.2.1⟩
 have h6:Y (∀d:Nat,d<=3->A.paths d<=1000000000000000000):=X λd hd=>pb hd A.z A.wh A.fc A.b;have h3:Y (∀u j,cv m bl g n base PA rs W j->i_ c_ 159 #[ZI bl,Zb u] j λe W2=>e=Zd (Ze #[])/\cv m bl g n base PA (rs++[u]) W W2):=X λu j k=>Pn x u O k;have a8:Y (∀u j,u=fk A l->cv m bl g n base PA (rs++[u]) W j->vs m bl g n base s rs (S (s,[fk A l])) (Zd (Za Zk)) j/\A_ bl g base W j):=X λu j e k=>by rw[e]at k;exact⟨⟨R,k.s b1 g5⟩,k.f⟩
 show i_ _ _ _ _ λe j=>vs m bl g n base s rs (S (s,[fk A l])) e j/\A_ bl g base W j;have g1:=X g0;unfold ec at f2;go_in;go_upto_region 2 with(first|(go_at_call 285;refine f3.a.mono ?_;rintro e w1 ⟨⟨E,cap,rfl,f1,a4,Q⟩,d2⟩)|(refine ZU R 331 _ _ R w1.heap.size (eK H (Zq E l.length cap)) R R 331 _ Zv Uy (by rw[vl hz];exact Mm.symm) (br ho) ?_));have d3:Gr w1 ((w1.alloc (Z zeroCells331 331)).setRow w1.heap.size (eK H (Zq E l.length cap))):=ZN.setRow _ Zy _;have g6:((w1.alloc (Z zeroCells331 331)).setRow w1.heap.size (eK H (Zq E l.length cap))).heap[w1.heap.size]?=S (Z (eK H (Zq E l.length cap)) 331):=Zt (Z7 w1 _);have b6:=(hT.next x d2).next x d3;have f7:base<=w1.heap.size:=(hT.next x d2).hb;have k5:EpW w1.heap.size base H E cap l ((w1.alloc (Z zeroCells331 331)).setRow w1.heap.size (eK H (Zq E l.length cap))):=by
  have hk:∀q,E=S q->∃c,w1.heap[q.block]?=S (Z c 335)/\((w1.alloc (Z zeroCells331 331)).setRow w1.heap.size (eK H (Zq E l.length cap))).heap[q.block]?=S (Z c 335):=λq e=>by obtain⟨_,c,hc⟩:=Q q e;exact⟨c,hc,ZE d3 hc⟩
  have f9:∀i (q:Nat),E=S ⟨q,0,N⟩->((w1.alloc (Z zeroCells331 331)).setRow w1.heap.size (eK H (Zq E l.length cap))).cell? ⟨q,i,N⟩=w1.cell? ⟨q,i,N⟩:=λi q e=>by obtain⟨c,h1,h2⟩:=hk _ e;rw[Zs h1,Zs h2]
  refine⟨g6,f7,λi hi=>?_,λq e=>?_⟩
  .obtain⟨gg,e,a,b⟩:=a4 i hi;exact⟨gg,e,(f9 _ _ e).trans a,(f9 _ _ e).trans b⟩
  obtain⟨c,_,h2⟩:=hk q e;exact⟨q7 h0 (Q q e).1,c,h2⟩
 generalize (w1.alloc (Z zeroCells331 331)).setRow w1.heap.size (eK H (Zq E l.length cap))=w2 at b6 k5|-;generalize w1.heap.size=B at k5|-;have h4:w2.cell? ⟨B,72,N⟩=S (Zq E l.length cap):=by rw[Zs k5.r,J2 hz]
 unfold maxLen at f1;have a6:=X b6;have a5:=X k5;go_wp2;go_loopg [20] l.length (λgk i wr=>∃k:Nat,k+gk=l.length/\i=I L k/\fk A (l.drop k)=fk A l/\cv m bl g n base PA rs W wr/\EpW B base H E cap l wr)
 .exact⟨0,O,R,R,a6.a,a5.a⟩
 obtain⟨k,k1,rfl,d5,l0,hE⟩:=hrel;have D:=X d5;by_cases f0:k<l.length
 .obtain⟨gg,hp,x0,x1⟩:=hE.el k f0;have h5:(k:Int)<(l.length:Int):=O;have G:Y (l.drop k=l[k]::l.drop (k+1)):=X (XP f0);have a0:=g1.a l[k] (Xs f0);generalize l[k]=c at x0 x1 G a0;obtain⟨d,nn⟩:=c;simp only at x0 x1 G a0;have g7:=X (f2.a d a0);have b0:=h6.a d a0;have c5:=X l0;have f5:=X hE;subst hp;go_upto_region 7 with fail;have d4:Gr wr (wr.alloc (Z #[I L d,I Zh nn] 335)):=ZN;have k8:(wr.alloc (Z #[I L d,I Zh nn] 335)).heap[wr.heap.size]?=S (Z #[I L d,I Zh nn] 335):=ZQ wr _;have b7:=c5.a.next x d4;have b2:=f5.a.frL x (A_.of d4);have f8:base<=wr.heap.size:=c5.a.hb;generalize wr.alloc (Z #[I L d,I Zh nn] 335)=w7 at k8 b7 b2|-;generalize wr.heap.size=B7 at k8 f8|-;have l3:=b7.next x (q_ w7).drew;have M:=b2.frL x (A_.of (q_ w7).drew);have J:w7.drew.heap[B7]?=S (Z #[I L d,I Zh nn] 335):=k8;refine ZT (S:=λj=>N3 m bl g n base PA W j/\j.heap[B]?=S (Z (eK H (Zq (S gg) l.length cap)) 331)/\j.heap[B7]?=S (Z #[I L d,I Zh nn] 335)) WR ⟨⟨_,l3⟩,M.r,J⟩ (λV=>?_);refine tq 0 (ZI bl) V ?_;refine tq 1 (ZI bl) V ?_;refine tq 2 (.pointer (S ⟨bl,76,N⟩)) V ?_;refine ZB 3 (Zc #[.func (.func 60) #[] #[],.func (.func 61) #[] #[],I L 2,Zq (S g) n n]) R (λw hw=>by obtain⟨_,c0,c1,c2,c3⟩:=hw.1.ctr;unfold ec at c3;go_simp) V ?_;refine tq 4 (ZI B) V ?_;refine ty 5 (Zc H) R (r8 hz Vb _ R B R (λ_ h=>Le hz h.2.1)) V ?_;refine tq 6 (ZI B7) V ?_;refine ZB 7 (I L d) R (λw hw=>by have e0:w.cell? B7=S (I L d):=(by rw[Zs hw.2.2];rfl);go_simp) V ?_;refine rd 8 λK hK=>?_;go_simp;refine Z0 (g7.a _ l3) λw8⟨c4,b4⟩=>?_;have b3:=M.frL x b4;have k9:=QM x f8 J WW b4;refine hK.out _ _ ⟨⟨_,c4⟩,b3.r,k9⟩ (λV=>?_);try simp only[py]
  refine tq 9 (I Zh (A.paths d:Nat)) V ?_;refine ZZ WR ?_ _;have d0:w8.cell? B7=S (I L d):=by rw[Zs k9];rfl
  have d1:w8.cell? ⟨B7,1,N⟩=S (I Zh nn):=by rw[Zs k9];rfl
  have l1:=X c4;have f4:=X b3;by_cases k4:A.paths d=nn
  .have h9:Y (fk A (l.drop (k+1))=fk A l):=X (by rw[<-D.a,G.a,fk,qI k4]);subst k4;generalize A.paths d=pv at d1 b0 G|-;go_wp2;go_roundg (gk-1)
   .exact⟨k+1,O,Vg,h9.a,l1.a,f4.a⟩
   omega
  have T:Y (((⟨#[102,97,105,108,32,68]⟩:I4)++kt d++⟨#[32]⟩)++kt (A.paths d)=fk A l):=X (by rw[<-D.a,G.a,fk,qF k4];exact eu (by simp[xJ,kt]));have g3:Lib.itoa (d:Int)=d_ d:=by unfold Lib.itoa;rw[qF O];rfl
  have g4:Y (∀j,HG j->ZL 160 #[I L d] j (Zb (kt d))):=X λj k=>(Kd (d:Int) O O j k).mono λe w' q=>⟨by rw[q.1,g3];rfl,q.2⟩;have c6:Y (∀j,HG j->ZL 281 #[I Zh (A.paths d:Nat)] j (Zb (kt (A.paths d)))):=X λj k=>ad _ O j k;have h7:(kt d).size<1000:=by have h2:=dz 18 d O;show(d_ d).toArray.size<_;rw[Ya];omega
  have h8:(kt (A.paths d)).size<1000:=by have h2:=dz 18 (A.paths d) O;show(d_ (A.paths d)).toArray.size<_;rw[Ya];omega
  have g8:¬((A.paths d:Nat):Int)=(nn:Int):=λe=>k4 O;generalize kt d=D1 at T g4 h7;generalize kt (A.paths d)=D8 at T c6 h8;generalize A.paths d=pv at d1 b0 G c6 g8 k4|-;have a1:∀W,(k_ .add ⟨#[102,97,105,108,32,68]⟩ D1).run c_ W=.ok (Zb (⟨#[102,97,105,108,32,68]⟩++D1)) W:=λW=>cj _ D1 (by show 6+D1.size<_;omega) W;have a2:∀W,(k_ .add (⟨#[102,97,105,108,32,68]⟩++D1) ⟨#[32]⟩).run c_ W=.ok (Zb (⟨#[102,97,105,108,32,68]⟩++D1++⟨#[32]⟩)) W:=λW=>cj _ _ (by rw[Yn];show 6+D1.size+1<_;omega) W;have a3:∀W,(k_ .add (⟨#[102,97,105,108,32,68]⟩++D1++⟨#[32]⟩) D8).run c_ W=.ok (Zb (⟨#[102,97,105,108,32,68]⟩++D1++⟨#[32]⟩++D8)) W:=λW=>cj _ _ (by rw[Yn,Yn];show 6+D1.size+1+D8.size<_;omega) W;go_wp2_with(first|(go_at_call 160;refine Z0 (g4.a _ l1.a.k.pw) λw9 g2=>?_;have a7:=X (l1.a.next x g2))|(go_at_call 281;refine Z0 (c6.a _ a7.a.k.pw) λk3 a9=>?_;have b5:=X (a7.a.next x a9))|(go_at_call 159;refine Z0 (h3.a _ _ b5.a) λk0 F=>?_;have P:=X (a8.a _ _ T.a F)));go_ret;exact P.a
 have h5:¬(k:Int)<(l.length:Int):=O;have T:Y ((⟨#[112,97,115,115]⟩:I4)=fk A l):=X (by rw[<-D.a,Ws O];rfl);have f6:=X l0;go_wp2_with(go_at_call 159;refine Z0 (h3.a _ _ f6.a) λk0 F=>?_;have P:=X (a8.a _ _ T.a F));go_ret;exact P.a
def QU{bl:Nat}{s:y_}(x:oj bl g n base)(t:I4)(f:t.size<=2000000000)(a:rs.length<=1900000000000)(W:I6)(h:ux m bl g n base s rs W):i_ c_ 237 #[ZI bl,Zb t] W λe b=>vs m bl g n base s rs ((U_ E_ t.data.toList).map λq=>(s,[fk (y_.of q.1) q.2])) e b/\A_ bl g base W b:=by
 cases d:U_ E_ t.data.toList with
 | none=>exact Rh x t f W h d
 | some q=>exact QT x t f a W h q.1 q.2 d
def ox(s:y_)(c:I1):Option (y_×I3):=if(c==[109,111,118,101,115])=Zk then S (s,[KY s])else if(c==[108,111,111,107])=Zk then S (s,[HD s])else N
def Mf(s:y_)(c a:I1):Option (y_×I3):=
 if(c==[102,101,110])=Zk then(Md ⟨a.toArray⟩).map λs'=>(s',[xJ [111,107]])
 else if(c==[109,111,118,101])=Zk then fd s ⟨a.toArray⟩
 else if(c==[115,104,111,114,116])=Zk then H_ s ⟨a.toArray⟩
 else if(c==[112,101,114,102,116])=Zk then(df 0 a).map λd=>(s,[kt (s.paths d)])
 else if(c==[100,105,118,105,100,101])=Zk then(df 1 a).map λd=>(s,Hq (d-1) s)
 else if(c==[99,111,109,112,97,114,101])=Zk then(df 0 a).map λd=>(s,[⟨#[115,97,109,101,32]⟩++kt (s.paths d)])
 else if(c==[101,112,100])=Zk then(U_ E_ a).map λq=>(s,[fk (y_.of q.1) q.2])
 else N
def doS(s:y_)(l:I1):Option (y_×I3):=if(g_ l [32]).2.2=Zk then Mf s (g_ l [32]).1 (g_ l [32]).2.1 else ox s (g_ l [32]).1
def vs.ret{bl:Nat}{s:y_}{r:Option (y_×I3)}{e:Ending}(h:vs m bl g n base s rs r e W):∃b,e=Zd (Za b)/\vs m bl g n base s rs r (Zd (Za b)) W:=by
 cases r with
 | none=>exact⟨Zl,h.1,R,h.2⟩
 | some q=>exact⟨Zk,h.1,R,h.2⟩
def doC{bl:Nat}{s:y_}(x:oj bl g n base)(h:ux m bl g n base s rs W){F:Nat}{args:I0}{R f:Option (y_×I3)}(hR:R=f)(p:∀a,ux m bl g n base s rs a->i_ c_ F args a λe d=>vs m bl g n base s rs f e d/\A_ bl g base a d):Y (∀a,Gr W a->i_ c_ F args a λe d=>∃b,e=Zd (Za b)/\vs m bl g n base s rs R (Zd (Za b)) d/\A_ bl g base W d):=X λa k=>by
 refine(p a (h.gr x k)).mono ?_;rintro e d ⟨l,o⟩;obtain⟨b,i,j⟩:=l.ret;exact⟨b,i,by rw[hR];exact j,A_.trans (A_.of k) o⟩
def J8{bl:Nat}{s:y_}(x:oj bl g n base)(c:I1)(d:rs.length<=1900000000000)(W:I6)(h:ux m bl g n base s rs W):i_ c_ 229 #[ZI bl,Zb ⟨c.toArray⟩] W λe k=>vs m bl g n base s rs (ox s c) e k/\A_ bl g base W k:=by
 have i:=Lv x d W h;have f:=Nb x d W h;unfold ox;cases l:c==[109,111,118,101,115]with
 | true=>
  rw[qI R];go_in;go_wp2_with(go_at_call 276;refine Z0 i λj⟨hD,b⟩=>?_;have a:vs m bl g n base s rs (S (s,[KY s])) (Zd Zk) j/\A_ bl g base W j:=⟨⟨R,hD⟩,b⟩);go_ret;exact a
 | false=>
  rw[qF WU];cases o:c==[108,111,111,107]with
  | true=>
   rw[qI R];go_in;go_wp2_with(go_at_call 277;refine Z0 f λj⟨hD,b⟩=>?_;have a:vs m bl g n base s rs (S (s,[HD s])) (Zd Zk) j/\A_ bl g base W j:=⟨⟨R,hD⟩,b⟩);go_ret;exact a
  | false=>
   rw[qF WU];have a:vs m bl g n base s rs N (Zd Zl) W/\A_ bl g base W W:=⟨⟨R,h⟩,A_.refl _ _ _ _⟩;go_in;go_wp2;go_ret;exact a
def Rj{bl:Nat}{s:y_}(x:oj bl g n base)(t:I4)(a6:t.size<=2000000000)(p:rs.length<=1900000000000)(W:I6)(h:ux m bl g n base s rs W):i_ c_ 158 #[ZI bl,Zb t] W λe j=>vs m bl g n base s rs (doS s t.data.toList) e j/\A_ bl g base W j:=by
 obtain⟨Q,a3⟩:=KF t.data.toList [32];have u:=Kf t O m W h.k.ct.mx;have f:doS s t.data.toList=if(g_ t.data.toList [32]).2.2=Zk then Mf s (g_ t.data.toList [32]).1 (g_ t.data.toList [32]).2.1 else ox s (g_ t.data.toList [32]).1:=R;generalize doS _ _=a0 at f|-;generalize g_ _ _=cu at u Q a3 f;obtain⟨c,a,b⟩:=cu;simp only at u f Q a3;have T:t.data.toList.length=t.size:=R;have v:(⟨a.toArray⟩:I4).size=a.length:=Ya;cases b with
 | false=>
  rw[qF WU]at f;have B:Y (∀j,Gr W j->i_ c_ 229 #[ZI bl,Zb ⟨c.toArray⟩] j λe r=>∃b,e=Zd (Za b)/\vs m bl g n base s rs a0 (Zd b) r/\A_ bl g base W r):=doC x h f λj k=>J8 x c p j k;go_in
  go_wp2_with(first|(go_at_call 228;refine Z0 u λw1 o=>?_)|(go_at_call 229;refine(B _ o).mono ?_;rintro e z ⟨y,rfl,hD,l⟩;have i:=YB hD l));go_ret;exact i
 | true=>
  rw[qI R]at f;unfold Mf at f;cases J:c==[102,101,110]with
  | true=>
   rw[J,qI R]at f;have C:Y (∀j,Gr W j->i_ c_ 230 #[ZI bl,Zb ⟨a.toArray⟩] j λe r=>∃b,e=Zd (Za b)/\vs m bl g n base s rs a0 (Zd b) r/\A_ bl g base W r):=doC x h f (λj k=>QS x _ (by rw[v];omega) p j k);go_in
   go_wp2_with(first|(go_at_call 228;refine Z0 u λw1 o=>?_)|(go_at_call 230;refine(C _ o).mono ?_;rintro e z ⟨y,rfl,hD,l⟩;have i:=YB hD l));go_ret;exact i
  | false=>
   rw[J,qF WU]at f;cases K:c==[109,111,118,101]with
   | true=>
    rw[K,qI R]at f;have D:Y (∀j,Gr W j->i_ c_ 231 #[ZI bl,Zb ⟨a.toArray⟩] j λe r=>∃b,e=Zd (Za b)/\vs m bl g n base s rs a0 (Zd b) r/\A_ bl g base W r):=doC x h f (λj k=>Na x _ (by rw[v];omega) p j k);go_in
    go_wp2_with(first|(go_at_call 228;refine Z0 u λw1 o=>?_)|(go_at_call 231;refine(D _ o).mono ?_;rintro e z ⟨y,rfl,hD,l⟩;have i:=YB hD l));go_ret;exact i
   | false=>
    rw[K,qF WU]at f;cases a2:c==[115,104,111,114,116]with
    | true=>
     rw[a2,qI R]at f;have E:Y (∀j,Gr W j->i_ c_ 232 #[ZI bl,Zb ⟨a.toArray⟩] j λe r=>∃b,e=Zd (Za b)/\vs m bl g n base s rs a0 (Zd b) r/\A_ bl g base W r):=doC x h f (λj k=>LZ x _ p j k);go_in
     go_wp2_with(first|(go_at_call 228;refine Z0 u λw1 o=>?_)|(go_at_call 232;refine(E _ o).mono ?_;rintro e z ⟨y,rfl,hD,l⟩;have i:=YB hD l));go_ret;exact i
    | false=>
     rw[a2,qF WU]at f;cases M:c==[112,101,114,102,116]with
     | true=>
      rw[M,qI R]at f;have F:Y (∀j,Gr W j->i_ c_ 233 #[ZI bl,Zb ⟨a.toArray⟩,I L 0,.func (.func 234) #[ZI bl] #[]] j λe r=>∃b,e=Zd (Za b)/\vs m bl g n base s rs a0 (Zd b) r/\A_ bl g base W r):=doC x h f (λj k=>rL ⟨a.toArray⟩ To 0 O 234 (by intro args w;rfl) (λd=>[kt (s.paths d)]) j k λd _ A=>Lo x d A p j k);go_in
      go_wp2_with(first|(go_at_call 228;refine Z0 u λw1 o=>?_)|(go_at_call 233;refine(F _ o).mono ?_;rintro e z ⟨y,rfl,hD,l⟩;have i:=YB hD l));go_ret;exact i
     | false=>
      rw[M,qF WU]at f;cases a4:c==[100,105,118,105,100,101]with
      | true=>
       rw[a4,qI R]at f;have G:Y (∀j,Gr W j->i_ c_ 233 #[ZI bl,Zb ⟨a.toArray⟩,I L 1,.func (.func 235) #[ZI bl] #[]] j λe r=>∃b,e=Zd (Za b)/\vs m bl g n base s rs a0 (Zd b) r/\A_ bl g base W r):=doC x h f (λj k=>rL ⟨a.toArray⟩ To 1 O 235 (by intro args w;rfl) (λd=>Hq (d-1) s) j k λd V A=>by obtain⟨q,rfl⟩:∃q,d=q+1:=⟨d-1,O⟩;exact K6 x q A p j k);go_in
       go_wp2_with(first|(go_at_call 228;refine Z0 u λw1 o=>?_)|(go_at_call 233;refine(G _ o).mono ?_;rintro e z ⟨y,rfl,hD,l⟩;have i:=YB hD l));go_ret;exact i
      | false=>
       rw[a4,qF WU]at f;cases a1:c==[99,111,109,112,97,114,101]with
       | true=>
        rw[a1,qI R]at f;have H:Y (∀j,Gr W j->i_ c_ 233 #[ZI bl,Zb ⟨a.toArray⟩,I L 0,.func (.func 236) #[ZI bl] #[]] j λe r=>∃b,e=Zd (Za b)/\vs m bl g n base s rs a0 (Zd b) r/\A_ bl g base W r):=doC x h f (λj k=>rL ⟨a.toArray⟩ To 0 O 236 (by intro args w;rfl) (λd=>[⟨#[115,97,109,101,32]⟩++kt (s.paths d)]) j k λd _ A=>KG x d A p j k);go_in
        go_wp2_with(first|(go_at_call 228;refine Z0 u λw1 o=>?_)|(go_at_call 233;refine(H _ o).mono ?_;rintro e z ⟨y,rfl,hD,l⟩;have i:=YB hD l));go_ret;exact i
       | false=>
        rw[a1,qF WU]at f;cases P:c==[101,112,100]with
        | true=>
         rw[P,qI R]at f;have a5:Y (∀j,Gr W j->i_ c_ 237 #[ZI bl,Zb ⟨a.toArray⟩] j λe r=>∃b,e=Zd (Za b)/\vs m bl g n base s rs a0 (Zd b) r/\A_ bl g base W r):=doC x h f (λj k=>QU x _ (by rw[v];omega) p j k);go_in
         go_wp2_with(first|(go_at_call 228;refine Z0 u λw1 o=>?_)|(go_at_call 237;refine(a5 _ o).mono ?_;rintro e z ⟨y,rfl,hD,l⟩;have i:=YB hD l));go_ret;exact i
        | false=>
         rw[P,qF WU]at f;have i:∀j,Gr W j->vs m bl g n base s rs a0 (Zd Zl) j/\A_ bl g base W j:=λj k=>⟨by rw[f];exact⟨R,h.gr x k⟩,A_.of k⟩;go_in;go_wp2_with(go_at_call 228;refine Z0 u λw1 o=>?_);go_ret;exact i _ o
def Hc(wn:Int)(b d:Nat)(p:FV wn=Ze #[Zc (zG b d),Za Zk])(g n:Nat)(w:I6):ZL 156 #[I L wn,Zc #[F_ g n]] w (Zc (C_ b d wn g n)):=by
 have h:∀W,ZL 35 #[wn] W (Ze #[zG b d,Zk]):=λW=>by rw[<-p];exact sJ wn W
 have u:=Rv b d wn g n;obtain⟨q,r⟩:=s6 w (Z #[F_ g n] 56) (Z #[.nilFunc,.nilFunc,I L 0,Zq N 0 0] 78);have i:Gr w ((w.alloc (Z #[F_ g n] 56)).alloc (Z #[.nilFunc,.nilFunc,I L 0,Zq N 0 0] 78)):=ZN.al;unfold ZL;go_in;go_upto_region 1 with fail;show n_ _ _ _ _ ((w.alloc (Z #[F_ g n] 56)).alloc (Z #[.nilFunc,.nilFunc,I L 0,Zq N 0 0] 78));generalize (w.alloc _).alloc _=C at q r i|-;go_upto_region 2 with(first|(go_at_call 35;refine Z0 (h _) λa k=>?_)|(refine ZU R 74 _ _ R a (zG b d) R R 74 ku Zv yU R (qxi _ _) ?_));have l:Gr a ((a.alloc (Z ku 74)).setRow a (zG b d)):=((q_ a).alloc ku 74).setRow a Zy (zG b d);have f:=o_ k l;have z:=ZE f q;have x:=ZE f r;have y:((a.alloc (Z ku 74)).setRow a (zG b d)).heap[a.heap.size]?=Z (zG b d) 74:=Zt (Z7 a _);show n_ _ _ _ _ ((a.alloc (Z ku 74)).setRow a (zG b d));have m:=o_ i f;generalize (a.alloc (Z ku 74)).setRow a (zG b d)=D at z x y m|-;generalize a.heap.size=B at y|-;go_wp2_with(first|(refine ZV R 74 _ R B R 74 (zG b d) (0,0) _ (by with_reducible exact y) underlying74 rfl yU ?_)|(refine ZV R 56 _ R w R 56 #[F_ g n] (0,0) _ (by with_reducible exact z) underlying56 rfl L8 ?_)|(go_at_call 24;refine Z0 (u _) λE j=>?_;have A:=ZE j x;have o:=o_ m j)|(refine ZU R 78 _ _ R (w+1) (C_ b d wn g n) R R 78 #[.nilFunc,.nilFunc,I L 0,Zq N 0 0] (by with_reducible exact A) Jc R (Kh _ _ _ _ _) ?_));exact ZS (v:=(C_ b d wn g n)) (Yp results156 _ _ (w+1) 78 _ (0,0) _ R (Zt A) underlying78 rfl Jc) R ⟨R,o.setRow _ O _⟩
def JL(s p:I4)(w:I6):i_ c_ 157 #[Zb s,Zb p] w λe w'=>e=Zd (.func (.func 273) #[] #[ZI (w.heap.size+1),ZI w.heap.size,ZI (w.heap.size+2)])/\w'=((w.alloc (Z #[Zb s] 9)).alloc (Z #[Zb p] 9)).alloc (Z #[I L 0] 3):=by
 have b:i_ c_ 227 #[Zb s,Zb p,I L 0] w λe w'=>e=Zd (.func (.func 273) #[] #[ZI (w.heap.size+1),ZI w.heap.size,ZI (w.heap.size+2)])/\w'=((w.alloc (Z #[Zb s] 9)).alloc (Z #[Zb p] 9)).alloc (Z #[I L 0] 3):=by
  go_in;go_wp2;go_ret;exact⟨R,R⟩
 go_in;go_wp2_with(go_at_call 227;refine Z0 b λw1 a=>?_;rw[a]);exact WB
def Me(k:Nat):I4:=⟨#[101,114,114,111,114,32]⟩++kt k
def ev(k:Nat)(q:y_×I3)(x:I4):y_×I3:=if x.data.toList=[]then q else match doS q.1 x.data.toList with
 | some (s',l)=>(s',q.2++l)
 | none=>(q.1,q.2++[Me k])
def D_:Nat->y_×List ByteArray->List ByteArray->y_×I3
 | _,q,[]=>q
 | k,q,x::r=>D_ (k+1) (ev (k+1) q x) r
theorem HU:∀(a:I3)(k:Nat)(q:y_×I3)(x:I4),D_ k q (a++[x])=ev (k+a.length+1) (D_ k q a) x
 | [],k,q,x=>rfl
 | y::a,k,q,x=>by
  show D_ (k+1) (ev (k+1) q y) (a++[x])=ev (k+(a.length+1)+1) (D_ (k+1) (ev (k+1) q y) a) x;rw[HU a,show k+(a.length+1)+1=k+1+a.length+1 from O]
def ux.frq{bl:Nat}{s:y_}{d:I6}(h:ux m bl g n base s rs W)(x:oj bl g n base)(f:Fr Q W d)(a:∀k o,(k=bl\/k=g\/¬N2 k\/(base<=k/\TSt o))->Q k o):ux m bl g n base s rs d:=by obtain⟨PA,j,b⟩:=h.w;obtain⟨v,l,p⟩:=b.c;exact⟨⟨PA,j,⟨v,f.same _ _ l (a _ _ (Zi R)),uy p λq c fr e r=>f.same _ _ e (a _ _ (Zj (Zj (Zj ⟨r,c,fr,R⟩))))⟩,x.lc.st _ _ b.i (Fr.mono f λk o _ e=>a _ _ (Zj (Zi e))),b.pz⟩,h.ok,h.k.fr f (λk o u=>a _ _ (Zj (Zj (Zi u)))),q7 h.hb f.size⟩
theorem Hb(c:UInt8):∀a:List (I1),a.length<=(f_ a [c]).length+1
 | []=>Nat.zero_le _
 | [x]=>by simp
 | x::y::r=>by
  have h:=Hb c (y::r);have e:f_ (x::y::r) [c]=x++c::f_ (y::r) [c]:=V9
  rw[e,qZ];simp only[Yq]at h|-;omega
def J6{s:I4}{a:I3}(h:Kk s a):a.length<=s.size+1:=by have b:=Hb 10 (a.map (·.data.toList));rw[h.2.2,YD]at b;simpa using b
def L0{s:I4}{d:I3}(h:Kk s d):∀x∈d,x.size<=s.size:=by
 have:∀(b:List (I1)),∀y∈b,y.length<=(f_ b [10]).length:=λb=>by
  induction b with
  | nil=>intro y a;cases a
  | cons z r ih=>
   intro y a;cases r with
   | nil=>rw[Lib.join_one];rw[qT]at a;rw[a];exact Zy
   | cons u r=>
    have e:f_ (z::u::r) [10]=z++10::f_ (u::r) [10]:=V9
    rw[e,qZ,Yq];obtain rfl|a:=Yj.1 a
    .omega
    have:=ih y a;omega
 intro x g;have f:=this (d.map (·.data.toList)) x.data.toList (YL.2 ⟨x,g,R⟩);rw[h.2.2]at f;simpa using f
def I9:I4:=⟨#[114,110,98,113,107,98,110,114,47,112,112,112,112,112,112,112,112,47,56,47,56,47,56,47,56,47,80,80,80,80,80,80,80,80,47,82,78,66,81,75,66,78,82,32,119,32,75,81,107,113,32,45,32,48,32,49]⟩
theorem PR{s g:y_}{l:I1}{r:I3}(h:doS s l=S (g,r)):r.length<=1000001:=by
 have one:∀{α:Type}{o:Option α}{f:α->y_×I3},(∀a,(f a).2.length<=1000001)->o.map f=S (g,r)->r.length<=1000001:=λ{α o f} hf e=>by obtain⟨a,_,j⟩:=Xp.1 e;have:=hf a;rw[j]at this;exact this
 have b:∀{q:y_×I3},q.2.length<=1000001->S q=S (g,r)->r.length<=1000001:=λi e=>by rw[qP e]at i;exact i
 unfold doS at h;generalize g_ _ _=cu at h;split at h
 .unfold Mf at h;split at h
  .exact one (λa=>WU) h
  split at h
  .unfold fd at h;split at h
   .split at h
    .exact b WU h
    cases h
   cases h
  split at h
  .unfold H_ at h;split at h
   .exact b WU h
   cases h
  split at h
  .exact one (λa=>WU) h
  split at h
  .refine one (λd=>?_) h;show(Hq (d-1) s).length<=_;have k:s.mov.length<=1000000:=bu _ _ _ _;unfold Hq HQ;simp only[qZ,YD,qj7,Yq,XN];omega
  split at h
  .exact one (λa=>WU) h
  split at h
  .exact one (λa=>WU) h
  cases h
 unfold ox at h;split at h
 .exact b WU h
 split at h
 .exact b WU h
 cases h
def M4(k:Nat)(q:y_×I3)(x:I4):(ev k q x).2.length<=q.2.length+1000001:=by grind[ev,PR]
theorem HK:∀(a:I3)(k:Nat)(q:y_×I3),(D_ k q a).2.length<=q.2.length+a.length*1000001
 | [],_,_=>by simp[D_]
 | x::r,k,q=>by
  have b:=HK r (k+1) (ev (k+1) q x);have d:=M4 (k+1) q x;show(D_ (k+1) (ev (k+1) q x) r).2.length<=_;rw[Yq];omega
def R4(a:List (Nat×I7)):c_.built 233 a=Instr.fill (λi=>(#[(0,72),(72,4),(76,4),(80,1)]:Array (Nat×Nat))[i]?) zeroCells233 a:=WR
def N4:zeroCells233.size=81:=WR
def Pe:zeroCells233[80]?=S (Zq N 0 0):=WR
def SZ:(c_.info? 233).map (·.size)=S 81:=WR
def Ja(a:PA.size=72)(g n:Nat)(v:I7):(CQ PA g n v).size=81:=by unfold CQ;simp[a]
def L5(h:PA.all (·.oneCell')=Zk)(g n:Nat):(CQ PA g n (Zq N 0 0)).all (·.oneCell')=Zk:=by rw[CQ,Wo,h];simp[Value.oneCell',ec]
def MU(d:I0)(e:d.size=72)(g n:Nat):c_.built 233 [(0,Zc d),(1,Zc (C_ 64 65 1 g n)),(2,Zc (C_ 60 61 2 g n))]=S (CQ d g n (Zq N 0 0)):=by
 rw[R4];have z:=N4;have z8:=Pe;obtain⟨C1,a⟩:∃C,C=C_ 64 65 1 g n:=⟨_,R⟩;obtain⟨C2,b⟩:∃C,C=C_ 60 61 2 g n:=⟨_,R⟩;have c1:C1.size=4:=by rw[a];rfl
 have c2:C2.size=4:=by rw[b];rfl
 rw[<-a,<-b];generalize zeroCells233=o at z z8|-;have f:=zo 0 d o;have p1:=zo 72 C1 (P_ 0 d o);have p2:=zo 76 C2 (P_ 72 C1 (P_ 0 d o));rw[xv _ _ 0 0 72 _ _ R (by simpa[Value.cells]using e) O,xv _ _ 1 72 4 _ _ R (by simpa[Value.cells]using c1) Vl,xv _ _ 2 76 4 _ _ R (by simpa[Value.cells]using c2) Vl];simp only[Instr.fill,Value.cells,Xh];apply YV;intro i;rw[p2.2 i O];by_cases h:i<72
 .rw[qF O,p1.2 i O,qF O,f.2 i O,qI O,H7 e g n _ h,Nat.sub_zero]
 obtain⟨k,rfl⟩:∃k,i=72+k:=⟨i-72,O⟩;rw[ny e];by_cases l:k<4
 .rw[qF O,p1.2 _ O,qI O,Nat.add_sub_cancel_left,a];rcases(by omega:k=0\/k=1\/k=2\/k=3)with rfl|rfl|rfl|rfl<;>rfl
 by_cases m:k<8
 .rw[qI O,b];rcases(by omega:k=4\/k=5\/k=6\/k=7)with rfl|rfl|rfl|rfl<;>rfl
 rw[qF O,p1.2 _ O,qF O,f.2 _ O,qF O];by_cases j:k=8
 .rw[j,z8];rfl
 rw[Z6 O,Z6 WX]
def SY(k:Nat)(f:k<=2000000)(w:I6)(b:HG w):ZL 160 #[I L k] w (Zb (kt k)):=by
 have a:Lib.itoa (k:Int)=d_ k:=by rw[Lib.itoa,qF O];rfl
 refine(Tryz.strconv_Itoa (k:Int) O O w b).mono ?_;rintro e w' ⟨rfl,d,os,rfl⟩;exact⟨by rw[a];rfl,Gr.grow w d os⟩
def Rc(w:I6)(a b c d:Obj):((((w.alloc a).alloc b).alloc c).alloc d).heap[w.heap.size]?=S a/\((((w.alloc a).alloc b).alloc c).alloc d).heap[w.heap.size+1]?=S b/\((((w.alloc a).alloc b).alloc c).alloc d).heap[w.heap.size+1+1]?=S c/\((((w.alloc a).alloc b).alloc c).alloc d).heap[w.heap.size+1+2]?=S d:=by have h:=jG (w.alloc a) b c d;rw[Z3]at h;exact⟨(YP _ _ _ WX).trans ((YP _ _ _ WX).trans ((YP _ _ _ WU).trans (ZQ w a))),h.1,h.2.1,h.2.2.1⟩
def Rg(V:I6)(D:Nat)(o':Obj)(h:∀o,V.heap[D]?=S o->¬Q D o):Fr Q V (V.putObj D o'):=⟨R,R,R,by simp[World.putObj],λk o e q=>by
 have a:D≠k:=λb=>h o (b▸e) (b▸q);simp only[World.putObj];rw[XO a];exact e⟩
def Pj{K:Act->I6->Prop}{Q:Exit->Act->I6->Prop}:∀e a w,Exit.then K (λ_ _ _=>False) e a w->Exit.then K Q e a w:=by intro e a w h;cases e<;>first|exact h|exact h.elim
def Px(t:I4)(ht:t.size<=1048576)(xs:I3)(hx:Kk t xs)(g n:Nat)(hn:n<=4096)(p:pH)(hp:xG I9=S p)(hc:xP p=Zk)(W:I6)(k:T_ m W)(hm:LC g n W)(n1:g<W.heap.size)(ag:N2 g)(d4:∀q,¬N2 q->q<W.heap.size):i_ c_ 70 #[Zc #[F_ g n],Zb t] W λe W'=>(∃v base,e=Zd v/\W.heap.size<=base/\W'.ownsRow base 9 1 v (D_ 0 (y_.of p,[]) xs).2.length ((D_ 0 (y_.of p,[]) xs).2.map Zb))/\Fr (λq _=>q<W.heap.size/\q≠g) W W':=by
 have a9:Gr W (W.alloc (Z #[F_ g n] 56)):=ZN;have M:=y_.row_of hp;have hz:(jV p).size=72:=jE.size M;have ho:(jV p).all (·.oneCell')=Zk:=qx M;have b6:Y (ZL 62 #[Zb I9] (W.alloc (Z #[F_ g n] 56)) (Ze #[Zc (jV p),Za Zk])):=X ((rY I9 WW m _ (k.gr a9).ct.mx (k.gr a9).ct.ml).mono λe w' h=>by
  obtain⟨A,ok,h1,p0,h3,h4,h5⟩:=h.1.plain;cases ok with
  | true=>
   obtain⟨p',e1,e2⟩:=h4 R;rw[hp]at e1;rw[qP e1,<-e2];exact⟨h1,h.2⟩
  | false=>rw[hp]at h5;cases h5 R)
 generalize jV p=G at b6 hz ho M;have a7:(W.alloc (Z #[F_ g n] 56)).heap[W.heap.size]?=S (Z #[F_ g n] 56):=ZQ W _;unfold I9 at b6;refine(ZY (n:=9)).1 ?_;refine callsIn_of_wp_marks func70 rfl x_ ?_ R;simp only[ntmps70,Nat.reduceAdd,Nat.reduceSub,Zr];refine Z9.2 ?_;go_upto_region 1 with fail;show n_ _ _ _ _ (W.alloc (Z #[F_ g n] 56));generalize W.alloc (Z #[F_ g n] 56)=W1 at a9 b6 a7|-;go_upto_region 2 with(first|(go_at_call 62;refine b6.a.mono ?_;rintro e w1 ⟨rfl,f9⟩)|(refine ZC w1.heap.size G Zv hz ho ?_));have d2:=o_ f9 (((q_ w1).alloc b_ 70).setRow _ Zy G);have b4:((w1.alloc (Z b_ 70)).setRow w1.heap.size G).heap[w1.heap.size]?=S (Z G 70):=Zt (Z7 w1 _);generalize (w1.alloc (Z b_ 70)).setRow w1.heap.size G=w3 at d2 b4|-;have k8:W.heap.size<w1.heap.size:=by have:=(qB.1 a7).1;have:=ZR f9;omega
 generalize w1.heap.size=B5 at b4 k8|-;have f4:=ZE d2 a7;have k3:=o_ a9 d2;have a5:=X (MU G hz g n);have f7:=X (Hc 1 64 65 rfl g n);have d0:=X (Hc 2 60 61 rfl g n);have m0:=(qB.1 b4).1;have g1:Gr w3 w3.drew:=(q_ w3).drew;have b5:w3.drew.heap[B5]?=S (Z G 70):=b4;have Q:w3.drew.heap[W.heap.size]?=S (Z #[F_ g n] 56):=f4;have hG:=o_ k3 g1;refine Code.wp_mono Pj ?_;refine ZT (S:=λW'=>W'.heap[B5]?=S (Z G 70)/\W'.heap[W.heap.size]?=S (Z #[F_ g n] 56)/\Gr W W') WR ⟨b5,Q,hG⟩ (λu=>?_);generalize w3.drew=wd at b5 Q hG g1 u|-;have k4:(c_.info? 70).map (·.size)=S G.toList.length:=by rw[ZX,hz];exact jJ
 refine ty 0 (Zc G) R (wY k4 Vb _ R B5 R (λ_ h=>h.1)) u ?_;refine ZB 1 (Zc #[F_ g n]) R (λw hw=>V0) u ?_;refine ZB 3 (Zc #[F_ g n]) R (λw hw=>V0) u ?_;have keep:Y (∀A T,(A.heap[B5]?=S (Z G 70)/\A.heap[W.heap.size]?=S (Z #[F_ g n] 56)/\Gr W A)->Gr A T->(T.heap[B5]?=S (Z G 70)/\T.heap[W.heap.size]?=S (Z #[F_ g n] 56)/\Gr W T)):=X λA T h k=>⟨ZE k h.1,ZE k h.2.1,o_ h.2.2 k⟩;have b7:∀A:I6,(A.alloc (Z zeroCells233 233)).heap[A.heap.size]?=S (Z zeroCells233 233):=λA=>ZQ A _;refine Xk (rs:=[2,6]) WR WU ?_;refine Yc R (λK hK=>?a0) (Yc R (λK hK=>?b0) Xb)
 case' a0=>
  go_simp;refine(f7.a _).mono ?_;rintro e w4 ⟨rfl,h2⟩;have z:=keep.a _ _ u h2;refine hK.out _ _ z λu=>?_;try simp only[py]
  refine Xk (rs:=[4,6]) WR WU ?_;refine Yc R (λK hK=>?a1) (Yc R (λK hK=>?b1) Xb)
 case' a1=>
  go_simp;refine(d0.a _).mono ?_;rintro e w5 ⟨rfl,h2⟩;have z:=keep.a _ _ u h2;refine hK.out _ _ z λu=>?_;try simp only[py]
  refine ty 5 (Zc (CQ G g n (Zq N 0 0))) R (BB Vb 233 #[(0,.tmp 14),(1,.tmp 16),(2,.tmp 18)] R _ Uc) u ?_;refine rd 6 λK hK=>?_;go_simp;have i:=b7 w5;have p7:B5<w5.heap.size:=(qB.1 u.1).1;refine hK.out _ _ (keep.a _ _ u ZN) λu=>?_;try simp only[py]
  generalize w5.alloc (Z zeroCells233 233)=wz at i u|-;generalize w5.heap.size=B at i p7|-
 case' b1=>
  go_simp;have i:=b7 w4;have p7:B5<w4.heap.size:=(qB.1 u.1).1;refine hK.out _ _ (keep.a _ _ u ZN) λu=>?_;try simp only[py]
  generalize w4.alloc (Z zeroCells233 233)=wz at i u|-;generalize w4.heap.size=B at i p7|-;refine rd 4 λK hK=>?_;go_simp;refine(d0.a _).mono ?_;rintro e wz ⟨rfl,h2⟩;have i:=ZE h2 i;have z:=keep.a _ _ u h2;refine hK.out _ _ z λu=>?_;try simp only[py]
  refine ty 5 (Zc (CQ G g n (Zq N 0 0))) R (BB Vb 233 #[(0,.tmp 14),(1,.tmp 16),(2,.tmp 18)] R _ Uc) u ?_
 case' b0=>
  go_simp;have i:=b7 wd;have p7:B5<wd.heap.size:=(qB.1 u.1).1;refine hK.out _ _ (keep.a _ _ u ZN) λu=>?_;try simp only[py]
  generalize wd.alloc (Z zeroCells233 233)=wz at i u|-;generalize wd.heap.size=B at i p7|-;refine rd 2 λK hK=>?_;go_simp;refine(f7.a _).mono ?_;rintro e w4 ⟨rfl,h2⟩;have i:=ZE h2 i;have z:=keep.a _ _ u h2;refine hK.out _ _ z λu=>?_;try simp only[py]
  refine rd 4 λK hK=>?_;go_simp;refine(d0.a _).mono ?_;rintro e wz ⟨rfl,h2⟩;have i:=ZE h2 i;have z:=keep.a _ _ u h2;refine hK.out _ _ z λu=>?_;try simp only[py]
  refine ty 5 (Zc (CQ G g n (Zq N 0 0))) R (BB Vb 233 #[(0,.tmp 14),(1,.tmp 16),(2,.tmp 18)] R _ Uc) u ?_
 all_goals
  refine rd 7 λK hK=>?_;rw[qI Vb];refine YQ 233 _ _ R B (CQ G g n (Zq N 0 0)) R R 233 _ i (by rw[Ja hz];exact SZ) (by rw[Ja hz];exact N4.symm) (L5 ho g n) ?_;have hL:=setRow_heap _ _ _ (CQ G g n (Zq N 0 0)) _ _ i;have c4:=u.2.2.setRow B O (CQ G g n (Zq N 0 0));refine hK.out _ _ ⟨by rw[Zu O];exact u.1,by rw[Zu O];exact u.2.1,c4⟩ (λu=>?_);try simp only[py]
  refine ZZ WR ?_ _;generalize wz.setRow B (CQ G g n (Zq N 0 0))=d at hL c4|-;have f6:=X hL;have h6:=X c4;have m6:W.heap.size<B:=O
  have l3:=X (JL t ⟨#[10]⟩);go_wp2_with(go_at_call 157;refine(l3.a _).mono ?_;rintro e wS ⟨rfl,hw⟩;rw[hw]);obtain⟨y0,y1,y2,y3⟩:=Rc d (Z #[I L 0] 3) (Z #[Zb t] 9) (Z #[Zb ⟨#[10]⟩] 9) (Z #[I L 0] 3);have g3:((((d.alloc (Z #[I L 0] 3)).alloc (Z #[Zb t] 9)).alloc (Z #[Zb ⟨#[10]⟩] 9)).alloc (Z #[I L 0] 3)).heap.size=d.heap.size+4:=WU
  have b2:Gr d ((((d.alloc (Z #[I L 0] 3)).alloc (Z #[Zb t] 9)).alloc (Z #[Zb ⟨#[10]⟩] 9)).alloc (Z #[I L 0] 3)):=ZN.al.al.al;have k9:=(qB.1 f6.a).1;have a3:=(Zz b2 k9).trans f6.a;have J:=o_ h6.a b2;generalize (((d.alloc (Z #[I L 0] 3)).alloc (Z #[Zb t] 9)).alloc (Z #[Zb ⟨#[10]⟩] 9)).alloc (Z #[I L 0] 3)=b at y0 y1 y2 y3 g3 a3 J|-;have x:oj B g n b.heap.size:=⟨O,O,O,hn,Xd λh=>w_ (d4 _ h) O,ag,λq h=>Nat.lt_trans (d4 q h) O⟩;have h9:ux m B g n b.heap.size (y_.of p) [] b:=⟨⟨G,M,⟨_,a3,R,Zi ⟨R,R⟩⟩,x.lc.st _ _ hm (p_ J),hz⟩,y_.ok_of hp hc,k.gr J,Zy⟩;have g5:Fr (λq _=>q<W.heap.size/\q≠g) W b:=p_ J;have n3:=J6 hx;have f5:=X (L0 hx);have b3:=M6 t O xs hx (d.heap.size+1) (d.heap.size+1+1) (d.heap.size+1+2) O O TSt b y1 y2 y3
  refine Z9.1 (Kv (n:=9) (gf:=273) (lb:=#[ZI (d.heap.size+1+1),ZI (d.heap.size+1),ZI (d.heap.size+1+2)]) R (YC func273 WR R) b3 (λo h=>by obtain⟨c,fr,rfl⟩:=h;rfl) (λq j=>by rcases j with rfl|rfl|rfl<;>omega) ZP (λ_=>R)
   (λy V=>ux m B g n b.heap.size (D_ 0 (y_.of p,[]) y).1 (D_ 0 (y_.of p,[]) y).2 V/\V.heap[d.heap.size]?=S (Z #[I L (y.length:Int)] 3)/\Fr (λq _=>q<W.heap.size/\q≠g) W V)
   (λ_ _ _=>False)
   ?sI (λ_ _ _ _ h _=>h) ⟨h9,y0,g5⟩ (λq e=>O) ?sD (λ_ _ _ _ h _=>h) ?rnd ?done (λ_ _ _ _ _ _ h _=>h.elim))
  case sI=>
   rintro s A T ⟨h1,p0,h3⟩ f;refine⟨h1.frq x f λq o j=>?_,f.same _ _ p0 (Zi O),Fr.trans h3 (Fr.mono f λq o _ j=>Zi O)⟩;obtain rfl|rfl|j|j:=j
   .exact Zi O
   .exact Zi O
   .exact Zi (x.lo _ j)
   exact Zj j.2
  case sD=>
   rintro s A T ⟨h1,p0,h3⟩ f;refine⟨h1.frq x f λq o j=>?_,f.same _ _ p0 O,Fr.trans h3 (Fr.mono f λq o _ j=>O)⟩;obtain rfl|rfl|j|j:=j
   .omega
   .omega
   .have:=d4 _ j;omega
   have:=j.1;omega
  case done=>
   rintro D V hD ⟨hS,hN,hF⟩ hK;obtain⟨PA,r1,r2⟩:=hS.w;obtain⟨v,h3,h4⟩:=r2.c;have c8:=L4 r2.pz h3 8;have c8:V.cell? ⟨B,80,N⟩=S v:=c8;have E:Y (∀o',(∃v' base,Zd v=Zd v'/\W.heap.size<=base/\(V.putObj D o').ownsRow base 9 1 v' (D_ 0 (y_.of p,[]) xs).2.length ((D_ 0 (y_.of p,[]) xs).2.map Zb))/\Fr (λq _=>q<W.heap.size/\q≠g) W (V.putObj D o')):=X λo'=>⟨⟨v,b.heap.size,R,O,uy h4 λq c fr e j=>(Xw (λe2=>by rw[e2,hK]at e;cases e)).trans e⟩,Fr.trans hF (Rg V D o' λo e q=>O)⟩;go_wp2;refine⟨WU,Zi ⟨_,_,R,YU hK,?_⟩⟩;refine⟨_,Wh R _ _ _,?_⟩;exact E.a _
  case rnd=>
   rintro l1 y a V a5 g4 ⟨hS,hN,hF⟩ hl;simp only;gi_wp2;refine⟨ZP,?_⟩;intro n5 f2 l4 l5;obtain⟨c6,c5,g6⟩:=l4;have m1:y.length+1<=xs.length:=(by have:=g4.length_le;simpa using this);have n2:=f5.a a (g4.subset WU);have d5:=HK y 0 (y_.of p,[]);have f0:Y (D_ 0 (y_.of p,[]) (y++[a])=ev (y.length+1) (D_ 0 (y_.of p,[]) y) a):=X (by rw[HU,Z2]);have g2:Y ((((y++[a]).length:Nat):Int)=(y.length:Int)+1):=X WU;generalize y.length=r at c5 m1 d5 f0 g2;obtain⟨st,F⟩:∃st,st=D_ 0 (y_.of p,[]) y:=⟨_,R⟩;rw[<-F]at c6 d5 f0;obtain⟨n7,rs⟩:=st;simp only at c6 d5
   have l2:rs.length<=1900000000000:=by
    have:r*1000001<=1048577*1000001:=XT _ O;simp at d5;omega
   obtain⟨c1,c2⟩:=qi c5;have n4:a_ L ((r:Int)+1)=(r:Int)+1:=Vc
   have fs:Fr (λq _=>q≠d.heap.size) n5 (n5.setCell d.heap.size (I L ((r:Int)+1))):=ZP.setCell _ (λo _ q=>q R)
   have k0:ux m B g n b.heap.size n7 rs (n5.setCell d.heap.size (I L ((r:Int)+1))):=c6.frq x fs λq o j=>by
    obtain rfl|rfl|j|j:=j
    .omega
    .omega
    .have:=d4 _ j;omega
    have:=j.1;omega
   have h7:=jm (v:=I L ((r:Int)+1)) c5;have g7:Fr (λq _=>q<W.heap.size/\q≠g) W (n5.setCell d.heap.size (I L ((r:Int)+1))):=Fr.trans g6 (Fr.mono fs λq o _ j=>O)
   have h8:Fr (jM b.heap.size TSt (λq=>q=d.heap.size+1\/q=d.heap.size+1+1\/q=d.heap.size+1+2)) n5 (n5.setCell d.heap.size (I L ((r:Int)+1))):=Fr.mono fs λq o _ j=>by
    obtain j|j:=j
    .omega
    have:=j.1;omega
   have a2:Y (∀A T,A_ B g b.heap.size A T->A.heap[d.heap.size]?=S (Z #[I L ((r:Int)+1)] 3)/\Fr (λq _=>q<W.heap.size/\q≠g) W A/\Fr (jM b.heap.size TSt (λq=>q=d.heap.size+1\/q=d.heap.size+1+1\/q=d.heap.size+1+2)) n5 A->T.heap[d.heap.size]?=S (Z #[I L ((r:Int)+1)] 3)/\Fr (λq _=>q<W.heap.size/\q≠g) W T/\Fr (jM b.heap.size TSt (λq=>q=d.heap.size+1\/q=d.heap.size+1+1\/q=d.heap.size+1+2)) n5 T):=X λA T f h=>by
    refine⟨f.same _ _ h.1 ⟨O,O,Zi O⟩,Fr.trans h.2.1 (Fr.mono f λq o _ j=>⟨O,j.2,Zi O⟩),Fr.trans h.2.2 (Fr.mono f λq o _ j=>?_)⟩;obtain j|j:=j
    .exact⟨O,O,Zi O⟩
    have:=j.1;exact⟨O,O,Zj j.2⟩
   have H:Y (∀A f1,(f1=ev (r+1) (n7,rs) a)->ux m B g n b.heap.size f1.1 f1.2 A->(A.heap[d.heap.size]?=S (Z #[I L ((r:Int)+1)] 3)/\Fr (λq _=>q<W.heap.size/\q≠g) W A/\Fr (jM b.heap.size TSt (λq=>q=d.heap.size+1\/q=d.heap.size+1+1\/q=d.heap.size+1+2)) n5 A)->Fr (jM b.heap.size TSt (λq=>q=d.heap.size+1\/q=d.heap.size+1+1\/q=d.heap.size+1+2)) n5 A/\ux m B g n b.heap.size (D_ 0 (y_.of p,[]) (y++[a])).1 (D_ 0 (y_.of p,[]) (y++[a])).2 A/\A.heap[d.heap.size]?=S (Z #[I L ((y++[a]).length:Nat)] 3)/\Fr (λq _=>q<W.heap.size/\q≠g) W A):=X λA f1 e h1 p0=>by
    rw[e]at h1;rw[f0.a,g2.a];exact⟨p0.2.2,h1,p0.1,p0.2.1⟩
   have P:=X (YB h7 (YB g7 h8));have r3:=X k0;by_cases he:a.data.toList=[]
   .have F:Y ((n7,rs)=ev (r+1) (n7,rs) a):=X (by rw[ev,qI he]);have d3:a=⟨#[]⟩:=eu he;have E:=X (H.a _ _ F.a r3.a P.a);subst d3;gi_wp2;refine⟨x_,?_⟩;gi_wp2;exact E.a
   obtain⟨b0,l0,a6⟩:=XI he;have d3:a=⟨(b0::l0).toArray⟩:=eu (by rw[a6]);have d1:=X (Rj x a O l2 _ r3.a);cases p8:doS n7 a.data.toList with
   | some q=>
    obtain⟨s',l⟩:=q;have F:Y ((s',rs++l)=ev (r+1) (n7,rs) a):=X VQ;have f8:Y (i_ c_ 158 #[ZI B,Zb a] (n5.setCell d.heap.size (I L ((r:Int)+1))) λe W2=>e=Zd (Za Zk)/\ux m B g n b.heap.size s' (rs++l) W2/\A_ B g b.heap.size (n5.setCell d.heap.size (I L ((r:Int)+1))) W2):=X (d1.a.mono λe W2 h=>by rw[p8]at h;exact⟨h.1.1,h.1.2,h.2⟩);have a8:Y (∀A,ux m B g n b.heap.size s' (rs++l) A->A_ B g b.heap.size (n5.setCell d.heap.size (I L ((r:Int)+1))) A->_):=X λA h1 p0=>H.a A _ F.a h1 (a2.a _ _ p0 P.a);subst d3;gi_wp2_with (refine⟨x_,?_⟩;gi_at_call 158;refine((ZY.2 f8.a).inRound l1).mono ?_;rintro e W5 ⟨rfl,a4,r0⟩;have E:=X (a8.a _ a4 r0));exact E.a
   | none=>
    have F:Y ((n7,rs++[Me (r+1)])=ev (r+1) (n7,rs) a):=X VQ;have f8:Y (i_ c_ 158 #[ZI B,Zb a] (n5.setCell d.heap.size (I L ((r:Int)+1))) λe W2=>e=Zd (Za Zl)/\ux m B g n b.heap.size n7 rs W2/\W2.cell? d.heap.size=S (I L ((r:Int)+1))/\A_ B g b.heap.size (n5.setCell d.heap.size (I L ((r:Int)+1))) W2):=X (d1.a.mono λe W2 h=>by rw[p8]at h;exact⟨h.1.1,h.1.2,(qi (a2.a _ _ h.2 P.a).1).1,h.2⟩)
    have k5:Y (∀W',HG W'->ZL 160 #[I L ((r:Int)+1)] W' (Zb (kt (r+1)))):=X λW' k=>by
     rw[show((r:Int)+1)=((r+1:Nat):Int) from O];exact SY (r+1) O W' k
    have m2:(kt (r+1)).size<1000:=by
     have p0:=dz 18 (r+1) O;show(d_ (r+1)).toArray.size<_;rw[Ya];omega
    have a8:Y (∀A,ux m B g n b.heap.size n7 (rs++[Me (r+1)]) A->A_ B g b.heap.size (n5.setCell d.heap.size (I L ((r:Int)+1))) A->_):=X λA h1 p0=>H.a A _ F.a h1 (a2.a _ _ p0 P.a);unfold Me at a8;generalize kt (r+1)=D1 at k5 m2 a8;have a1:∀W,(k_ .add ⟨#[101,114,114,111,114,32]⟩ D1).run c_ W=.ok (Zb (⟨#[101,114,114,111,114,32]⟩++D1)) W:=λW=>cj _ D1 (by show 6+D1.size<_;omega) W;subst d3
    gi_wp2_with (first|(refine⟨x_,?_⟩;gi_at_call 158;refine((ZY.2 f8.a).inRound l1).mono ?_;rintro e W5 ⟨rfl,a4,n0,r0⟩;have f3:=X a4;have g8:=X r0)|(refine⟨x_,?_⟩;gi_at_call 160;refine((ZY.2 (k5.a _ f3.a.k.pw)).inRound l1).mono ?_;rintro e W6 ⟨rfl,g0⟩;have k1:=X (f3.a.gr x g0);have g9:=X (A_.trans g8.a (A_.of g0)))|(refine⟨x_,?_⟩;gi_at_call 159;refine((ZY.2 (LP x _ O _ k1.a)).inRound l1).mono ?_;rintro e W7 ⟨rfl,k2,h0⟩;have E:=X (a8.a _ k2 (A_.trans g9.a h0))))
    exact E.a
def Jz(t:I4)(L:t.size<=1048576)(b:I3)(G:Kk t b)(n:Nat)(C:n<=4096)(p:pH)(F:xG I9=p)(E:xP p=Zk)(W:I6)(k:T_ m W)(d:∀q,¬N2 q->q<W.heap.size):i_ c_ 39 #[I .i64 n,t] W λe i=>(∃v base,e=Ze #[v,I .i64 0]/\W.heap.size<=base/\i.ownsRow base 9 1 v (D_ 0 (y_.of p,[]) b).2.length ((D_ 0 (y_.of p,[]) b).2.map Zb))/\Gr W i:=by
 have x:=NW n C W k.wt;have a:∀w1 r g,Pb r g n w1->W.heap.size<=g->Gr W w1->i_ c_ 70 #[Zc #[F_ g n],t] w1 λe i=>(∃v base,e=Zd v/\W.heap.size<=base/\i.ownsRow base 9 1 v (D_ 0 (y_.of p,[]) b).2.length ((D_ 0 (y_.of p,[]) b).2.map Zb))/\Gr W i:=λw1 r g l M j=>by
  have B:g<w1.heap.size:=by obtain⟨Q,fr,J⟩:=(Mc g n C).ob _ l.m;exact(qB.1 J).1
  have f:=ZR j;refine(Px t L b G g n C p F E w1 (k.gr j) l.m B (Xd λh=>w_ (d _ h) O) (λq h=>qN (d q h) f)).mono ?_;rintro e i ⟨⟨v,base,rfl,z,y⟩,P⟩;exact⟨⟨v,base,R,q7 f z,y⟩,u_ j (P.below (n:=W) f (λq o T=>⟨O,O⟩))⟩
 unfold F_ at a;go_in;go_wp2_with(first|(go_at_call 9;apply x.mono;rintro e w1 ⟨⟨r,g,rfl,l,K,A⟩,j⟩;have c2:w1.cell? ⟨r,2,N⟩=Zq (S ⟨g,0,N⟩) n n:=(by rw[Zs l.c];rfl);have D:=a w1 r g l A j)|(go_at_call 70;apply D.mono;rintro e H ⟨⟨v,base,rfl,z,y⟩,u⟩;have w:(∃v' base,Zd (Ze #[v,I .i64 0])=Zd (Ze #[v',I .i64 0])/\W.heap.size<=base/\H.ownsRow base 9 1 v' (D_ 0 (y_.of p,[]) b).2.length ((D_ 0 (y_.of p,[]) b).2.map Zb))/\Gr W H:=⟨⟨v,base,R,z,y⟩,u⟩));go_ret2;exact w
def Kr(t:I4)(n:Int)(b:n<0\/4096<n)(W:I6):i_ c_ 39 #[n,t] W λe f=>e=Ze #[Zq N 0 0,I L 7]/\f=W:=by have a:=NV n b W;go_in;go_wp2_with(go_at_call 9;refine Z0 a λw1 d=>?_;rw[d]);exact MW
def LO{s:y_}(i:s.row PA)(a:s.ok)(w:I6):ZL 73 #[PA] w (xJ s.text):=by
 obtain⟨p,n,f,d⟩:=fV a;obtain⟨c0,c1,c2,c3⟩:=t7 f;have l:p.half=s.h:=by rw[<-d];rfl
 have m:p.full=s.g:=by rw[<-d];rfl
 have j:=Ok.b0 a;have k:=Ok.b1 a;exact Mw i O ⟨O,O⟩ ⟨O,O⟩ w
def TU{s:y_}(o:s.ok)(d:Nat)(B:d+1<=3)(w:I6):i_ c_ 167 #[xJ s.text,I L (d+1:Nat),I L 1] w λe w'=>(∃j cap,e=Ze #[Zq j (HQ d s.z s.wh s.fc s.b (jI s.mov)).length cap,I L 0]/\ge j (HQ d s.z s.wh s.fc s.b (jI s.mov)) w')/\Gr w w':=by
 obtain⟨p,l,r,u⟩:=fV o;refine(KB (xJ s.text) (y_.short o) _ _ w).mono ?_;rintro e w' ⟨h,y⟩;refine⟨?_,y⟩;obtain⟨k,g,_⟩|⟨q,_,_,n,_⟩|⟨q,_,_,_,n,_⟩|⟨q,v,mm,i,_,A,_,_,rfl,x⟩:=h
 .exfalso;obtain g|g:=g
  .exact w_ g.2 (by rw[l];simp)
  obtain⟨_,q,a,b⟩:=g;rw[l]at a;rw[<-qP a,r]at b;cases b
 .exact w_ ⟨O,O⟩ n
 .exact w_ (Zi R) n
 rw[l]at i;have i:=qP i;subst i;obtain rfl:mm=d:=O;have f:gs w v (HQ mm (y_.of p).z (y_.of p).wh (y_.of p).fc (y_.of p).b (jI (y_.of p).mov)) w':=x;rw[u]at f;obtain⟨j,cap,rfl,_,m⟩:=Kg f;exact⟨j,cap,R,m⟩
def KV{a:Nat}{d:List I7}(h:W.ownsRow base 9 1 v k d)(f:a<=base):W.ownsRow a 9 1 v k d:=by
 refine⟨h.1,?_⟩;obtain e|⟨q,cap,cur,i,g,b⟩:=h.2
 .exact Zi e
 exact Zj ⟨q,cap,cur,i,q7 f g,b⟩
def H4{e:List I7}(h:W.ownsRow base 9 1 v k e):∀q,v.ownBlock=S q->base<=q:=by exact O9
def J9{s:y_}(A:s.row PA)(ho:s.ok)(d:Nat)(hd:d+1<=3)(w:I6):i_ c_ 164 #[Zc PA,I L (d+1:Nat)] w λe w'=>(∃v,e=Zd v/\w'.ownsRow w.heap.size 9 1 v (Hq d s).length ((Hq d s).map Zb))/\Gr w w':=by
 have g8:(c_.info? 9).map (λi=>(i.zero,i.size,i.bytes))=S (S (Zb ⟨#[]⟩),1,16):=WR;obtain⟨i0,hi,f0,f1,f2⟩:=We g8;have d2:=X hi;clear hi g8;have hz:=jE.size A;have f9:=qx A;have b3:=X (λW=>LO A ho W);have P:=X (λW=>TU ho d hd W);have r:=MJ d s;have f6:s.paths (d+1)<=1000000000000000000:=pb hd s.z s.wh s.fc s.b;have b0:Y (∀c∈HQ d s.z s.wh s.fc s.b (jI s.mov),c.2<=1000000000000000000/\c.1.size<=5):=X λc hc=>PT hd hc;have f5:(HQ d s.z s.wh s.fc s.b (jI s.mov)).length<=1000000:=by unfold HQ;rw[YD,qj7];exact bu _ _ _ _
 have B:Y (Hq d s=(HQ d s.z s.wh s.fc s.b (jI s.mov)).map (λc=>c.1++xJ [32]++kt c.2)++[⟨#[115,117,109,32]⟩++kt (s.paths (d+1))]):=X (by unfold Hq;rw[show(⟨#[115,117,109,32]⟩:I4)=xJ [115,117,109,32]from R,kt,F6]);generalize HQ d s.z s.wh s.fc s.b (jI s.mov)=g1 at P r b0 f5 B;generalize s.paths (d+1)=M at r f6 B;generalize Hq d s=DT at B|-;generalize xJ s.text=T at b3 P;have a5:(w.alloc (Z PA 70)).heap[w.heap.size]?=S (Z PA 70):=ZQ w _;have a7:Gr w (w.alloc (Z PA 70)):=ZN;clear A ho;go_in;go_upto_region 2 with fail;show n_ _ _ _ _ (w.alloc (Z PA 70));generalize w.alloc (Z PA 70)=w1 at a5 a7|-;go_upto_region 3 with(first|(refine ZD w.heap.size PA a5 hz ?_)|(go_at_call 73;refine Z0 (b3.a _) λw2 c4=>?_)|(go_at_call 167;refine(P.a _).mono ?_;rintro e J ⟨⟨pp,cap,rfl,b7⟩,c5⟩));have hG:=o_ a7 (o_ c4 c5);have f7:=ZR hG;clear a7 c4 c5 a5 b3 P;have g7:=X b7;clear b7;go_wp2;go_loopg [5,8,9] g1.length (λgk ov sv iv wr=>∃(k:Nat)(v:I7),k+gk=g1.length/\iv=I L k/\ov=v/\sv=I Zh ((((g1.take k).map (·.2)).sum:Nat):Int)/\wr.ownsRow J.heap.size 9 1 v k (((g1.take k).map λc=>c.1++xJ [32]++kt c.2).map Zb)/\Gr J wr)
 case atStart=>exact⟨0,Zq N 0 0,O,R,R,WU,⟨R,Zi ⟨R,R⟩⟩,ZO⟩
 case round=>
  obtain⟨k,v,k1,rfl,rfl,rfl,p,a9⟩:=hrel;have b1:(((g1.take k).map λc=>c.1++xJ [32]++kt c.2).map Zb).length=k:=WX;by_cases Q:k<g1.length
  .obtain⟨V,hp,x0,x1⟩:=g7.a k Q;have f4:(k:Int)<(g1.length:Int):=O;have f8:0<=(k:Int):=O;have H:Y ((g1.take (k+1)).map (λc=>c.1++xJ [32]++kt c.2)=(g1.take k).map (λc=>c.1++xJ [32]++kt c.2)++[(g1[k]).1++xJ [32]++kt (g1[k]).2]):=X (by rw[Yd Q,Ys];rfl);have g3:((g1.take (k+1)).map (·.2)).sum=((g1.take k).map (·.2)).sum+(g1[k]).2:=(by rw[Yd Q,Ys,List.sum_append];simp);have d5:((g1.take (k+1)).map (·.2)).sum<=M:=by
    rw[<-r];conv=>rhs;rw[<-XQ (k+1) g1]
    rw[Ys,List.sum_append];omega
   obtain⟨b5,b4⟩:=b0.a g1[k] (Xs Q);generalize g1[k]=c at x0 x1 H b5 b4 g3;obtain⟨a,b⟩:=c;simp only at x0 x1 H b5 b4 g3;rw[g3]at d5;have a4:=X g3;clear g3;generalize ((g1.take k).map (·.2)).sum=sm at d5 a4|-;have b6:Y (∀n,Gr J n->n.cell? ⟨V,k*2,N⟩=S (Zb a)):=X λn q=>(ZW q (Zx x0)).trans x0;have g6:Y (∀n,Gr J n->n.cell? ⟨V,k*2+1,N⟩=S (I Zh b)):=X λn q=>(ZW q (Zx x1)).trans x1;have D:Y (∀n,ZL 75 #[I Zh b] n (Zb (kt b))):=X λn=>dM b O n;have a6:(kt b).size<1000:=(by have h2:=dz 18 b O;show(d_ b).toArray.size<_;rw[Ya];omega);generalize kt b=D8 at D a6 H;have a1:∀W,(k_ .add a ⟨#[32]⟩).run c_ W=.ok (Zb (a++⟨#[32]⟩)) W:=λW=>cj a ⟨#[32]⟩ (by show a.size+1<_;omega) W;have a2:∀W,(k_ .add (a++⟨#[32]⟩) (D8)).run c_ W=.ok (Zb (a++⟨#[32]⟩++D8)) W:=λW=>cj _ _ (by rw[Yn];show a.size+1+_<_;omega) W;have g0:a_ Zh ((sm:Int)+b)=((sm+b:Nat):Int):=Vh;subst hp;have a8:Gr J wr.drew:=o_ a9 (q_ wr).drew;have x:wr.drew.ownsRow J.heap.size 9 1 u5 k (((g1.take k).map λc=>c.1++xJ [32]++kt c.2).map Zb):=p;have a3:Y (((g1.take (k+1)).map λc=>c.1++xJ [32]++kt c.2).map Zb=((g1.take k).map λc=>c.1++xJ [32]++kt c.2).map Zb++[Zb (a++⟨#[32]⟩++D8)]):=X (by rw[H.a,Ys];rfl);clear H;generalize ((g1.take k).map λc=>c.1++xJ [32]++kt c.2).map Zb=RS at x b1 a3;clear p x0 x1;go_upto_region 7 with fail;refine ZT (S:=λn=>Gr J n) WR a8 (λo=>?_);refine tq 0 u5 o ?_;refine tq 1 (Zq (S V) g1.length cap) o ?_;refine tq 2 (I L k) o ?_;refine tq 3 (.pointer (S ⟨V,k*2,N⟩)) o ?_;refine tq 4 (.pointer (S ⟨V,k*2,N⟩)) o ?_;refine ZB 5 (Zb a) R (λw hw=>by have e0:=b6.a w hw;go_simp) o ?_;refine tq 6 (Zb (a++⟨#[32]⟩)) o ?_;refine tq 7 (Zq (S V) g1.length cap) o ?_;refine tq 8 (I L k) o ?_;refine tq 9 (.pointer (S ⟨V,k*2,N⟩)) o ?_;refine tq 10 (.pointer (S ⟨V,k*2+1,N⟩)) o ?_;refine ZB 11 (I Zh b) R (λw hw=>by have e0:=g6.a w hw;go_simp) o ?_;refine rd 12 λK hK=>?_;go_simp;refine Z0 (D.a _) λg2 u=>?_;have m:=o_ a8 u;have F:=uy x λq c fr e _=>(ZE u e);refine hK.out _ _ m λo=>?_;clear hK K;try simp only[py]
   refine tq 13 (Zb (a++⟨#[32]⟩++D8)) o ?_;refine rd 14 λK hK=>?_;go_simp;have f:=o_ m ((q_ g2).alloc #[Zb (a++⟨#[32]⟩++D8)] 9);have h:=F.alloc (Z #[Zb (a++⟨#[32]⟩++D8)] 9);have g4:∀j u',[Zb (a++⟨#[32]⟩++D8)][j]?=S u'->(g2.alloc (Z #[Zb (a++⟨#[32]⟩++D8)] 9)).cell? ((⟨g2.heap.size,0,N⟩:Addr).add j)=S u':=Wp _ _ _;refine hK.out _ _ f λo=>?_;clear hK K;try simp only[py]
   refine rd 15 λK hK=>?_;rw[qI Vb];refine wp_append_own _ (.tmp 23) (.tmp 37) 43 rfl J.heap.size 9 i0 (Zb ⟨#[]⟩) 1 16 underlying43 d2.a f0 f1 f2 R WW u5 k RS R h ⟨g2.heap.size,0,N⟩ 1 1 [Zb (a++⟨#[32]⟩++D8)] R R g4 Vi Vk O (ZR f) ?_;intro v' w7 l g _;have y:Gr J w7:=Below.grown f g (ZR f) (H4 h);refine hK.out _ _ y λo=>?_;clear hK K;try simp only[py]
   refine tq 16 v' o ?_;refine ZZ WR ?_ _;have E:Y (w7.ownsRow J.heap.size 9 1 v' (k+1) (((g1.take (k+1)).map λc=>c.1++xJ [32]++kt c.2).map Zb)):=X (by rw[a3.a];exact l);have y1:=g6.a w7 y;have d1:=X y;clear o l g y f h F m u g4 a8 x;go_wp2;go_roundg (gk-1)
   case measure=>omega
   case rel=>exact⟨k+1,v',O,Vg,R,by rw[a4.a,Int.natCast_add],E.a,d1.a⟩
  .have ek:k=g1.length:=O;have f4:¬(k:Int)<(g1.length:Int):=O;have d4:((g1.take k).map (·.2)).sum=M:=(by rw[ek,XA,r]);rw[d4];have D:Y (∀n,ZL 75 #[I Zh M] n (Zb (kt M))):=X λn=>dM M O n;have a6:(kt M).size<1000:=(by have h2:=dz 18 M O;show(d_ M).toArray.size<_;rw[Ya];omega);have g5:Y (DT.length=k+1/\DT.map Zb=((g1.take k).map λc=>c.1++xJ [32]++kt c.2).map Zb++[Zb (⟨#[115,117,109,32]⟩++kt M)]):=X (by
    rw[ek,XA,B.a];exact⟨WU,by rw[Ys];rfl⟩)
   generalize kt M=D8 at D a6 g5;generalize ((g1.take k).map λc=>c.1++xJ [32]++kt c.2).map Zb=RS at p b1 g5;have a1:∀W,(k_ .add ⟨#[115,117,109,32]⟩ D8).run c_ W=.ok (Zb (⟨#[115,117,109,32]⟩++D8)) W:=λW=>cj _ D8 (by show 4+D8.size<_;omega) W;have b2:=X p;have c6:=X a9;have f3:=X hG;clear p a9 B d4 g7 r b0 hG;go_wp2_with(first|(go_at_call 75;refine Z0 (D.a _) λg2 u=>?_;have m:=o_ c6.a u;have f:=o_ m ((q_ g2).alloc #[Zb (⟨#[115,117,109,32]⟩++D8)] 9);have h:=(uy b2.a λq c fr e _=>(ZE u e)).alloc (Z #[Zb (⟨#[115,117,109,32]⟩++D8)] 9);have g4:∀j u',[Zb (⟨#[115,117,109,32]⟩++D8)][j]?=S u'->(g2.alloc (Z #[Zb (⟨#[115,117,109,32]⟩++D8)] 9)).cell? ((⟨g2.heap.size,0,N⟩:Addr).add j)=S u':=Wp _ _ _;have G:=X h;have d0:=X f;have a0:=ZR f;clear h f m u)|(at_builtin;refine Xv _ R (.tmp 46) (.tmp 50) 43 rfl J.heap.size 9 i0 (Zb ⟨#[]⟩) 1 16 underlying43 d2.a f0 f1 f2 R WW u5 k RS R G.a ⟨g2.heap.size,0,N⟩ 1 1 [Zb (⟨#[115,117,109,32]⟩++D8)] R R g4 Vi Vk O a0 ?_;intro v' w7 l g d3;have E:Y ((∃v,Zd v'=Zd v/\w7.ownsRow w.heap.size 9 1 v DT.length (DT.map Zb))/\Gr w w7):=X ⟨⟨v',R,by rw[g5.a.1,g5.a.2];exact KV l f7⟩,o_ f3.a (Below.grown d0.a g a0 (H4 G.a))⟩;clear l g d3));go_ret;exact E.a
def PlX(s:y_)(tx:I4)(e:Ending):Prop:=match fd s tx with
 | some (s',_)=>∃P M Q,s'.row Q/\P.size=72/\M.size=3/\P.all (·.oneCell')=Zk/\M.all (·.oneCell')=Zk/\e=Zd (Ze #[Zc P,Zc M,Zc Q,I L 0])
 | none=>∃k P M Q,k≠0/\P.size=72/\M.size=3/\Q.size=72/\P.all (·.oneCell')=Zk/\M.all (·.oneCell')=Zk/\Q.all (·.oneCell')=Zk/\e=Zd (Ze #[Zc P,Zc M,Zc Q,I L k])
def PL{p:pH}{x:I4}(e:xG x=p)(b:xP p=Zk)(y:Mv):y∈xC (xM p) p.white p.castle p.behind↔y∈(y_.of p).mov:=by have a:=y_.ok_of e b;exact EC (qkv b) (qkv (Ok.can a)) (Ok.b0 a) (Ok.b1 a) (λi d=>(fU _ d).symm) y
def Lr{s:y_}(f:s.ok){k:Int}(h:iP (xJ s.text) k):False:=by
 obtain⟨p,d,e,_⟩:=fV f;obtain h|⟨_,q,a,b⟩:=h
 .exact w_ h.2 Oi
 rw[d]at a;rw[<-qP a,e]at b;cases b
def Lm{s:y_}(u:s.ok)(l:I4)(w:I6):i_ c_ 51 #[xJ s.text,l] w λe w'=>PlX s l e/\Gr w w':=by
 obtain⟨p,b,A,o⟩:=fV u;refine(eh (xJ s.text) l (y_.short u) w).mono ?_;rintro e w' ⟨h,C⟩;refine⟨?_,C⟩;unfold PlX;obtain⟨k,P,M,Q,E,d,p1,p2,p3,p4,p5,p6,rfl⟩|⟨q,x,Q,m,_,f,v,g,rfl⟩:=h
 .have r:fd s l=N:=by
   unfold fd;obtain B|⟨_,q,_,_,f⟩|⟨_,q,x,m,_,f,v⟩:=d
   .exact(Lr u B).elim
   .rw[f]
   rw[f];have n:=qP (b.symm.trans m);have a:¬x∈s.mov:=λy=>v (by rw[<-n];exact(PL b A x).2 (by rw[o];exact y));show(if s.mov.any (λz=>z==x)=Zk then _ else N)=N;rw[qF];intro y;exact a (F8 y)
  rw[r];exact⟨k,P,M,Q,E,p1,p2,p3,p4,p5,p6,R⟩
 have n:=qP (b.symm.trans m);subst n;have a:x∈s.mov:=by rw[<-o];exact(PL b A x).1 v
 have j:fd s l=S (s.aft x,[ex (s.aft x)]):=by rw[fd,f];show(if s.mov.any (λz=>z==x)=Zk then _ else N)=_;rw[qI (qY.2 ⟨x,a,WU⟩)]
 rw[j];refine⟨jV p,z8 x,Q,?_,jE.size (jo b),R,qx (jo b),by simp[z8,Value.oneCell'],R⟩;rw[<-o];exact jE.castle g λi D=>by unfold kB;show _=(yC p.castle i&&_);rw[fU _ D]
def LoX(s:y_)(tx:I4)(e:Ending):Prop:=
 (H_ s tx=N/\e=Zd (Ze #[Zb ⟨#[]⟩,I L 4]))\/∃x,x∈cU s.z s.wh s.fc s.b tx/\e=Zd (Ze #[Zb (xJ (yJ x)),I L 0])
def SR{s:y_}(i:s.ok)(d:I4)(w:I6):i_ c_ 29 #[xJ s.text,d] w λe w'=>LoX s d e/\Gr w w':=by
 obtain⟨p,l,r,m⟩:=fV i;refine(mb (xJ s.text) d (y_.short i) w).mono ?_;rintro e w' ⟨h,n⟩;refine⟨?_,n⟩;obtain⟨k,o,_⟩|⟨q,f,_,j,rfl⟩|⟨q,x,f,_,j,rfl⟩:=h
 .exact(Lr i o).elim
 .have g:=qP (l.symm.trans f);subst g;have a:cU (y_.of p).z (y_.of p).wh (y_.of p).fc (y_.of p).b d=[]:=j;rw[m]at a;exact Zi ⟨by rw[H_,a],R⟩
 have g:=qP (l.symm.trans f);subst g;have a:x∈cU (y_.of p).z (y_.of p).wh (y_.of p).fc (y_.of p).b d:=j;rw[m]at a;exact Zj ⟨x,a,R⟩
def KN:∀k,k<64->uX ⟨(xQ k).toArray⟩=S k:=WS
def NY{S:I4}{b:Nat}(h:S.data.toList=uY f b u)(r:f<64)(v:b<64)(w:u∈U5):yn S=some (f,b,u):=by
 have l:(xQ f).length=2:=R;have m:(xQ b).length=2:=R;have i:uY f b u=xQ f++(xQ b++(if u=0 then[]else[u])):=by rw[uY,qS]
 have x:S.extract 0 2=⟨(xQ f).toArray⟩:=by
  have:=JA S 0 2;rw[h,i,Wg O,Yk O,List.drop_zero]at this;cases j:S.extract 0 2 with
  | mk d=>rw[j]at this;simp at this|-;rw[<-this]
 have y:S.extract 2 4=⟨(xQ b).toArray⟩:=by
  have:=JA S 2 4;rw[h]at this;unfold uY at this;rw[Wg (by simp[l,m]),Yk (by simp[l,m]),List.drop_append_of_le_length O,List.drop_of_length_le O,Wj]at this;cases j:S.extract 2 4 with
  | mk d=>rw[j]at this;simp at this|-;rw[<-this]
 have g:S.size=(uY f b u).length:=by rw[<-h];exact ZX.symm
 have a:(uY f b u).length=if u=0 then 4 else 5:=by rw[uY,qZ,qZ,l,m];split<;>rfl
 rw[yn,x,y,KN f r,KN b v];by_cases u0:u=0
 .rw[qI u0]at a;rw[qI (Zi (g.trans a))];simp only;rw[rc (g.trans a),qI R,u0]
 rw[qF u0]at a;rw[qI (Zj (g.trans a))];simp only;have q:=g.trans a;have o:4<S.size:=O;have n:S[4]=u:=by
  have p:4<S.data.toList.length:=by rw[ZX];exact o
  have:S.data.toList[4]=u:=by
   have e:uY f b u=xQ f++xQ b++[u]:=(by rw[uY,qF u0]);simp only[h,e];rfl
  rw[<-this];rfl
 rw[rZ q,n];have:0<=e_ uf u:=by have k:∀c∈U5,c≠0->0<=e_ uf c:=WS;exact k u w u0
 exact qI (qJ this)
def QF{a:Nat}(b:f<64)(d:a<64)(e:u∈U5):yn (xJ (uY f a u))=S (f,a,u):=NY R b d e
def Hv{s:y_}{d:I4}{x:Mv}(h:x∈cU s.z s.wh s.fc s.b d):x∈s.mov/\xJ (uj s.z s.wh s.fc s.b x)=d:=by unfold cU at h;obtain⟨a,b⟩:=qV.1 h;exact⟨a,q8 b⟩
def Qs{a b:I1}(h:xJ a=xJ b):a=b:=by have:=Xn (λx:I4=>x.data.toList) h;simpa[xJ]using this
def M9{s:y_}(f:s.ok){a:I4}{x:Mv}(h:x∈cU s.z s.wh s.fc s.b a):H_ s a=S (s.aft x,[ex (s.aft x)]):=by
 unfold H_;cases d:cU s.z s.wh s.fc s.b a with
 | nil=>rw[d]at h;cases h
 | cons y r=>
  have g:y∈cU s.z s.wh s.fc s.b a:=Oi
  obtain⟨i,j⟩:=Hv h;obtain⟨k,l⟩:=Hv g;have e:=De f i k (Qs (j.trans l.symm));rw[e]
def QH{s:y_}(g:s.ok){x:Mv}(d:x∈s.mov):fd s (xJ (yJ x))=S (s.aft x,[ex (s.aft x)]):=by
 have e:yn (xJ (yJ x))=x:=by obtain⟨f,t,u⟩:=x;obtain⟨a,b,c,_⟩:=Ok.mv g d;exact QF a b c
 rw[fd,e];show(if s.mov.any (λz=>z==x)=Zk then _ else N)=_;rw[qI (qY.2 ⟨x,d,WU⟩)]
def QK:∀(n:Nat){t:I4}{g h:I3},t.size<=n->Kk t g->Kk t h->g=h:=by
 intro n;induction n with
 | zero=>
  intro t g h p k f;obtain⟨_,d⟩|⟨i,_,l,_⟩:=nc k
  .obtain⟨_,a⟩|⟨i,_,l,_⟩:=nc f
   .rw[d,a]
   omega
  omega
 | succ n ih=>
  intro t g h p k f;obtain⟨e,d⟩|⟨i,e,l,r,d,m⟩:=nc k
  .obtain⟨_,a⟩|⟨j,b,_⟩:=nc f
   .rw[d,a]
   rw[e]at b;omega
  obtain⟨b,a⟩|⟨j,b,q,u,a,o⟩:=nc f
  .rw[e]at b;omega
  obtain rfl:i=j:=by rw[e]at b;omega
  rw[d,a,ih (by rw[Wu];omega) m o]
def RL(t:I4):∃a,Kk t a:=by obtain⟨a,b,d,e⟩:=KZ 10 t.data.toList;exact⟨a,b,d,e⟩
def P7(t:I4)(i:t.size<4294967281)(b:I3)(j:Kk t b)(w:I6):i_ c_ 71 #[t,I Zg 10] w λe w'=>∃v,e=Zd v/\yt w v b w'/\Gr w w':=by refine(qvl t i 10 w).mono ?_;rintro e w' ⟨v,k,rfl,a,d,f,g,h⟩;have e:=QK t.size Zy ⟨f,d,g⟩ j;rw[e]at a;exact⟨v,R,a,h⟩
theorem J3{l:I1}(h:xG ⟨l.toArray⟩=N):E_ l=N:=by rw[E_,h]
def NJ{l:I1}{k:Int}(h:iP ⟨l.toArray⟩ k):E_ l=N:=by
 obtain h|⟨_,q,a,b⟩:=h
 .exact J3 h.2
 rw[E_,a];show(if xP q=Zk then _ else N)=N;rw[qF (by rw[b];simp)]
def P6{l:I1}{p:pH}(h:xG ⟨l.toArray⟩=p)(a:xP p=Zk):E_ l=p:=by rw[E_,h];show(if xP p=Zk then _ else N)=_;rw[qI a]
def Q2(ws:List (I1))(g:ws≠[])(j:∀y∈ws,(32:UInt8)∉y):U_ E_ (f_ ws [32])=Pz E_ ws:=by grind[ND,E_,J3,Kt,Q3]
def P5:∀(n:Nat) (r:List (I1)),r.length<=n->r.length%2=1->G' r=N:=by
 intro n;induction n with
 | zero=>intro r a b;omega
 | succ n ih=>
  intro r a b
  match r,a,b with
  | [_],_,_=>rfl
  | x::y::r,a,b=>
   have e:=ih r (by simp at a;omega) (by simp at b;omega);rw[G',e];by_cases d:x.length=3/\E' x
   .rw[qI d];cases df 1 (x.drop 2)<;>cases kZ 9 y<;>rfl
   rw[qF d]
def J4{l:I1}(h:kZ k l=n):d_ n=l/\n<10^k:=by
 unfold kZ at h;split at h
 .rename_i f;obtain⟨a,b,c,d⟩:=f;have e:=qP h;rw[<-e];refine⟨Ek l (by intro q;subst q;simp at a) d c,?_⟩;exact qN (tP l.length l R d) (X8 O b)
 cases h
def JB{l:I1}(h:df e l=d):d_ d=l/\e<=d/\d<=3:=by unfold df at h;obtain⟨a,b⟩:=X5.1 h;simp at b;exact⟨(J4 a).1,b.1,b.2⟩
def BA(x y:I1):Option (Nat×Nat):=if x.length=3/\E' x then(match df 1 (x.drop 2),kZ 9 y with|some d,S n=>S (d,n)|_,_=>N)else N
def H2(x y:I1)(r:List (I1)):G' (x::y::r)=match BA x y with|some c=>(G' r).map (c::·)|none=>N:=by grind[G',BA,E',df]
def NL{x:I1}{c:Nat×Nat}(h:BA x y=c):x.length=3/\E' x/\df 1 (x.drop 2)=S c.1/\kZ 9 y=S c.2:=by grind[BA,df]
def Q7:∀(b:List (Nat×Nat)) (r:List (I1)),G' r=b->r.length=2*b.length/\∀j (g:j<b.length),∃x y,r[2*j]?=S x/\r[2*j+1]?=S y/\BA x y=S b[j]:=by
 intro b;induction b with
 | nil=>
  intro r h
  match r,h with
  | [],_=>exact⟨R,λj g=>w_ g WU⟩
  | x::y::r,h=>
   rw[H2]at h;cases d:BA x y with
   | none=>rw[d]at h;cases h
   | some c=>
    rw[d]at h;obtain⟨a,_,f⟩:=Xp.1 h;cases f
 | cons c b ih=>
  intro r h
  match r,h with
  | x::y::r,h=>
   rw[H2]at h;cases d:BA x y with
   | none=>rw[d]at h;cases h
   | some c'=>
    rw[d]at h;obtain⟨a,n,f⟩:=Xp.1 h;injection f with f h3
    subst f h3;obtain⟨e,k⟩:=ih r n;refine⟨WX,λj g=>?_⟩;cases j with
    | zero=>exact⟨x,y,R,R,d⟩
    | succ j=>
     obtain⟨x',y',i,l,m⟩:=k j (by simpa using g);refine⟨x',y',?_,?_,m⟩
     .rw[show 2*(j+1)=2*j+1+1 from O];exact i
     rw[show 2*(j+1)+1=2*j+1+1+1 from O];exact l
def NI{r:List (I1)}{x:I1}(f:r[2*j]?=x)(g:r[2*j+1]?=y):G' (r.drop (2*j))=match BA x y with|some c=>(G' (r.drop (2*(j+1)))).map (c::·)|none=>N:=by obtain⟨a,b⟩:=Z5.1 f;obtain⟨d,e⟩:=Z5.1 g;rw[XP a,XP d,b,e,H2,show 2*(j+1)=2*j+1+1 from O]
def R9(r:Option (pH×List (Nat×Nat)))(e:Ending):Prop:=match r with
 | some (p,tl)=>e=Zd (Ze #[Zb (fk (y_.of p) tl),Za Zk])
 | none=>e=Zd (Ze #[Zb ⟨#[]⟩,Za Zl])
def uu(a b:I4)(h:a.size+b.size<100000000000)(W:I6):(k_ .add a b).run c_ W=.ok (a++b) W:=by exact Xy W a b (q7 (Nat.le_of_lt h) WW)
def ME(a b c d:I4):(⟨(f_ [a.data.toList,b.data.toList,c.data.toList,d.data.toList] [32]++I').toArray⟩:I4)=a++⟨#[32]⟩++b++⟨#[32]⟩++c++⟨#[32]⟩++d++⟨#[32,48,32,49]⟩:=by apply eu;simp[Lib.join_cons,Lib.joinTail,I',ByteArray.data_append,Array.toList_append]
def MH{s:y_}{a:List (Nat×Nat)}(b:j<a.length)(h:s.paths (a[j]).1=(a[j]).2):fk s (a.drop j)=fk s (a.drop (j+1)):=by rw[XP b];show(if s.paths (a[j]).1=(a[j]).2 then _ else _)=_;rw[qI h]
def MI{s:y_}{a:List (Nat×Nat)}(b:j<a.length)(h:¬s.paths (a[j]).1=(a[j]).2):fk s (a.drop j)=xJ ([102,97,105,108,32,68]++d_ (a[j]).1++[32]++d_ (s.paths (a[j]).1)):=by rw[XP b];show(if s.paths (a[j]).1=(a[j]).2 then _ else _)=_;rw[qF h];rfl
def Qv(x:I4)(h:x.size=3)(W:I6):(Instr.slice 9 x N (S (I L 2)) N).run c_ W=.ok (Zb ⟨(x.data.toList.take 2).toArray⟩) W:=by have e:(⟨(x.data.toList.take 2).toArray⟩:I4)=x.extract 0 2:=eu (by rw[Lib.extract_from_zero]);rw[e];exact run_slice_string_h W 9 x underlying9 L 2 O O
def LY(x:I4)(h:x.size=3)(W:I6):(Instr.slice 9 x (S (I L 2)) N N).run c_ W=.ok (Zb ⟨(x.data.toList.drop 2).toArray⟩) W:=by have e:(⟨(x.data.toList.drop 2).toArray⟩:I4)=x.extract 2 x.size:=eu (by rw[Lib.extract_to_end]);rw[e];exact run_slice_string_l W 9 x underlying9 L 2 O O
def Nm(c:UInt8):∀(b:List (I1)),∀y∈b,y.length<=(f_ b [c]).length:=λb=>by
 induction b with
 | nil=>intro y a;cases a
 | cons z r ih=>
  intro y a;cases r with
  | nil=>rw[Lib.join_one];rw[qT]at a;rw[a];exact Zy
  | cons u r=>
   have e:f_ (z::u::r) [c]=z++c::f_ (u::r) [c]:=V9
   rw[e,qZ,Yq];obtain rfl|a:=Yj.1 a
   .omega
   have:=ih y a;omega
def NE{α:Type}(f:List UInt8->Option α){ws:List (I1)}(h:ws.length<4):Pz f ws=N:=by
 match ws,h with
 | [],_=>rfl
 | [_],_=>rfl
 | [_,_],_=>rfl
 | [_,_,_],_=>rfl
def Lf{α:Type}{f:List UInt8->Option α}{a b c d:I1}{r:List (I1)}{x:α}(h:f (f_ [a,b,c,d] [32]++I')=x):Pz f (a::b::c::d::r)=(G' r).map (x,·):=by exact Io
def Lh{α:Type}{f:List UInt8->Option α}{a b c d:I1}{r:List (I1)}(h:f (f_ [a,b,c,d] [32]++I')=N):Pz f (a::b::c::d::r)=N:=by exact Io
def QP{e:I3}(h:¬e.length<4):∃a b c d r,e=a::b::c::d::r:=by
 match e,h with
 | a::b::c::d::r,_=>exact⟨a,b,c,d,r,R⟩
 | [],h=>exact w_ WW h
 | [_],h=>exact w_ WU h
 | [_,_],h=>exact w_ WU h
 | [_,_,_],h=>exact w_ WU h
def JT(T:I4)(g:T.size<4294967281):∃(A:I0)(k:Int),A.size=72/\Y (A.all (·.oneCell')=Zk)/\((∃p,E_ T.data.toList=S p/\(y_.of p).ok/\(y_.of p).row A/\k=0)\/(E_ T.data.toList=N/\k≠0))/\Y (∀W,ZL 53 #[T] W (Ze #[A,k])):=by
 obtain⟨p,f,b,a⟩|⟨k,i,d,a⟩:=xy T
 .exact⟨jV p,0,jE.size (jo f),X (qx (jo f)),Zi ⟨p,P6 f b,y_.ok_of f b,y_.row_of f,R⟩,X λW=>(qvq T g W).mono λe w' h=>⟨a e h.1,h.2⟩⟩
 exact⟨b_,k,xF,X xH,Zj ⟨NJ d,i⟩,X λW=>(qvq T g W).mono λe w' h=>⟨a e h.1,h.2⟩⟩
def RI{l:I1}:JW 9 999999999 l=match kZ 9 l with|some n=>(n:Int)|none=>-1:=by
 unfold JW;cases h:kZ 9 l with
 | none=>rfl
 | some n=>
  have:=(J4 h).2;rw[Option.filter_some,qI (qJ O)]
def TT(t:I4)(ht:t.size<=1048576)(w:I6):i_ c_ 161 #[Zb t] w λe w'=>R9 (U_ E_ t.data.toList) e/\Gr w w':=by
 have r6:=X (qvl t O 32 w);obtain⟨y7,f7⟩:∃y7,Y (y7=U_ E_ t.data.toList):=⟨_,X R⟩;rw[<-f7.a];go_in;go_upto_region 2 with(go_at_call 71;refine r6.a.mono ?_;rintro e w1 ⟨v,ys,rfl,hS,hn,h0,hj,g0⟩);obtain⟨pp,cap,rfl,n7,f9⟩:=l7 hS;have z9:∀y∈ys,y.size<=1048576:=λy hy=>by have:=Nm 32 (ys.map (·.data.toList)) y.data.toList (YL.2 ⟨y,hy,R⟩);rw[hj]at this;exact q7 this ht
 have hR:y7=Pz E_ (ys.map (·.data.toList)):=by rw[f7.a,<-hj];exact Q2 _ (by simpa using h0) (λy hy=>by obtain⟨x,hx,rfl⟩:=YL.1 hy;exact hn x hx)
 have w6:ys.length<=1048577:=by have:=Hb 32 (ys.map (·.data.toList));rw[hj,YD]at this;have e:t.data.toList.length=t.size:=R;omega
 clear r6 hS hn h0 hj n7;by_cases h4:ys.length<4
 .have d0:=NE E_ (ws:=ys.map (·.data.toList)) (by simpa using h4);have E:Y (y7=N):=X (hR.trans d0);have x1:(ys.length:Int)<4:=O;have t5:=X g0;clear g0 f9 z9 d0 hR f7;go_wp2;go_ret2;refine⟨?_,t5.a⟩;rw[E.a];rfl
 obtain⟨y0,y1,y2,y3,r,rfl⟩:=QP h4;obtain⟨y5,hL⟩:∃y5:Nat,y5=(y0::y1::y2::y3::r).length:=⟨_,R⟩;have h5:Y (y5=r.length+4):=X (by rw[hL];simp);rw[<-hL]at h4 w6|-;obtain⟨P,v9,_⟩:=f9 0 WU;subst v9;have J:Y (∀g,Gr w1 g->∀i (x:I4),(y0::y1::y2::y3::r)[i]?=S x->g.cell? ⟨P,i,N⟩=S (Zb x)):=X λg q i x hx=>by obtain⟨hi,e⟩:=Z5.1 hx;obtain⟨g',e1,e2⟩:=f9 i hi;injection e1 with e1;injection e1 with e1 _ _;subst e1;rw[<-e];exact(ZW q (Zx e2)).trans e2
 have z0:=z9 y0 WU;have z1:=z9 y1 WU;have z2:=z9 y2 WU;have z3:=z9 y3 WU;have y8:Y (∀y∈r,y.size<=1048576):=X λy hy=>z9 y (by simp[hy]);have H:=ME y0 y1 y2 y3;have d0:y7=Pz E_ (y0.data.toList::y1.data.toList::y2.data.toList::y3.data.toList::r.map (·.data.toList)):=hR;clear hR f7 f9 z9 hL;obtain⟨s1,e1⟩:∃s,s=y0++(⟨#[32]⟩:I4):=⟨_,R⟩;rw[<-e1]at H;have q1:s1.size=y0.size+1:=by rw[e1,Yn];rfl
 have a1:∀W,(k_ .add y0 ⟨#[32]⟩).run c_ W=.ok (Zb s1) W:=λW=>by rw[e1];exact uu _ _ (by show _+1<_;omega) W
 obtain⟨s2,e2⟩:∃s,s=s1++y1:=⟨_,R⟩;rw[<-e2]at H;have q2:s2.size=s1.size+y1.size:=by rw[e2,Yn]
 have a2:∀W,(k_ .add s1 y1).run c_ W=.ok (Zb s2) W:=λW=>by rw[e2];exact uu _ _ O W
 obtain⟨s3,e3⟩:∃s,s=s2++(⟨#[32]⟩:I4):=⟨_,R⟩;rw[<-e3]at H;have q3:s3.size=s2.size+1:=by rw[e3,Yn];rfl
 have a3:∀W,(k_ .add s2 ⟨#[32]⟩).run c_ W=.ok (Zb s3) W:=λW=>by rw[e3];exact uu _ _ (by show _+1<_;omega) W
 obtain⟨s4,e4⟩:∃s,s=s3++y2:=⟨_,R⟩;rw[<-e4]at H;have q4:s4.size=s3.size+y2.size:=by rw[e4,Yn]
 have a4:∀W,(k_ .add s3 y2).run c_ W=.ok (Zb s4) W:=λW=>by rw[e4];exact uu _ _ O W
 obtain⟨s5,e5⟩:∃s,s=s4++(⟨#[32]⟩:I4):=⟨_,R⟩;rw[<-e5]at H;have q5:s5.size=s4.size+1:=by rw[e5,Yn];rfl
 have a5:∀W,(k_ .add s4 ⟨#[32]⟩).run c_ W=.ok (Zb s5) W:=λW=>by rw[e5];exact uu _ _ (by show _+1<_;omega) W
 obtain⟨s6,e6⟩:∃s,s=s5++y3:=⟨_,R⟩;rw[<-e6]at H;have q6:s6.size=s5.size+y3.size:=by rw[e6,Yn]
 have a6:∀W,(k_ .add s5 y3).run c_ W=.ok (Zb s6) W:=λW=>by rw[e6];exact uu _ _ O W
 obtain⟨T,eT⟩:∃s,s=s6++(⟨#[32,48,32,49]⟩:I4):=⟨_,R⟩;rw[<-eT]at H;have qT:T.size=s6.size+4:=by rw[eT,Yn];rfl
 have aT:∀W,(k_ .add s6 ⟨#[32,48,32,49]⟩).run c_ W=.ok (Zb T) W:=λW=>by rw[eT];exact uu _ _ (by show _+4<_;omega) W
 have n4:T.data.toList=f_ [y0.data.toList,y1.data.toList,y2.data.toList,y3.data.toList] [32]++I':=by rw[<-H]
 have g6:=X n4;obtain⟨A,k,hz,ho,h7,f0⟩:=JT T O;clear e1 e2 e3 e4 e5 e6 eT H n4;have a7:=X d0;clear d0;have x9:¬(y5:Int)<4:=O;have l0:(0:Int)<(y5:Int):=O;have t2:¬y5=0:=O;have t3:0<y5:=O;have l1:(1:Int)<(y5:Int):=O;have l2:(2:Int)<(y5:Int):=O;have l3:(3:Int)<(y5:Int):=O;have g1:=X g0;have k3:Gr w1 w1.drew:=(q_ w1).drew;clear g0;go_upto_region 4 with fail;go_cut [5,6]from 19 to 41 (λs5 s6 wx=>∃B,s5=ZI B/\s6=I L k/\wx.heap[B]?=S (Z A 70)/\Gr w1 wx)
 case first=>
  refine ZT (S:=λg=>Gr w1 g) WR k3 (λb=>?_);generalize w1.drew=wd at k3 b|-;refine tq 0 (Zq (S P) y5 cap) b ?_;refine tq 1 (ZI P) b ?_;refine ZB 2 (Zb y0) R (λw hw=>by have e0:=J.a w hw 0 y0 R;go_simp) b ?_;refine tq 3 (Zb s1) b ?_;refine tq 4 (Zq (S P) y5 cap) b ?_;refine tq 5 (.pointer (S ⟨P,1,N⟩)) b ?_;refine ZB 6 (Zb y1) R (λw hw=>by have e0:=J.a w hw 1 y1 R;go_simp) b ?_;refine tq 7 (Zb s2) b ?_;refine tq 8 (Zb s3) b ?_;refine tq 9 (Zq (S P) y5 cap) b ?_;refine tq 10 (.pointer (S ⟨P,2,N⟩)) b ?_;refine ZB 11 (Zb y2) R (λw hw=>by have e0:=J.a w hw 2 y2 R;go_simp) b ?_;refine tq 12 (Zb s4) b ?_;refine tq 13 (Zb s5) b ?_;refine tq 14 (Zq (S P) y5 cap) b ?_;refine tq 15 (.pointer (S ⟨P,3,N⟩)) b ?_;refine ZB 16 (Zb y3) R (λw hw=>by have e0:=J.a w hw 3 y3 R;go_simp) b ?_;refine tq 17 (Zb s6) b ?_;refine tq 18 (Zb T) b ?_;clear a1 a2 a3 a4 a5 a6 aT;have n0:∀A:I6,(A.alloc (Z b_ 70)).heap[A.heap.size]?=S (Z b_ 70):=λA=>ZQ A _;refine Xk (rs:=[19,23]) WR WU ?_;refine Yc R (λK hK=>?a0) (Yc R (λK hK=>?b0) Xb)
  case' a0=>
   go_simp;refine(f0.a _).mono ?_;rintro e w3 ⟨rfl,kk⟩;refine hK.out _ _ (o_ b kk) λb=>?_;clear hK K kk;try simp only[py]
   refine tq 20 (Ze #[Zc A,I L k]) b ?_;refine tq 21 (Zc A) b ?_;refine tq 22 (I L k) b ?_;refine rd 23 λK hK=>?_;go_simp;have F:=n0 w3;have f8:w1.heap.size<=w3.heap.size:=ZR b;refine hK.out _ _ (o_ b ZN) λb=>?_;clear hK K;try simp only[py]
   generalize w3.alloc (Z b_ 70)=wz at F b|-;generalize w3.heap.size=B at F f8|-
  case' b0=>
   go_simp;have F:=n0 wd;have f8:w1.heap.size<=wd.heap.size:=ZR b;refine hK.out _ _ (o_ b ZN) λb=>?_;clear hK K;try simp only[py]
   generalize wd.alloc (Z b_ 70)=wy at F b|-;generalize wd.heap.size=B at F f8|-;refine rd 19 λK hK=>?_;go_simp;refine(f0.a _).mono ?_;rintro e wz ⟨rfl,kk⟩;have F:=ZE kk F;refine hK.out _ _ (o_ b kk) λb=>?_;clear hK K kk;try simp only[py]
   refine tq 20 (Ze #[Zc A,I L k]) b ?_;refine tq 21 (Zc A) b ?_;refine tq 22 (I L k) b ?_
  all_goals
   refine rd 24 λK hK=>?_;rw[qI Vb];refine YQ 70 _ _ R B A R R 70 _ F (by rw[hz];exact q9) (by rw[hz];exact xF.symm) ho.a ?_;have hB:=setRow_heap _ _ _ A _ _ F;have b5:=b.setRow B f8 A;refine hK.out _ _ b5 λb=>?_;clear hK K;try simp only[py]
   refine tq 25 (I L k) b ?_;refine ZZ WR ?_ _;go_wp2;go_meet
   case rel=>exact⟨B,R,R,hB,b5⟩
 case rest=>
  obtain⟨B,rfl,rfl,hB,b5⟩:=hcut;generalize wc=w9 at hB b5|-;have n1:=X hB;have c6:=X b5;clear hB b5 f0 k3 a1 a2 a3 a4 a5 a6 aT q1 q2 q3 q4 q5 q6 qT z0 z1 z2 z3;obtain⟨p,hp,g3,b4,hk⟩|⟨hp,hk⟩:=h7;rotate_left
  .have Q:Y (y7=N):=X (by rw[a7.a];exact Lh (by rw[<-g6.a];exact hp));have k2:(k !=0)=Zk:=Oo;clear hp hk J y8 ho hz a7 l0 t2 t3 l1 l2 l3;go_wp2;go_ret2;refine⟨?_,o_ g1.a c6.a⟩;rw[Q.a];rfl
  subst hk;have Q:Y (y7=(G' (r.map (·.data.toList))).map (p,·)):=X (by rw[a7.a];exact Lf (by rw[<-g6.a];exact hp));clear a7 hp l0 t2 t3 l1 l2 l3;by_cases h2:r.length%2=1
  .have h6:Y (y7=N):=X (by rw[Q.a,P5 _ _ Zy (by simpa using h2)];rfl);have m1:(y5:Int)%2=1:=(by have:=h5.a;omega);have m2:(y5:Int).tmod 2=1:=Oe;have x0:=X g3;have w0:=X b4;clear g3 b4 J y8 Q ho hz;go_wp2;go_ret2;refine⟨?_,o_ g1.a c6.a⟩;rw[h6.a];rfl
  obtain⟨m,hm⟩:∃m,Y (r.length=2*m):=⟨r.length/2,X O⟩;have m1:(y5:Int)%2=0:=by have:=h5.a;omega
  have m2:(y5:Int).tmod 2=0:=Oe;have g5:Y (∀d:Nat,d<=3->∀W,ZL 163 #[Zc A,I L d] W (I Zh ((y_.of p).paths d:Nat))):=X λd hd W=>na d hd g3 b4 W;have g4:Y (∀d:Nat,d<=3->(y_.of p).paths d<=1000000000000000000):=X λd hd=>pb hd _ _ _ _;have n3:Y (y5=2*m+4):=X (by have:=h5.a;have:=hm.a;omega);clear g3 b4 h2 ho;have V:Y (∀g,Gr w9 g->∀j (x:I4),r[j]?=S x->g.cell? ⟨P,j+4,N⟩=S (Zb x)):=X λg q j x hx=>J.a g (o_ c6.a q) (j+4) x hx;clear J;go_wp2;clear m1 m2;go_loopg [8] m (λgk iv wr=>∃(j i:Nat),j+gk=m/\Y (i=2*j+4)/\iv=I L i/\(∃f,G' (r.map (·.data.toList))=(G' ((r.map (·.data.toList)).drop (2*j))).map (f++·))/\wr=w9)
  case atStart=>exact⟨0,4,O,X R,R,⟨[],WU⟩,R⟩
  case round=>
   obtain⟨j,i,k1,hi,rfl,⟨f,As⟩,w5⟩:=hrel;have s9:=w5.symm;subst s9;have x4:0<=(i:Int):=O;have G:=hi.a;have r7:=hm.a;have b6:=n3.a;by_cases v3:j<m
   .obtain⟨x,hx⟩:∃x,r[2*j]?=S x:=⟨r[2*j]' O,Yf _⟩;obtain⟨y,hy⟩:∃y,r[2*j+1]?=S y:=⟨r[2*j+1]' O,Yf _⟩;obtain⟨i1,r2⟩:∃i1,i1=i+1:=⟨_,R⟩;obtain⟨i2,t9⟩:∃i2,i2=i+2:=⟨_,R⟩;have cx:w9.cell? ⟨P,i,N⟩=S (Zb x):=(by rw[G];exact V.a _ ZO _ x hx);have cy:w9.cell? ⟨P,i1,N⟩=S (Zb y):=(by rw[r2,G];exact V.a _ ZO _ y hy);have v1:a_ L ((i:Int)+1)=(i1:Int):=Vc;have v2:a_ L ((i:Int)+2)=(i2:Int):=Vc;have b0:(i:Int)<y5:=O;have b1:(i1:Int)<y5:=O;have b2:0<=(i1:Int):=O;have y4:=y8.a x (Wm hx);have w7:=y8.a y (Wm hy);have z5:Y (G' ((r.map (·.data.toList)).drop (2*j))=match BA x.data.toList y.data.toList with|some c=>(G' ((r.map (·.data.toList)).drop (2*(j+1)))).map (c::·)|none=>N):=X (NI (by rw[YN,hx];rfl) (by rw[YN,hy];rfl));have g2:Y (BA x.data.toList y.data.toList=N->y7=N):=X λh=>(by rw[Q.a,As,z5.a,h];rfl);have l4:=X As;have z:Y (y7=N->R9 y7 (Zd (Ze #[Zb ⟨#[]⟩,Za Zl]))/\Gr w w9):=X λh=>⟨Us,o_ g1.a c6.a⟩;have m0:x.data.toList.length=x.size:=R;have r3:Y (i2=2*(j+1)+4):=X O;clear As hx hy G r7 b6 r2 t9 hi;by_cases c5:x.size=3;rotate_left
    .have E:=X (g2.a (by unfold BA;rw[qF];rintro⟨a,_⟩;exact c5 a));have h3:((x.size:Int)!=3)=Zk:=V3;clear cy v1 v2 b1 b2 m0;go_wp2;go_ret2;exact z.a E.a
    have h3:((x.size:Int)!=3)=Zl:=(by rw[bne_eq_false_iff_eq];omega);have sA:=Qv x c5;have sB:=LY x c5;by_cases hD:E' x.data.toList;rotate_left
    .have E:=X (g2.a (by unfold BA;rw[qF];rintro⟨_,a⟩;exact hD a));have hq:(x.data.toList.take 2==[59,68])=Zl:=(by rw[qM];exact hD);generalize x.data.toList.take 2=xa at sA hq;clear cy v1 v2 b1 b2 sB m0 hD;go_wp2;go_ret2;exact z.a E.a
    have hq:(x.data.toList.take 2==[59,68])=Zk:=(by rw[YF];exact hD);generalize x.data.toList.take 2=xa at sA hq;have l:Y (∀W,i_ c_ 162 #[Zb ⟨(x.data.toList.drop 2).toArray⟩,I L 1] W λe w'=>e=Zd (I L (W_ 1 (x.data.toList.drop 2)))/\w'=W):=X λW=>pn _ Um 1 W;have D:Y (∀W,i_ c_ 199 #[Zb y,I L 9,I L 999999999] W λe w'=>e=Zd (I L (JW 9 999999999 y.data.toList))/\w'=W):=X λW=>ry 9 999999999 O y Vk W;rw[RI]at D;unfold W_ at l;have M:Y (BA x.data.toList y.data.toList=match df 1 (x.data.toList.drop 2),kZ 9 y.data.toList with|some d,S n=>S (d,n)|_,_=>N):=X (by unfold BA;rw[qI ⟨c5,hD⟩]<;>cases df 1 (x.data.toList.drop 2)<;>cases kZ 9 y.data.toList<;>rfl);generalize x.data.toList.drop 2=xb at sB l M;clear hD m0;cases hd:df 1 xb with
    | none=>
     have E:=X (g2.a (by rw[M.a,hd]));rw[hd]at l;cases u:kZ 9 y.data.toList with
     | none=>
      rw[u]at D;clear hd u
      go_wp2_with(first|(go_at_call 162;refine(l.a _).mono ?_;rintro e wq ⟨rfl,rfl⟩)|(go_at_call 199;refine(D.a _).mono ?_;rintro e wq ⟨rfl,rfl⟩));go_ret2;exact z.a E.a
     | some nn=>
      rw[u]at D;clear hd u
      go_wp2_with(first|(go_at_call 162;refine(l.a _).mono ?_;rintro e wq ⟨rfl,rfl⟩)|(go_at_call 199;refine(D.a _).mono ?_;rintro e wq ⟨rfl,rfl⟩));go_ret2;exact z.a E.a
    | some d=>
     rw[hd]at l;have x2:¬(d:Int)<0:=O
     cases u:kZ 9 y.data.toList with
     | none=>
      have E:=X (g2.a (by rw[M.a,hd,u]));rw[u]at D;clear hd u
      go_wp2_with(first|(go_at_call 162;refine(l.a _).mono ?_;rintro e wq ⟨rfl,rfl⟩)|(go_at_call 199;refine(D.a _).mono ?_;rintro e wq ⟨rfl,rfl⟩));go_ret2;exact z.a E.a
     | some nn=>
      have v4:Y (G' (r.map (·.data.toList))=(G' ((r.map (·.data.toList)).drop (2*(j+1)))).map ((f++[(d,nn)])++·)):=X (by
       rw[l4.a,z5.a,M.a,hd,u];cases G' ((r.map (·.data.toList)).drop (2*(j+1)))<;>simp)
      rw[u]at D;have x5:¬(nn:Int)<0:=O
      clear hd u
      go_wp2_with(first|(go_at_call 162;refine(l.a _).mono ?_;rintro e wq ⟨rfl,rfl⟩)|(go_at_call 199;refine(D.a _).mono ?_;rintro e wq ⟨rfl,rfl⟩));go_roundg (gk-1)
      case measure=>omega
      case rel=>exact⟨j+1,i2,O,r3,R,⟨_,v4.a⟩,R⟩
   .have k9:G' (r.map (·.data.toList))=S f:=(by rw[As,Ws (by rw[YD];omega)];simp[G']);obtain⟨s0,n5⟩:=Q7 f _ k9;rw[YD]at s0;have h6:Y (y7=S (p,f)):=X (by rw[Q.a,k9];rfl);have a8:=X n5;have s7:Y (f.length=m):=X O;have b0:¬(i:Int)<y5:=O;clear As k9 n5 Q G r7 b6 s0 hi;go_wp2;clear b0;go_loopg [7,11] m (λgk ov iv w8=>∃(j i:Nat)(o:I1),j+gk=m/\Y (i=2*j+4)/\iv=I L i/\ov=Zb ⟨o.toArray⟩/\((o=[112,97,115,115]/\fk (y_.of p) f=fk (y_.of p) (f.drop j))\/((o==[112,97,115,115])=Zl/\(⟨o.toArray⟩:I4)=fk (y_.of p) f))/\Gr w9 w8)
    case atStart=>exact⟨0,4,[112,97,115,115],O,X R,R,R,Zi ⟨R,R⟩,ZO⟩
    case round=>
     obtain⟨y6,i3,o,k2,r4,rfl,rfl,h8,b7⟩:=hrel;have z:Y (∀g,Gr w9 g->∀o:I1,(⟨o.toArray⟩:I4)=fk (y_.of p) f->R9 y7 (Zd (Ze #[Zb ⟨o.toArray⟩,Za Zk]))/\Gr w g):=X λg q o h=>⟨by rw[h6.a];show _=_;rw[h],o_ (o_ g1.a c6.a) q⟩;have a9:=X b7;have G:=r4.a;have b6:=n3.a;have k8:=s7.a;by_cases v3:y6<m;rotate_left
     .have b0:¬(i3:Int)<y5:=O;have k5:Y ((⟨o.toArray⟩:I4)=fk (y_.of p) f):=X (by
       obtain⟨rfl,h⟩|⟨_,h⟩:=h8
       .rw[h,Ws O];rfl
       .exact h)
      clear h8 b7 a8 g5 g4 V y8 G b6 k8;go_wp2;go_ret2;exact z.a _ a9.a _ k5.a
     have b0:(i3:Int)<y5:=O;obtain⟨rfl,d1⟩|⟨x8,d1⟩:=h8;rotate_left
     .have k5:=X d1;clear d1 b7 a8 g5 g4 V y8 G b6 k8;go_wp2;go_ret2;exact z.a _ a9.a _ k5.a
     obtain⟨xl,yl,hx,hy,M⟩:=a8.a y6 O;obtain⟨x,t0,rfl⟩:∃x,r[2*y6]?=S x/\x.data.toList=xl:=(by rw[YN]at hx;exact Xp.1 hx);obtain⟨y,m6,rfl⟩:∃y,r[2*y6+1]?=S y/\y.data.toList=yl:=(by rw[YN]at hy;exact Xp.1 hy);have k4:y6<f.length:=O;have f2:Y ((y_.of p).paths (f[y6]).1=(f[y6]).2->fk (y_.of p) (f.drop y6)=fk (y_.of p) (f.drop (y6+1))):=X λh=>MH k4 h;have d3:Y (¬(y_.of p).paths (f[y6]).1=(f[y6]).2->fk (y_.of p) (f.drop y6)=xJ ([102,97,105,108,32,68]++d_ (f[y6]).1++[32]++d_ ((y_.of p).paths (f[y6]).1))):=X λh=>MI k4 h;obtain⟨t4,_,f5,f6⟩:=NL M;generalize f[y6]=c at f2 d3 f5 f6 M;obtain⟨d,nn⟩:=c;simp only at f2 d3 f5 f6;obtain⟨h9,x3,p0⟩:=JB f5;have c5:x.size=3:=t4;have u:=(J4 f6).2;obtain⟨i4,r5⟩:∃i1,i1=i3+1:=⟨_,R⟩;obtain⟨i5,v0⟩:∃i2,i2=i3+2:=⟨_,R⟩;have g7:Y (∀g,Gr w9 g->g.cell? ⟨P,i3,N⟩=S (Zb x)):=X λg q=>(by rw[G];exact V.a _ q _ x t0);have g8:Y (∀g,Gr w9 g->g.cell? ⟨P,i4,N⟩=S (Zb y)):=X λg q=>(by rw[r5,G];exact V.a _ q _ y m6);have cx:=g7.a _ b7;have v1:a_ L ((i3:Int)+1)=(i4:Int):=Vc;have v2:a_ L ((i3:Int)+2)=(i5:Int):=Vc;have b1:(i4:Int)<y5:=O;have b2:0<=(i4:Int):=O;have b3:0<=(i3:Int):=O;have w7:=y8.a y (Wm m6);have sB:=LY x c5;have l:Y (∀W,i_ c_ 162 #[Zb ⟨(x.data.toList.drop 2).toArray⟩,I L 1] W λe w'=>e=Zd (I L d)/\w'=W):=X λW=>(pn _ Um 1 W).mono λe w' h=>⟨by rw[h.1,Jr];unfold W_;rw[f5],h.2⟩;have D:Y (∀W,i_ c_ 199 #[Zb y,I L 9,I L 999999999] W λe w'=>e=Zd (I L nn)/\w'=W):=X λW=>(ry 9 999999999 O y Vk W).mono λe w' h=>⟨by rw[h.1,RI,f6],h.2⟩;have z5:=X (g5.a d p0);have f1:=g4.a d p0;have t1:(x.data.toList.drop 2).length<=1:=(by rw[List.length_drop];omega);rw[<-h9]at t1;rw[<-h9]at sB l;have v5:Y (∀g,Gr w9 g->g.heap[B]?=S (Z A 70)):=X λg q=>(Zz q (xe n1.a)).trans n1.a;have n2:=v5.a _ b7;have d2:=X d1;have h1:Y (i5=2*(y6+1)+4):=X O;clear hx hy t0 m6 M t4 f5 f6 h9 b7 a8 g5 g4 V y8 k4 d1 G b6 k8 r5 v0 r4 u;by_cases c4:(y_.of p).paths d=nn
     .have w2:Y (fk (y_.of p) f=fk (y_.of p) (f.drop (y6+1))):=X (d2.a.trans (f2.a c4));clear f2 d3;rw[c4]at z5;have nq:((nn:Int)!=(nn:Int))=Zl:=WU;have s8:a_ L (nn:Int)=nn:=Vc;clear c4 f1;go_wp2_with(first|(go_at_call 162;refine(l.a _).mono ?_;rintro e wq ⟨rfl,rfl⟩)|(go_at_call 163;refine(z5.a _).mono ?_;rintro e wz ⟨rfl,d4⟩;have z4:=o_ a9.a d4;have cy:=g8.a _ z4;have k0:=X z4;clear d4 z4)|(go_at_call 199;refine(D.a _).mono ?_;rintro e wq ⟨rfl,f3⟩;have f4:=f3.symm;subst f4;clear f3)|(refine ZD B A n2 hz ?_));go_roundg (gk-1)
      case measure=>omega
      case rel=>exact⟨y6+1,i5,[112,97,115,115],O,h1,R,R,Zi ⟨R,w2.a⟩,k0.a⟩
     .have l5:Y ((⟨([102,97,105,108,32,68]++d_ d++[32]++d_ ((y_.of p).paths d)).toArray⟩:I4)=fk (y_.of p) f):=X (d2.a.trans (d3.a c4)).symm;have p7:Y (∀g,ZL 75 #[I Zh ((y_.of p).paths d:Nat)] g (Zb ⟨(d_ ((y_.of p).paths d)).toArray⟩)):=X λg=>dM _ f1 g;have p8:=dz 18 ((y_.of p).paths d) O;have nq:((((y_.of p).paths d:Nat):Int)!=(nn:Int))=Zk:=V3;have s8:a_ L (((y_.of p).paths d:Nat):Int)=(((y_.of p).paths d:Nat):Int):=Vc;generalize (y_.of p).paths d=pv at z5 l5 p7 p8 nq s8 f1 c4;have a1:∀W,(k_ .add ⟨#[102,97,105,108,32,68]⟩ ⟨(d_ d).toArray⟩).run c_ W=.ok (Zb ⟨([102,97,105,108,32,68]++d_ d).toArray⟩) W:=λW=>(by have e:=uu ⟨#[102,97,105,108,32,68]⟩ ⟨(d_ d).toArray⟩ (by show 6+(d_ d).toArray.size<_;rw[Ya];omega) W;rw[e];congr 2);have a2:∀W,(k_ .add ⟨([102,97,105,108,32,68]++d_ d).toArray⟩ ⟨#[32]⟩).run c_ W=.ok (Zb ⟨([102,97,105,108,32,68]++d_ d++[32]).toArray⟩) W:=λW=>(by have e:=uu ⟨([102,97,105,108,32,68]++d_ d).toArray⟩ ⟨#[32]⟩ (by show(List.toArray _).size+1<_;rw[Ya,qZ];simp only[Yq,XN];omega) W;rw[e];congr 2);have a3:∀W,(k_ .add ⟨([102,97,105,108,32,68]++d_ d++[32]).toArray⟩ ⟨(d_ pv).toArray⟩).run c_ W=.ok (Zb ⟨([102,97,105,108,32,68]++d_ d++[32]++d_ pv).toArray⟩) W:=λW=>(by have e:=uu ⟨([102,97,105,108,32,68]++d_ d++[32]).toArray⟩ ⟨(d_ pv).toArray⟩ (by show(List.toArray _).size+(List.toArray _).size<_;rw[Ya,Ya,qZ,qZ];simp only[Yq,XN];omega) W;rw[e];congr 2);have hF:([102,97,105,108,32,68]++d_ d++[32]++d_ pv==[112,97,115,115])=Zl:=R;generalize [102,97,105,108,32,68]++d_ d++[32]++d_ pv=F4 at a3 l5 hF;generalize [102,97,105,108,32,68]++d_ d++[32]=F3 at a2 a3;generalize [102,97,105,108,32,68]++d_ d=F2 at a1 a2;generalize d_ d=xd at a1 sB l t1;clear c4 f2 d3 p8 d2;go_upto_region 23 with(first|(go_at_call 162;refine(l.a _).mono ?_;rintro e wq ⟨rfl,rfl⟩)|(go_at_call 163;refine(z5.a _).mono ?_;rintro e wz ⟨rfl,d4⟩;have z4:=o_ a9.a d4;have cy:=g8.a _ z4;have k0:=X z4;clear d4 z4)|(go_at_call 199;refine(D.a _).mono ?_;rintro e wq ⟨rfl,f3⟩;have f4:=f3.symm;subst f4;clear f3)|(refine ZD B A n2 hz ?_));have g9:Gr w9 wz.drew:=o_ k0.a (q_ wz).drew;refine ZT (S:=λg=>Gr w9 g) WR g9 (λb=>?_);refine tq 0 (Zq (S P) y5 cap) b ?_;refine tq 1 (I L i3) b ?_;refine tq 2 (.pointer (S ⟨P,i3,N⟩)) b ?_;refine ZB 3 (Zb x) R (λw hw=>by have e0:=g7.a w hw;go_simp) b ?_;refine tq 4 (Zb ⟨xd.toArray⟩) b ?_;refine tq 5 (Zb ⟨F2.toArray⟩) b ?_;refine tq 6 (Zb ⟨F3.toArray⟩) b ?_;refine tq 7 (I Zh pv) b ?_;refine rd 8 λK hK=>?_;go_simp;refine(p7.a _).mono ?_;rintro e w4 ⟨rfl,r0⟩;have d5:=o_ b r0;refine hK.out _ _ d5 λb=>?_;clear hK K;try simp only[py]
      refine tq 9 (Zb ⟨F4.toArray⟩) b ?_;refine tq 10 (Zb ⟨F4.toArray⟩) b ?_;refine ZZ WR ?_ _;have r1:=X d5;clear b d5 r0 g9;go_wp2;go_roundg (gk-1)
      case measure=>omega
      case rel=>exact⟨y6+1,i5,F4,O,h1,R,R,Zj ⟨hF,l5.a⟩,r1.a⟩
def PX(s:y_)(c a:I1)(b:Bool):Option (I3):=if b=Zk then
  (if(c==[101,112,100])=Zk then(U_ E_ a).map λq=>[fk (y_.of q.1) q.2]
  else if(c==[112,101,114,102,116])=Zk then(df 0 a).map λd=>[kt (s.paths d)]
  else if(c==[99,111,109,112,97,114,101])=Zk then(df 0 a).map λd=>[⟨#[115,97,109,101,32]⟩++kt (s.paths d)]
  else if(c==[100,105,118,105,100,101])=Zk then(df 1 a).map λd=>Hq (d-1) s
  else N)
 else(ox s c).map (·.2)
def pF(base:Nat)(r:Option (I3))(e:Ending)(w':I6):Prop:=match r with
 | none=>e=Zd (Zq N 0 0)
 | some l=>∃v,e=Zd v/\l≠[]/\yt base v l w'
def NO(W:I6)(S:I4)(base:Nat)(h:base<=W):yt base (Zq (some ⟨W,0,N⟩) 1 1) [S] (W.alloc (Z #[S] 9)):=⟨R,Zj ⟨W,1,_,R,h,ZQ W _,Zy,WW,R,R⟩⟩
def Qb{S:I4}{r:Option (I3)}(b:r=some [S])(h:base<=W)(a:Gr w W):pF base r (Zd (Zq (some ⟨W,0,N⟩) 1 1)) (W.alloc (Z #[S] 9))/\Gr w (W.alloc (Z #[S] 9)):=by subst b;exact⟨⟨_,R,WU,NO W S base h⟩,o_ a ZN⟩
theorem Ho(y:I1):∀a:List (I1),a≠[]->f_ (a++[y]) [32]=f_ a [32]++[32]++y
 | [],h=>w_ R h
 | [x],_=>by rw[List.singleton_append,jo2,Lib.join_one,Lib.join_one];simp
 | x::z::r,_=>by
  have e:=Ho y (z::r) WU;rw[YA,YA,jo2,jo2,<-YA,e];simp
theorem Jb:∀a:List (I1),(∀x∈a,x.length<=5)->(f_ a [32]).length<=6*a.length
 | [],_=>by simp[f_]
 | [x],h=>by rw[Lib.join_one];have:=h x WU;simp;omega
 | x::z::r,h=>by
  have e:=Jb (z::r) (λq b=>h q (by simp at b|-;right;exact b));have:=h x WU;rw[jo2,qZ,Yq];simp only[Yq]at e|-;omega
def Qq(x:Mv):yJ x≠[]:=by
 obtain⟨f,t,u⟩:=x;intro h;have:(uY f t u).length=0:=by rw[show uY f t u=[]from h];rfl
 unfold uY at this;simp[xQ]at this
def MZ{s:y_}(a:s.ok):yY s.z s.wh s.fc s.b=jI s.mov:=qk3 (Ok.good a) (Ok.b0 a) (Ok.b1 a)
def LA{s:y_}(l:s.row PA)(S:s.ok)(a:I1)(w:I6):i_ c_ 74 #[Zc PA,Zb ⟨#[109,111,118,101,115]⟩,Zb ⟨a.toArray⟩,Za Zl] w λe w'=>pF w.heap.size (some [KY s]) e w'/\Gr w w':=by
 have hz:=jE.size l;have n:Y (∀W:I6,i_ c_ 54 #[PA] W λe w'=>∃v,e=Zd v/\np W v (jI s.mov) w'/\Gr W w'):=λW=>by rw[<-MZ S];exact JD S l W
 have D:Y (∀x∈jI s.mov,bi x):=λx hx=>zg _ _ _ _ x ((xq _).mem_iff.1 hx);have b4:(jI s.mov).length<=20480:=by rw[<-MZ S];exact iW _ _ _ _ 64
 have m:Y (KY s=if jI s.mov=[]then⟨#[110,111,110,101]⟩else xJ (f_ ((jI s.mov).map yJ) [32])):=X (by
  have:jI s.mov=[]↔s.mov=[]:=by rw[<-Yz,<-Yz,qj7]
  unfold KY;by_cases h:s.mov=[]
  .rw[qI h,qI (this.2 h)];rfl
  .rw[qF h,qF (λq=>h (this.1 q))])
 generalize jI _=i at n D b4 m;generalize KY s=MT at m|-;have G:(w.alloc (Z PA 70)).heap[w.heap.size]?=some (Z PA 70):=ZQ w _;have H:Gr w (w.alloc (Z PA 70)):=ZN;have a4:=qx l;go_in;go_upto_region 1 with fail;generalize w.alloc _=w1 at G H|-;go_upto_region 3 with(first|(refine ZD w PA G hz ?_)|(go_at_call 54;refine(n _).mono ?_;rintro e w2 ⟨v,rfl,hv,M⟩;obtain⟨pp,cap,rfl,a5,b3⟩:=bt hv));have a0:=X (o_ H M);have p:=X b3;go_wp2;go_loopg [10,11] i.length (λgk sv iv wr=>∃(k:Nat)(o:I1),k+gk=i.length/\iv=k/\sv=Zb ⟨o.toArray⟩/\o=f_ ((i.take k).map yJ) [32]/\Gr w2 wr)
 case atStart=>exact⟨0,[],O,R,R,by simp[f_],ZO⟩
 case round=>
  obtain⟨k,o,k1,rfl,rfl,b,d⟩:=hrel;have E:o.length<=200000:=by have:=Jb ((i.take k).map yJ) (λx hx=>by obtain⟨q,_,rfl⟩:=YL.1 hx;exact wg q);rw[<-b,YD,Xt]at this;omega
  by_cases b2:k<i.length
  .obtain⟨g,rfl,V,x1,x2⟩:=p k b2;have j:g<w2:=Zx V;have V:=(ZW d j).trans V;have x1:=(ZW d j).trans x1;have x2:=(ZW d j).trans x2;have B:bi i[k]:=D _ (Xs _);have A:=Yd b2;have a3:(k:Int)<(i.length:Int):=O;have a6:0<=(k:Int):=O;generalize i[k]=y at V x1 x2 B A;obtain⟨f,t,u⟩:=y;have hN:Y (∀W,ZL 55 #[ZJ f t u] W (Zb ⟨(yJ (f,t,u)).toArray⟩)):=λW=>mZ f t B.1 B.2 u W;have Q:=wg (f,t,u);have F:=X d;by_cases a1:k=0
   .have z:Y (yJ (f,t,u)=f_ ((i.take (k+1)).map yJ) [32]):=X (by rw[A,a1];simp[Lib.join_one]);have J:o=[]:=(by rw[b,a1];simp[f_]);subst J;have a2:∀W,(k_ .add ⟨#[]⟩ ⟨(yJ (f,t,u)).toArray⟩).run c_ W=.ok (Zb ⟨(yJ (f,t,u)).toArray⟩) W:=λW=>(by have e:=uu ⟨#[]⟩ ⟨(yJ (f,t,u)).toArray⟩ (by show 0+(yJ (f,t,u)).toArray.size<_;rw[Ya];omega) W;rw[e];congr 2);generalize yJ _=T5 at hN z a2 Q;subst a1;clear b d B A E j;go_wp2_with(go_at_call 55;refine Z0 (hN _) λw3 b0=>?_);go_roundg (gk-1)
    case measure=>omega
    case rel=>exact⟨1,_,O,R,R,z,o_ F b0⟩
   .have z:Y (o++[32]++yJ (f,t,u)=f_ ((i.take (k+1)).map yJ) [32]):=X (by
     rw[A,Ys];show _=f_ ((i.take k).map yJ++[yJ (f,t,u)]) [32]
     rw[Ho _ _ (by
      intro h;have:(i.take k).length=0:=(by rw[<-YD (f:=yJ),h];rfl);rw[Xt]at this;omega),<-b])
    have a7:(0:Int)<(k:Int):=O;have a2:∀W,(k_ .add ⟨o.toArray⟩ ⟨#[32]⟩).run c_ W=.ok (Zb ⟨(o++[32]).toArray⟩) W:=λW=>(by have e:=uu ⟨o.toArray⟩ ⟨#[32]⟩ (by show o.toArray.size+1<_;rw[Ya];omega) W;rw[e];congr 2);have a9:∀W,(k_ .add ⟨(o++[32]).toArray⟩ ⟨(yJ (f,t,u)).toArray⟩).run c_ W=.ok (Zb ⟨(o++[32]++yJ (f,t,u)).toArray⟩) W:=λW=>(by have e:=uu ⟨(o++[32]).toArray⟩ ⟨(yJ (f,t,u)).toArray⟩ (by show(o++[32]).toArray.size+(yJ (f,t,u)).toArray.size<_;rw[Ya,Ya,qZ];show o.length+1+_<_;omega) W;rw[e];congr 2);generalize o++[32]++yJ (f,t,u)=o2 at z a9;generalize o++[32]=o1 at a2 a9;generalize yJ _=T5 at hN a9 Q;clear b d B A E j a1;go_wp2_with(go_at_call 55;refine Z0 (hN _) λw3 b0=>?_);go_roundg (gk-1)
    case measure=>omega
    case rel=>exact⟨k+1,_,O,Vg,R,z,o_ F b0⟩
  .have ek:k=i.length:=O;have a3:¬(k:Int)<(i.length:Int):=O;have C:=o_ a0 d;have P:=ZR C;have K:=X C;rw[ek,XA]at b;by_cases T:i=[]
   .have J:o=[]:=(by rw[b,T];simp[f_]);subst J;have b1:Y (some [MT]=some [(⟨#[110,111,110,101]⟩:I4)]):=X (by rw[m.a,qI T]);clear b d m D p E C;go_wp2;go_ret;exact Qb b1 P K
   .have b1:Y (some [MT]=some [(⟨o.toArray⟩:I4)]):=(by rw[m.a,qF T,b];rfl);have a8:(o==[])=Zl:=(by rw[qM,b];obtain⟨x,r,hr⟩:=XI T;rw[hr,YM,Lib.join_cons];intro h;exact Qq x (List.append_eq_nil_iff.1 h).1);clear b d m D p E C;go_wp2;go_ret;exact Qb b1 P K
def Lq(z:I2)(c:Bool)(n:Int):yO z c n=0\/yO z c n=1\/yO z c n=2\/yO z c n=3:=by
 unfold yO;split
 .split<;>simp
 split<;>simp
def TR(w:I6):(l_ 238 (Zc #[Zb ⟨#[111,112,101,110]⟩,Zb ⟨#[109,97,116,101]⟩,Zb ⟨#[115,116,97,108,101,109,97,116,101]⟩,Zb ⟨#[100,101,97,100]⟩]) (I L 0)).run c_ w=.ok (Zb ⟨#[111,112,101,110]⟩) w:=WR
def TQ(w:I6):(l_ 238 (Zc #[Zb ⟨#[111,112,101,110]⟩,Zb ⟨#[109,97,116,101]⟩,Zb ⟨#[115,116,97,108,101,109,97,116,101]⟩,Zb ⟨#[100,101,97,100]⟩]) (I L 1)).run c_ w=.ok (Zb ⟨#[109,97,116,101]⟩) w:=WR
def TO(w:I6):(l_ 238 (Zc #[Zb ⟨#[111,112,101,110]⟩,Zb ⟨#[109,97,116,101]⟩,Zb ⟨#[115,116,97,108,101,109,97,116,101]⟩,Zb ⟨#[100,101,97,100]⟩]) (I L 2)).run c_ w=.ok (Zb ⟨#[115,116,97,108,101,109,97,116,101]⟩) w:=WR
def TN(w:I6):(l_ 238 (Zc #[Zb ⟨#[111,112,101,110]⟩,Zb ⟨#[109,97,116,101]⟩,Zb ⟨#[115,116,97,108,101,109,97,116,101]⟩,Zb ⟨#[100,101,97,100]⟩]) (I L 3)).run c_ w=.ok (Zb ⟨#[100,101,97,100]⟩) w:=WR
def ixo{a:Int}(h:a=0\/a=1\/a=2\/a=3)(w:I6):(l_ 238 (Zc #[Zb ⟨#[111,112,101,110]⟩,Zb ⟨#[109,97,116,101]⟩,Zb ⟨#[115,116,97,108,101,109,97,116,101]⟩,Zb ⟨#[100,101,97,100]⟩]) a).run c_ w=.ok (Zb ⟨(rx a).toArray⟩) w:=by
 obtain rfl|rfl|rfl|rfl:=h
 .exact TR w
 .exact TQ w
 .exact TO w
 exact TN w
def NM{a:Int}(h:a=0\/a=1\/a=2\/a=3):(rx a).length<=9:=by rcases h with rfl|rfl|rfl|rfl<;>decide
def MX{s:y_}(f:s.row PA)(o:s.ok)(a:I1)(w:I6):i_ c_ 74 #[Zc PA,Zb ⟨#[108,111,111,107]⟩,Zb ⟨a.toArray⟩,Za Zl] w λe w'=>pF w.heap.size (S [HD s]) e w'/\Gr w w':=by
 have K:=jE.size f;obtain⟨c0,c1,c2,c3⟩:=Ok.clk o;obtain⟨G,H⟩:=Ok.king o;have d:Y (∀W:I6,ZL 112 #[Zc PA] W (Zc (xB (kz s.z s.wh) (s.mov.length:Int) (yO s.z (kz s.z s.wh) (s.mov.length:Int))))):=X (λW=>eL f (Ok.good o) (Ok.b0 o) (Ok.b1 o) c0 c1 c2 c3 G H W);have b:Y (HD s=xJ (rx (yO s.z (kz s.z s.wh) (s.mov.length:Int))++if kz s.z s.wh=Zk then[32,99,104,101,99,107]else[])):=X R;have v:=Lq s.z (kz s.z s.wh) (s.mov.length:Int);generalize yO s.z (kz s.z s.wh) (s.mov.length:Int)=n at d b v;generalize kz s.z s.wh=j at d b;generalize (s.mov.length:Int)=u at d;generalize HD s=E at b|-;have k:(w.alloc (Z PA 70)).heap[w.heap.size]?=S (Z PA 70):=ZQ w _;have l:Gr w (w.alloc (Z PA 70)):=ZN;have C:=qx f;clear f o c0 c1 c2 c3 G H;go_in;go_upto_region 1 with fail;generalize w.alloc (Z PA 70)=w1 at k l|-;go_upto_region 15 with(first|(refine ZD w.heap.size PA k K ?_)|(go_at_call 112;refine Z0 (d.a _) λg q=>?_;have D:=Z7 g (Z #[Za Zl,I L 0,I L 0] 186))|(refine ZU R 186 _ _ R g.heap.size (xB j u n) R R 186 #[Za Zl,I L 0,I L 0] (by with_reducible exact D) vI R (xw _ _ _) ?_));have m:Gr g ((g.alloc (Z #[Za Zl,I L 0,I L 0] 186)).setRow g.heap.size (xB j u n)):=ZN.setRow _ Zy _;have h:((g.alloc (Z #[Za Zl,I L 0,I L 0] 186)).setRow g.heap.size (xB j u n)).heap[g.heap.size]?=S (Z (xB j u n) 186):=Zt D;generalize (g.alloc (Z #[Za Zl,I L 0,I L 0] 186)).setRow g.heap.size (xB j u n)=P at m h|-;generalize g.heap.size=F at h|-;have M:P.cell? ⟨F,0,N⟩=S (Za j):=by rw[Zs h];rfl
 have T:P.cell? ⟨F,2,N⟩=S (I L n):=by rw[Zs h];rfl
 have y:=o_ l (o_ q m);have r:=ZR y;have p:=X y;clear l q m k h d C D y;have A:=ixo v;have B:=NM v;clear v;generalize rx n=i at A B b;cases j
 .have x:Y (S [E]=S [(⟨i.toArray⟩:I4)]):=X (by rw[b.a];simp[xJ]);clear b;go_wp2;go_ret;exact Qb x.a r p.a
 .have x:Y (S [E]=S [(⟨(i++[32,99,104,101,99,107]).toArray⟩:I4)]):=X (by rw[b.a];simp[xJ]);have J:∀W,(k_ .add ⟨i.toArray⟩ ⟨#[32,99,104,101,99,107]⟩).run c_ W=.ok (Zb ⟨(i++[32,99,104,101,99,107]).toArray⟩) W:=λW=>by have e:=uu ⟨i.toArray⟩ ⟨#[32,99,104,101,99,107]⟩ (by show i.toArray.size+6<_;rw[Ya];omega) W;rw[e];congr 2
  generalize i++[32,99,104,101,99,107]=Q at x J;clear b;go_wp2;go_ret;exact Qb x.a r p.a
