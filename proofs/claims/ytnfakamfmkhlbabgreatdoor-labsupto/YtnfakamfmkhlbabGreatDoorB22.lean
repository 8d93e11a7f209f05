import Derived.Test.YtnfakamfmkhlbabGreatDoorB21
set_option maxRecDepth 100000
set_option maxHeartbeats 4000000
set_option linter.all false
open Go.Value renaming int->I,bool->Za,string->Zb,agg->Zc,tuple->Ze,slice->Zq
open Go.IntKind renaming i64->L,u8->Zg,u64->Zh
open Go.Obj renaming cells->Z
open Go.Ending renaming returned->Zd
open Or renaming inl->Zi,inr->Zj
open Option renaming some->S,none->N
open Bool renaming true->Zk,false->Zl
open Decidable renaming decide->Zm
open Go.RowKit renaming Hid->Y
open Go renaming World->I6,Value->I7
namespace Go.Proofs.YtnfakamfmkhlbabGreatDoor.C
open Go.ChangeShapes Go.WideShapes Go.ChangeAt Go.RowKit Go.Shelf Go.Proofs.YtnfakamfmkhlbabGreatDoor.P Tryz
attribute [local go_sem] qd qe Oper.semAt_some
variable {z:I2}{wh:Bool}{b h m:Int}{PA A M:I0}{fc:I5}{w W a w' w1 V:I6}{f n i k g base d e l j x B Bp:Nat}{v:I7}{u:UInt8}{Q:Nat->Obj->Prop}{rs:I3}{y:I1}
abbrev Ct2:=I4 × Nat
def ctC(c:Ct2):List I7:=[Zb c.1,I Zh (c.2:Int)]
def Lc(l:List Ct2):List I7:=l.flatMap ctC
theorem JO(l:List Ct2)(c:Ct2):Lc (l++[c])=Lc l++ctC c:=by simp[Lc]
def Cts(base:Nat)(v:I7)(l:List Ct2)(w:I6):Prop:=w.ownsRow base 37 2 v l.length (Lc l)
theorem PN:(prog.info? 37).map (λi=>(i.zero,i.size,i.bytes))=S (S (Zc #[Zb ⟨#[]⟩,I Zh 0]),2,24):=WR
theorem Jh{l:List Ct2}(h:Cts base v l w):∀k,v.ownBlock=S k->base<=k:=by exact No
def HQ(d:Nat)(z:I2)(wh:Bool)(fc:I5)(b:Int)(l:List Mv):List Ct2:=l.map λx=>(xJ (yJ x),behN d z wh fc b x)
def Jq(s:I4)(d n:Int)(base:Nat)(e:Ending)(w':I6):Prop :=
 (∃k,iP s k/\e=Zd (Ze #[mU,I L k])) ∨
 (∃p,xG s=S p/\xP p=Zk/\¬ (1<=d/\d<=3)/\e=Zd (Ze #[mU,I L 5])) ∨
 (∃p,xG s=S p/\xP p=Zk/\(1<=d/\d<=3)/\¬ (n=1\/n=2)/\e=Zd (Ze #[mU,I L 3])) ∨
 (∃p v,∃m:Nat,xG s=S p/\xP p=Zk/\d=(m:Int)+1/\m<=2/\(n=1\/n=2)/\e=Zd (Ze #[v,I L 0]) ∧
  Cts base v (HQ m (xM p) p.white (yC p.castle) p.behind (jI (xC (xM p) p.white (yC p.castle) p.behind))) w')
structure Rq(b1:Nat)(A:I0)(w1 W:I6):Prop where
 p:W.heap[b1]?=S (Z A 70)
 gr:Gr w1 W
theorem Rq.next{b:Nat}(h:Rq b A w1 W)(g:Gr W a):Rq b A w1 a:=⟨(Zz g (xe h.p)).trans h.p,Gr.trans h.gr g⟩
theorem Hs(w:I6)(S:I4)(x:Nat):∀j a,[Value.string S,I Zh x][j]?=some a->(w.alloc (Z #[Zb S,I Zh x] 37)).cell? ((⟨w.heap.size,0,N⟩:Addr).add j)=some a:=λj a b=>by
 rw[X2,Z2,Z8 _ _ _ _ R,<-qO];exact b
theorem KB(s:I4)(hs:s.size<4294967281)(D n:Int)(w:I6) :
 Calls prog 167 #[Zb s,I L D,I L n] w λe w'=>Jq s D n w.heap.size e w'/\Gr w w':=by
 have h1:Y (Calls prog 53 #[Zb s] w λe w'=>zA s e/\Gr w w'):=X (qvq s hs w);obtain⟨p,hr,q,z⟩|⟨k,hk,a0,z⟩:=xy s
 .have H:Y (ZL 53 #[Zb s] w (Ze #[Zc (jV p),I L 0])):=X (h1.a.mono λe w' h=>⟨z e h.1,h.2⟩);have E:=jo hr;have h2:=E.size;have h0:=X (qx E);by_cases hd:1<=D/\D<=3
  .by_cases hn:n=1\/n=2
   .obtain⟨i0,hi,g0,g1,g2⟩:=We PN;have f6:=X hi;clear hi;obtain⟨m,hm⟩:∃m:Nat,D=(m:Int)+1:=⟨(D-1).toNat,O⟩;have f8:m<=2:=O;have o:=Ok.of hr q;have r:=F5 E;have a:Y (∀base v w',Cts base v (HQ m (xM p) p.white (yC p.castle) p.behind (yY (xM p) p.white (yC p.castle) p.behind)) w'->Jq s D n base (Zd (Ze #[v,I L 0])) w'):=X λbase v w' hv=>Zj (Zj (Zj ⟨p,v,m,hr,q,hm,f8,hn,R,by rw[<-qk3 o.good o.b0 o.b1];exact hv⟩));have ed:IntKind.i64.wrap (D-1)=(m:Int):=Vc;have q1:¬ D<1:=O;have q2:¬ 3<D:=O;clear hm hd;have f1:=Kj o.good o.b0 o.b1;have h8:Y (∀W:I6,Calls prog 54 #[Zc (jV p)] W λe w'=>∃v,e=Zd v/\np W.heap.size v (yY (xM p) p.white (yC p.castle) p.behind) w'/\Gr W w'):=X λW=>JD o r W;have M:Y (∀f t u,(f,t,u)∈yY (xM p) p.white (yC p.castle) p.behind->(∀W:I6,ZL 55 #[Zc (ZJ f t u)] W (Zb (xJ (yJ (f,t,u)))))/\∀W:I6,Calls prog 106 #[Zc (jV p),Zc (ZJ f t u)] W λe w'=>∃Q,e=Zd (Zc Q)/\(∀V:I6,ZL 163 #[Zc Q,I L m] V (I Zh (behN m (xM p) p.white (yC p.castle) p.behind (f,t,u):Nat)))/\Gr W w'):=X λf t u hx=>by have a9:=f1.mem_iff.1 hx;obtain⟨hf,ht,_⟩:=o.mv a9;refine⟨λW=>mZ f t hf ht u W,λW=>(He o r a9 W).mono ?_⟩;rintro e w' ⟨Q,rfl,hq,hg⟩;exact⟨Q,R,λV=>na m O (o.next a9) hq V,hg⟩
    have d5:(yY (xM p) p.white (yC p.castle) p.behind).length<=20480:=iW _ _ _ _ 64;have b7:Y (∀l,HQ m (xM p) p.white (yC p.castle) p.behind l=l.map λx=>(xJ (yJ x),behN m (xM p) p.white (yC p.castle) p.behind x)):=X λ_=>R;rw[b7.a]at a;generalize behN m (xM p) p.white (yC p.castle) p.behind=b2 at M a;generalize yY (xM p) p.white (yC p.castle) p.behind=G at h8 M d5 a;obtain⟨cf,b6⟩:∃cf:Mv->Ct2,cf=λx=>(xJ (yJ x),b2 x):=⟨_,R⟩;rw[<-b6]at a;generalize jV p=A at H h2 h0 h8 M;clear h1 z E hr q hs b7 f1 o r;go_enter func167,ntmps167;go_upto_region 2 with(first
     | (go_at_call 53;refine Z0 H.a λd b=>?_)
     | (refine ZC d.heap.size A Zv h2 h0.a ?_))
    generalize g8:(d.alloc (Z zeroCells70 70)).setRow d.heap.size A=w4;have h3:Tb w d.heap.size A w4:=⟨Gr.trans b (by rw[<-g8];exact ZN.setRow _ Zy _),by rw[<-g8];exact Zt (Z7 d _),by rw[<-g8,Xa,Z3];omega⟩;generalize d.heap.size=b1 at h3 |-;clear g8 b H h0;go_upto_region 4 with fail;go_cut [38]from 29 (λg3 wx=>g3=Za Zl/\wx=w4)
    case first=>
     obtain rfl|rfl:=hn
     .exact OZ
     .exact OZ
    case rest=>
     obtain⟨rfl,f9⟩:=hcut;subst f9;have f2:=X (qy h3.p);go_upto_region 10 with(first
      | (go_at_call 54;refine(h8.a _).mono ?_;rintro e w1 ⟨v,rfl,hv,a4⟩;obtain⟨pp,cap,rfl,g4,c4⟩:=bt hv)
      | (refine ql Vb _ R b1 R h2 f2.a ?_))
     have d2:=X (Gr.trans h3.gr a4);have a7:=X ((Zz a4 (xe h3.p)).trans h3.p);have a1:=X c4;clear h8 hv a4 h3 f2 c4 hn;go_wp2_with fail;go_loopg [10,12,13] G.length (λg v i _ wr=>∃k:Nat,k+g=G.length/\i=I L k/\Cts w1.heap.size v ((G.take k).map cf) wr/\Gr w1 wr)
     case atStart=>exact⟨0,O,R,⟨R,Zi ⟨R,R⟩⟩,ZO⟩
     case round=>
      obtain⟨k,k1,rfl,P,h4⟩:=hrel;by_cases g9:k<G.length
      .obtain⟨gg,rfl,x0,x1,x2⟩:=a1.a k g9;have CQ:gg<w1.heap.size:=Zx x0;have f0:=(Zz h4 (xe a7.a)).trans a7.a;have T:G[k]∈G:=Xs _;have a8:Y (G.take (k+1)=G.take k++[G[k]]):=X (Yd g9);generalize G[k]=y at x0 x1 x2 T a8;obtain⟨f,t,u⟩:=y;obtain⟨f4,b5⟩:=M.a f t u T;have a3:=X f4;have k4:=X b5;have h7:Y (cf (f,t,u)=(xJ (yJ (f,t,u)),b2 (f,t,u))):=X (by rw[b6]);generalize xJ (yJ (f,t,u))=h6 at a3 h7;generalize b2 (f,t,u)=xv at k4 h7;have f7:((G.take k).map cf).length=k:=by rw[YD,Xt];omega
       have d4:Y ((G.take (k+1)).map cf=(G.take k).map cf++[(h6,xv)]):=X (by rw[a8.a,Ys,<-h7.a];rfl);obtain⟨l0,d3⟩:∃l,Y (l=(G.take k).map cf):=⟨_,X R⟩;rw[<-d3.a]at P f7 d4;have h9:=X P;have J:=X h4;have k0:0<=(k:Int):=O;have kl:(k:Int)<(G.length:Int):=O;have g7:=ZR h4;clear P h4 f4 b5 T M a8 h7 d3;go_upto_region 13 with fail;have b3:Rq b1 A w1 wr.drew:=⟨f0,J.a.drew⟩;have b4:Gr wr wr.drew:=ZO.drew;refine ZT (S:=λW=>Rq b1 A w1 W/\Gr wr W) WR ⟨b3,b4⟩ (λB=>?_);clear b3 b4;refine ty 0 (Zc A) R (zy h2 Vb _ R b1 R (λ_ h=>qy h.1.p)) B ?_;refine tq 1 (Zq (S ⟨gg,0,N⟩) G.length cap) B ?_;refine tq 2 (I L k) B ?_;refine tq 3 (.pointer (S ⟨gg,k*3,N⟩)) B ?_;refine wpAnyH_take (i:=4) (v:=Zc (ZJ f t u)) R WR WR WR (λ_ _ _ h=>h) (Or.inl ⟨Vb,λw' hw=>(by
        have e0:=(ZW hw.1.gr CQ).trans x0;have e1:=(ZW hw.1.gr CQ).trans x1;have e2:=(ZW hw.1.gr CQ).trans x2;go_simp;try rfl)⟩) B ?_
       simp only[py];refine tq 6 (I L D) B ?_;refine ZB 7 (I L m) R (λw' hw=>by go_simp;first|done|exact ed) B ?_;refine rd 5 λK hK=>?_;go_simp;refine(k4.a _).mono ?_;rintro e w2 ⟨Q,rfl,hq,c5⟩;refine hK.out _ _ ⟨B.1.next c5,Gr.trans B.2 c5⟩ (λB=>?_);clear hK K;try simp only[py]
       refine rd 8 λK hK=>?_;go_simp;refine Z0 (hq _) λd b=>?_;refine hK.out _ _ ⟨B.1.next b,Gr.trans B.2 b⟩ (λB=>?_);clear hK K;try simp only[py]
       refine rd 9 λK hK=>?_;go_simp;refine hK.out _ _ B λB=>?_;clear hK K;try simp only[py]
       refine ZZ WR ?_ _;have y0:=(ZW B.1.gr CQ).trans x0;have y1:=(ZW B.1.gr CQ).trans x1;have y2:=(ZW B.1.gr CQ).trans x2;have c6:=X B.1.gr;have f3:=X (dU h9.a B.2);clear B hq h9 J x0 x1 x2 f0 k4;go_wp2_with(first
        | (go_at_call 55;refine Z0 (a3.a _) λw5 d0=>?_;have d1:=Gr.trans c6.a d0;have g6:=ZR d1;have a2:=X (dU f3.a d0);have f5:∀j u',[Value.string h6,I Zh xv][j]?=S u'->(w5.alloc (Z #[Zb h6,I Zh xv] 37)).cell? ((⟨w5.heap.size,0,N⟩:Addr).add j)=S u':=Hs w5 h6 xv)
        | (at_builtin;refine Xv _ R (.tmp 59) (.tmp 67) 33 rfl w1.heap.size 37 i0 (Zc #[Zb ⟨#[]⟩,I Zh 0]) 2 24 underlying33 f6.a g0 g1 g2 R WW u10 l0.length (Lc l0) R (a2.a.alloc _) ⟨w5.heap.size,0,N⟩ 1 1 [Zb h6,I Zh xv] R R f5 Vi Vk O WX ?_;intro v' w7 a6 a5 g5))
       go_roundg (gk-1)
       case measure=>omega
       case rel=>
        refine⟨k+1,O,Vg,?_,?_⟩
        .unfold Cts;rw[d4.a,JO,qZ];exact a6
        .exact(d1.alloc _ _).grown a5 WX (Jh a2.a)
      .have ek:k=G.length:=O;rw[ek,XA]at P;have h9:=X P;have J:=X h4;clear P h4 a1 M a7;subst ek;go_wp2_with fail;go_ret2;exact⟨a.a _ _ _ (qxn h9.a (ZR d2.a)),Gr.trans d2.a J.a⟩
   .have a:Y (∀base w',Jq s D n base (Zd (Ze #[mU,I L 3])) w'):=X λbase w'=>Zj (Zj (Zi ⟨p,hr,q,hd,hn,R⟩));have q1:¬ D<1:=O;have q2:¬ 3<D:=O;have n1:(n != 1)=Zk:=by rw[qU];exact λe=>hn (Zi e)
    have n2:(n != 2)=Zk:=by rw[qU];exact λe=>hn (Zj e)
    have h5:Y (∀W:I6,ZL 53 #[Zb s] w (Ze #[Zc (jV p),I L 0])):=X λ_=>H.a;generalize jV p=A at H h2 h0 h5;clear h1 h5 z E hr q hs;go_enter func167,ntmps167;go_upto_region 2 with(first
     | (go_at_call 53;refine Z0 H.a λd b=>?_)
     | (refine ZC d.heap.size A Zv h2 h0.a ?_))
    have F:Gr w ((d.alloc (Z zeroCells70 70)).setRow d.heap.size A):=Gr.trans b (ZN.setRow _ Zy _);generalize (d.alloc (Z zeroCells70 70)).setRow d.heap.size A=w4 at F |-;clear b H h0;clear hn hd;exact O5
  .have a:Y (∀base w',Jq s D n base (Zd (Ze #[mU,I L 5])) w'):=X λbase w'=>Zj (Zi ⟨p,hr,q,hd,R⟩);have h5:Y (∀W:I6,ZL 53 #[Zb s] w (Ze #[Zc (jV p),I L 0])):=X λ_=>H.a;generalize jV p=A at H h2 h0 h5;clear h1 h5 z E hr q hs;go_enter func167,ntmps167;go_upto_region 2 with(first
    | (go_at_call 53;refine Z0 H.a λd b=>?_)
    | (refine ZC d.heap.size A Zv h2 h0.a ?_))
   have F:Gr w ((d.alloc (Z zeroCells70 70)).setRow d.heap.size A):=Gr.trans b (ZN.setRow _ Zy _);generalize (d.alloc (Z zeroCells70 70)).setRow d.heap.size A=w4 at F |-;clear b H h0;by_cases q1:D<1
   .clear hd;exact O5
   .have q2:3<D:=O;clear hd;exact O5
 .have H:Y (ZL 53 #[Zb s] w (Ze #[Zc zeroCells70,I L k])):=X (h1.a.mono λe w' h=>⟨z e h.1,h.2⟩);have a:Y (∀base w',Jq s D n base (Zd (Ze #[mU,I L k])) w'):=X λbase w'=>Zi ⟨k,a0,R⟩;have k2:(k != 0)=Zk:=Oo;have k3:(k==0)=Zl:=by rw[qM];exact hk
  clear h1 z a0 hk hs;go_enter func167,ntmps167;go_upto_region 2 with(first
   | (go_at_call 53;refine Z0 H.a λd b=>?_)
   | (refine ZC d.heap.size zeroCells70 Zv xF xH ?_))
  have F:Gr w ((d.alloc (Z zeroCells70 70)).setRow d.heap.size zeroCells70):=Gr.trans b (ZN.setRow _ Zy _);generalize (d.alloc (Z zeroCells70 70)).setRow d.heap.size zeroCells70=w4 at F |-;clear b H;exact O5
theorem P8{s:Nat}{e:TypeId}{j:List I7}{i:I6}(h:W.ownsRow base e s v n j)(f:zm g W i)(o:g<base):i.ownsRow base e s v n j:=by
 refine⟨h.1,?_⟩;obtain l|⟨k,cap,cur,m,b,d,a⟩:=h.2
 .exact Zi l
 .exact Zj ⟨k,cap,cur,m,b,f.at d O,a⟩
structure Qi(g n:Nat)(I:I6->Prop)(ga gm:Nat)(wn:Int)(PA:I0)(b1 b2:Nat)(base:Nat)(v:I7)(l:List Ct2)(w W:I6):Prop where
 c:W.heap[b1]?=S (Z (ctrA ga gm wn g n) 78)
 p:W.heap[b2]?=S (Z PA 70)
 wt:Wt W
 i:I W
 fx:zm g w W
 own:Cts base v l W
theorem Qi.next{m:I6->Prop}{wn:Int}{l:List Ct2}{b:I6}(h:Qi g n m i j wn PA d e base v l w W)(a:LD g)(f:zm g W b)(k:d≠g)(o:e≠g)(q:g<base)(r:m b):Qi g n m i j wn PA d e base v l w b :=
 ⟨f.at h.c k,f.at h.p o,h.wt.fx a f,r,zm.trans h.fx f,P8 h.own f q⟩
structure Pa(ga gm:Nat)(wn:Int)(g n:Nat)(PA:I0)(b1 b2 b3 f t:Nat)(u:UInt8)(W:I6):Prop where
 c:W.heap[b1]?=S (Z (ctrA ga gm wn g n) 78)
 p:W.heap[b2]?=S (Z PA 70)
 m:W.heap[b3]?=S (Z (ZJ f t u) 87)
theorem Pa.next{wn:Int}{b t:Nat}{i:I6}(h:Pa j k wn g n PA b d e f t u W)(x:zm g W i)(l:b≠g)(o:d≠g)(q:e≠g):Pa j k wn g n PA b d e f t u i:=⟨x.at h.c l,x.at h.p o,x.at h.m q⟩
theorem Pa.grown{r w:Nat}{wn:Int}{t:Nat}{b:I6}{l:List Ct2}(h:Pa r w wn g n PA d i j f t u W)(own:Cts base v l W)(k:W.grownBy b v.ownBlock):Pa r w wn g n PA d i j f t u b:=by
 have no:∀q c ty,W.heap[q]?=S (Z c ty)->ty≠37->S q≠v.ownBlock:=λq c ty e y o=>by
  obtain⟨rfl,_⟩|⟨x,cap,cur,rfl,_,a,_⟩:=own.2
  .simp[Value.ownBlock]at o
  .obtain rfl:q=x:=by simpa[Value.ownBlock]using o
   rw[e]at a;injection a with a;injection a with _ a _;exact y a
 exact⟨(k.block _ (xe h.c) (no _ _ _ h.c WW)).trans h.c,(k.block _ (xe h.p) (no _ _ _ h.p WW)).trans h.p,(k.block _ (xe h.m) (no _ _ _ h.m WW)).trans h.m⟩
theorem Ji{a b:Nat}{wn:Int}(h:W.heap[a]?=S (Z (ctrA b d wn g n) 78)):W.cell? ⟨a,0,N⟩=S (.func (.func b) #[] #[])/\W.cell? ⟨a,1,N⟩=S (.func (.func d) #[] #[])/\W.cell? ⟨a,2,N⟩=S (I L wn)/\W.cell? ⟨a,3,N⟩=S (svN g n):=by refine⟨?_,?_,?_,?_⟩<;>(rw[qn h];rfl)
theorem KE{m2:I6->Prop}{G H gi:Nat}{wn:Int}(mi:Qh g n m2)(aw:LD g)(wy:LB wn G H gi)(d:Nat)(hd:d+1<=3){gg:Int}(o:Ok z wh fc b h gg)(r:jE z wh fc b h gg PA)(w:I6)(hi:m2 w)(M:Wt w) :
 Calls prog 26 #[Zc (ctrA G H wn g n),Zc PA,I L (d+1:Nat)] w λe w'=>∃v,e=Zd v/\Cts w.heap.size v (HQ d z wh fc b (jI (xC z wh fc b))) w'/\zm g w w'/\m2 w':=by
 have hz:=r.size;obtain⟨i0,b3,k0,k3,k4⟩:=We PN;have h8:=X b3;clear b3;obtain⟨S0,l2,g8⟩:=mi.ob w hi;have l4:g<w.heap.size:=(qB.1 g8).1;obtain⟨x1,x2⟩:=x6 w (Z (ctrA G H wn g n) 78) (Z PA 70);have n2:Gr w ((w.alloc (Z (ctrA G H wn g n) 78)).alloc (Z PA 70)):=ZN.al;have h0:((w.alloc (Z (ctrA G H wn g n) 78)).alloc (Z PA 70)).heap.size=w.heap.size+2:=WU;obtain⟨E,a0⟩:∃l,Y (l=jI (xC z wh fc b)):=⟨_,X R⟩;obtain⟨f1,n4⟩:∃f,Y (f=behN d z wh fc b):=⟨_,X R⟩;obtain⟨cf,f7⟩:∃cf:Mv->Ct2,Y (cf=λx=>(xJ (yJ x),f1 x)):=⟨_,X R⟩;have f9:HQ d z wh fc b (jI (xC z wh fc b))=E.map cf:=by rw[f7.a,n4.a,a0.a];rfl
 rw[f9];clear f9;go_enter func26,ntmps26;go_upto_region 2 with fail;show Code.wp _ _ _ _ ((w.alloc (Z (ctrA G H wn g n) 78)).alloc (Z PA 70));generalize ((w.alloc (Z (ctrA G H wn g n) 78)).alloc (Z PA 70))=w0 at x1 x2 n2 h0 |-;have b4:m2 w0:=mi.st _ _ hi (Fr.of_gr n2);have d5:=M.gr n2;obtain⟨xs,b5,mk⟩:=wy.list r o w0 d5;have a9:Y (Calls prog 49 #[Zc (zG G H),Zc PA] w0 λe w'=>∃v,e=Zd v/\w'.ownsRow w0.heap.size 87 3 v xs.length (vO (jI xs))/\Gr w0 w'):=X (qko hz mk);have f0:xs.length=(jI xs).length:=(qj7 xs).symm;rw[b5,<-a0.a]at a9 f0;rw[f0]at a9;have l1:E.length<=1000000:=by rw[a0.a,qj7];exact bu z wh fc b
 have n3:Y (∀W W',m2 W->Gr W W'->m2 W'):=X λW W' hi k=>mi.st W W' hi (Fr.of_gr k);have h1:Y (∀W W',m2 W->Fr (λk _=>k=g) W W'->m2 W'):=X mi.st;have A:Y (∀f t u,(f,t,u)∈jI (xC z wh fc b)->(∀W:I6,ZL 38 #[Zc (ZJ f t u)] W (Zb (xJ (yJ (f,t,u)))))/\(∀W:I6,vJ W->Calls prog 50 #[Zc PA,Zc (ZJ f t u)] W λe w'=>∃Q,e=Zd (Zc Q)/\(∀V:I6,m2 V->Wt V->Calls prog 25 #[Zc (ctrA G H wn g n),Zc Q,I L d] V λe w'=>e=Zd (I Zh (behN d z wh fc b (f,t,u):Nat))/\zm g V w'/\m2 w')/\Gr W w')):=X λf t u hx=>by have h5:=(xq _).mem_iff.1 hx;obtain⟨c0,c1,c2,c3⟩:=o.clk;obtain⟨hf,ht,hu,k1,k2⟩:=o.mv h5;refine⟨λW=>gK f t hf ht u W,λW hH=>(iJ r f t u hf ht k1 k2 c0 c1 c2 c3 W hH).mono ?_⟩;rintro e w' ⟨Q,rfl,hq,hg⟩;exact⟨Q,R,λV hi M=>HZ mi aw wy d O (o.next h5) hq V hi M,hg⟩
 rw[<-a0.a,<-n4.a]at A;clear g8 o r b5 f0 mk mi wy a0 n4;obtain⟨d0,d1,d2,d3⟩:=Ji x1;go_upto_region 3 with(first
  | (refine ZD (w.heap.size+1) PA (by with_reducible exact x2) hz ?_)
  | (go_at_call 49;refine a9.a.mono ?_;rintro e w1 ⟨v,rfl,hv,J⟩;obtain⟨pp,cap,rfl,k9,g0⟩:=rJ hv))
 have b2:=X g0;have b7:Qi g n m2 G H wn PA w.heap.size (w.heap.size+1) w1.heap.size (Zq N 0 0) [] w1 w1:=⟨(Zz J (xe x1)).trans x1,(Zz J (xe x2)).trans x2,d5.gr J,n3.a _ _ b4 J,zm.refl _ _,⟨R,Zi ⟨R,R⟩⟩⟩;have h4:=X b7.wt;have n0:g<w1.heap.size:=by have:=ZR J;omega
 have g3:=Gr.trans n2 J;have CQ:w.heap.size≠g:=O;have D:w.heap.size+1≠g:=O;have h2:=ZR g3;have b1:Y (∀k (hk:k<E.length),∀g',pp=S ⟨g',0,N⟩->g'≠g):=X λk hk g' e=>by
  obtain⟨m1,_⟩|⟨g2,k5,k8,m1,l3,_⟩:=hv.2
  .injection m1 with m1 _ _;rw[e]at m1;cases m1
  .injection m1 with m1 _ _;rw[e]at m1;injection m1 with m1;injection m1 with m1 _ _;omega
 clear a9 g0 hv J x1 x2 d0 d1 d2 d3 b4 d5 n2 h0 hi M;go_loopg [7,9,15] E.length (λgk v _ i wr=>∃k:Nat,k+gk=E.length/\i=I L k/\Qi g n m2 G H wn PA w.heap.size (w.heap.size+1) w1.heap.size v ((E.take k).map cf) w1 wr)
 case atStart=>exact⟨0,O,R,b7⟩
 case round=>
  clear b7;obtain⟨k,k1,rfl,hD⟩:=hrel;by_cases m0:k<E.length
  .obtain⟨g',g9,x0,x1,x2⟩:=b2.a k m0 m0;have P:=b1.a k m0 g' g9;subst g9;have x0:=Fr.cell hD.fx x0 (λ_ _=>P);have x1:=Fr.cell hD.fx x1 (λ_ _=>P);have x2:=Fr.cell hD.fx x2 (λ_ _=>P);have T:E[k]∈E:=Xs _;have d4:Y (E.take (k+1)=E.take k++[E[k]]):=X (Yd m0);generalize E[k]=y at x0 x1 x2 T d4;obtain⟨f,t,u⟩:=y;obtain⟨h3,f6⟩:=A.a f t u T;have b6:=X h3;have b0:=X f6;have a5:Y (cf (f,t,u)=(xJ (yJ (f,t,u)),f1 (f,t,u))):=X (by rw[f7.a]);generalize xJ (yJ (f,t,u))=m6 at b6 a5;generalize f1 (f,t,u)=xv at b0 a5;have h9:((E.take k).map cf).length=k:=by rw[YD,Xt];omega
   have g6:Y ((E.take (k+1)).map cf=(E.take k).map cf++[(m6,xv)]):=X (by rw[d4.a,Ys,<-a5.a];rfl);obtain⟨l0,g5⟩:∃l,Y (l=(E.take k).map cf):=⟨_,X R⟩;rw[<-g5.a]at hD h9 g6;clear g5 d4 a5;have F:=X hD;clear hD h3 f6 T A;go_upto_region 5 with fail;have g7:=ZQ wr (Z (ZJ f t u) 87);have c6:Gr wr (wr.alloc (Z (ZJ f t u) 87)):=ZN;have l5:=zm.size F.a.fx;have a4:wr.heap.size≠g:=O;have n1:=F.a.next aw (zm.of c6.drew) CQ D n0 (n3.a _ _ F.a.i c6.drew);have f4:Pa G H wn g n PA w.heap.size (w.heap.size+1) wr.heap.size f t u (wr.alloc (Z (ZJ f t u) 87)).drew:=⟨n1.c,n1.p,g7⟩;have ed:IntKind.i64.wrap (((d+1:Nat):Int)-1)=(d:Int):=Vc;have h6:IntKind.i64.wrap (d:Int)=d:=Vc;clear F x0 x1 x2 g7 c6;refine ZT (S:=Pa G H wn g n PA w.heap.size (w.heap.size+1) wr.heap.size f t u) WR f4 (λB=>?_);clear f4;refine tq 0 (u7) B ?_;refine wpAnyH_take (i:=1) (v:=Zc (ZJ f t u)) R WR WR WR (λ_ _ _ h=>h) (Or.inl ⟨Vb,λw' M=>(by
    obtain⟨e0,e1,e2⟩:=qm M.m;go_simp;try rfl)⟩) B ?_
   simp only[py];refine wpAnyH_take (i:=3) (v:=Zc (ctrA G H wn g n)) R WR WR WR (λ_ _ _ h=>h) (Or.inl ⟨Vb,λw' M=>(by
    obtain⟨e0,e1,e2,e3⟩:=Ji M.c;go_simp;rfl)⟩) B ?_
   simp only[py];refine ty 4 (Zc PA) R (zy hz Vb _ R (w.heap.size+1) R (λ_ h=>qy h.p)) B ?_;refine wpAnyH_take (i:=5) (v:=Zc (ZJ f t u)) R WR WR WR (λ_ _ _ h=>h) (Or.inl ⟨Vb,λw' M=>(by
    obtain⟨e0,e1,e2⟩:=qm M.m;go_simp;try rfl)⟩) B ?_
   simp only[py];refine ZB 7 (I L (d+1:Nat)) R (λw' M=>by go_simp;try rfl) B ?_;refine ZB 8 (I L d) R (λw' M=>by go_simp;first|done|exact ed|exact h6) B ?_;refine rd 2 λK hK=>?_;go_simp;refine Z0 (b6.a _) λw2 a6=>?_;refine hK.out _ _ (B.next (zm.of a6) CQ D a4) λB=>?_;have a1:=n1.next aw (zm.of a6) CQ D n0 (n3.a _ _ n1.i a6);clear a6 n1;clear hK K;try simp only[py]
   refine rd 6 λK hK=>?_;go_simp;refine(b0.a _ a1.wt.hom).mono ?_;rintro e w3 ⟨Q,rfl,hq,a7⟩;refine hK.out _ _ (B.next (zm.of a7) CQ D a4) λB=>?_;have a2:=a1.next aw (zm.of a7) CQ D n0 (n3.a _ _ a1.i a7);clear a7 a1;clear hK K;try simp only[py]
   refine rd 9 λK hK=>?_;go_simp;refine Z0 (hq _ a2.i a2.wt) λw4⟨c5,g4⟩=>?_;refine hK.out _ _ (B.next c5 CQ D a4) λB=>?_;have c4:=a2.next aw c5 CQ D n0 g4;clear c5 g4 a2 hq;clear hK K;try simp only[py]
   refine tq 10 (Zc #[Zb m6,I Zh xv]) B ?_;have a8:Gr w4 (w4.alloc (Z #[Zb m6,I Zh xv] 37)):=ZN;have j:=c4.next aw (zm.of a8) CQ D n0 (n3.a _ _ c4.i a8);have f5:=B.next (zm.of a8) CQ D a4;have f8:=Hs w4 m6 xv;clear a8 c4;refine rd 11 λK hK=>?_;go_simp;refine hK.out _ _ f5 λB=>?_;clear hK K;try simp only[py]
   clear f5;refine rd 12 λK hK=>?_;rw[qI Vb];refine wp_append_own _ (.tmp 19) (.tmp 30) 33 rfl w1.heap.size 37 i0 (Zc #[Zb ⟨#[]⟩,I Zh 0]) 2 24 underlying33 h8.a k0 k3 k4 R WW u7 l0.length (Lc l0) R j.own ⟨w4.heap.size,0,N⟩ 1 1 [Zb m6,I Zh xv] R R f8 Vi Vk O (zm.size j.fx) ?_;intro v' w7 n5 a _;have a3:=B.grown j.own a;have f3:Qi g n m2 G H wn PA w.heap.size (w.heap.size+1) w1.heap.size v' (l0++[(m6,xv)]) w1 w7:=by
    have f2:∀q o,(w4.alloc (Z #[Zb m6,I Zh xv] 37)).heap[q]?=S o->q<w1.heap.size->w7.heap[q]?=S o:=λq o e hq=>by rw[a.block q (xe e) (λm1=>by have:=Jh j.own q m1.symm;omega)];exact e
    have g1:Fr (λq _=>q<w1.heap.size) (w4.alloc (Z #[Zb m6,I Zh xv] 37)) w7:=⟨a.os,a.tape,a.output,a.size,λq o e hq=>f2 q o e hq⟩;refine⟨a3.c,a3.p,j.wt.low h4.a g1,h1.a _ _ j.i (g1.mono λq o _ e=>by rw[e];exact n0),⟨a.os.trans j.fx.os,a.tape.trans j.fx.tape,a.output.trans j.fx.output,q7 j.fx.size a.size,λq o e hq=>f2 q o (j.fx.at e hq) (xe e)⟩,?_⟩;unfold Cts;rw[JO,qZ];exact n5
   refine hK.out _ _ a3 λB=>?_;clear hK K j a3 f8 a n5;try simp only[py]
   refine rd 13 λK hK=>?_;go_simp;refine hK.out _ _ B λB=>?_;clear hK K;try simp only[py]
   refine ZZ WR ?_ _;have h7:=X f3;clear B f3;go_wp2_with fail;go_roundg (gk-1)
   case measure=>omega
   case rel=>exact⟨k+1,O,Vg,by rw[g6.a];exact h7.a⟩
  .have ek:k=E.length:=O;subst ek;rw[XA]at hD;have F:=X hD;clear hD b2 A b1;go_wp2_with fail;go_ret;exact⟨_,R,qxn F.a.own h2,zm.trans (zm.of g3) F.a.fx,F.a.i⟩
theorem RY:(prog.info? 168).map (λi=>(i.zero,i.size,i.bytes))=S (S (Zc zeroCells168),75,120):=WR
theorem L8:(prog.info? 56).map (·.size)=S 1:=WR
theorem NS(n:Nat)(C:n<=4096)(w:I6):Calls prog 20 #[I L n] w λe w'=>e=Zd (Zc #[svN (w.heap.size+1) n])/\w'.ownsRow w.heap.size 168 75 (svN (w.heap.size+1) n) n (madeCells zeroCells168 (n*75)).toList/\Gr w w':=by
 obtain⟨x,u,p,q,r⟩:=We RY;have o:=X u;have m:x.bytes*n<=281474976710656:=Tx;clear u;have y:=Z7 w (Z #[Zq N 0 0] 56);have j:Gr w (w.alloc (Z #[Zq N 0 0] 56)):=ZN;have f:(w.alloc (Z #[Zq N 0 0] 56)).heap.size=w.heap.size+1:=Z3 _ _;go_enter func20,ntmps20;go_upto_region 1 with fail;generalize w.alloc (Z #[Zq N 0 0] 56)=D at y j f |-;go_wp2_with(at_make;refine wpList_make_full _ R _ _ 54 rfl w.heap.size 168 x (Zc zeroCells168) 75 underlying54 o.a p q _ _ _ _ n R R R R m Vk O ?_;intro w1 b a;rw[f]at b;rw[f];have d:w1.heap[w.heap.size]?=S (Z #[Zq N 0 0] 56):=by { rw[a.block w.heap.size O WU];exact y };have c1:=(qi d).1;have B:=(qi d).2);refine ZS (v:=Zc #[svN (w.heap.size+1) n]) (Yp results20 _ _ w.heap.size 56 #[svN (w.heap.size+1) n] (0,0) _ R (jm d) underlying56 rfl L8) R ⟨R,?_,?_⟩
 .refine⟨b.1,?_⟩;obtain⟨e,_⟩|⟨g,cap,cur,i,z,A,l⟩:=b.2
  .cases e
  .refine Zj ⟨g,cap,cur,i,z,?_,l⟩;have:w.heap.size+1=g:=by injection i with i _ _;injection i with i;injection i
   rw[Yg _ _ _ _ WX];exact A
 .exact Yr (Gr.trans j (Below.grown (Gr.refl D) a Zy (λk h=>Ub))) Zy _
theorem Jk(a b:Nat)(wn:Int)(g n:Nat):prog.built 78 [(0,Zc (zG a b)),(1,I L wn),(2,Zc #[svN g n])]=S (ctrA a b wn g n):=WR
theorem Kh(a b:Nat)(wn:Int)(g n:Nat):(ctrA a b wn g n).all (·.oneCell')=Zk:=by simp[ctrA,svN,Value.oneCell']
theorem Rv(a b:Nat)(wn:Int)(g n:Nat)(w:I6):ZL 24 #[Zc (zG a b),I L wn,Zc #[svN g n]] w (Zc (ctrA a b wn g n)):=by
 obtain⟨h,i,f,j⟩:=jG w (Z (zG a b) 74) (Z #[svN g n] 56) (Z #[.nilFunc,.nilFunc,I L 0,Zq N 0 0] 78);have d:Gr w (((w.alloc (Z (zG a b) 74)).alloc (Z #[svN g n] 56)).alloc (Z #[.nilFunc,.nilFunc,I L 0,Zq N 0 0] 78)):=ZN.al.al;go_enter func24,ntmps24;go_upto_region 1 with fail;show Code.wp _ _ _ _ (((w.alloc (Z (zG a b) 74)).alloc (Z #[svN g n] 56)).alloc (Z #[.nilFunc,.nilFunc,I L 0,Zq N 0 0] 78));generalize (((w.alloc (Z (zG a b) 74)).alloc (Z #[svN g n] 56)).alloc (Z #[.nilFunc,.nilFunc,I L 0,Zq N 0 0] 78))=k at h i f d |-;clear j;go_wp2_with(first
  | (refine ZV R 74 _ R w.heap.size R 74 (zG a b) (0,0) _ (by with_reducible exact h) underlying74 rfl yU ?_)
  | (refine ZV R 56 _ R (w.heap.size+1) R 56 #[svN g n] (0,0) _ (by with_reducible exact i) underlying56 rfl L8 ?_)
  | (refine qqq R 78 #[(0,.tmp 7),(1,.tmp 8),(2,.tmp 9)] R (ctrA a b wn g n) ?_ ?_;focus (first|(go_simp;exact Jk a b wn g n)|(simp;exact Jk a b wn g n)))
  | (refine ZU R 78 _ _ R (w.heap.size+2) (ctrA a b wn g n) R R 78 #[.nilFunc,.nilFunc,I L 0,Zq N 0 0] (by with_reducible exact f) Jc R (Kh _ _ _ _ _) ?_))
 exact ZS (v:=Zc (ctrA a b wn g n)) (Yp results24 _ _ (w.heap.size+2) 78 _ (0,0) _ R (Zt f) underlying78 rfl Jc) R ⟨R,d.setRow _ O _⟩
theorem Nn{b:Nat}{c:I0}{ty:TypeId}{fr:Nat × Nat}(h:W.heap[b]?=S (Z c ty fr)):b<W.heap.size:=(qB.1 h).1
theorem RE{d:List I7}(h:W.ownsRow base 168 75 (svN g n) n d):∃S fr,W.heap[g]?=some (Z S 168 fr):=by
 obtain⟨e,_⟩|⟨f,cap,cur,a,_,b,_⟩:=h.2
 .cases e
 .injection a with a _ _;injection a with a;injection a with a _ _;subst a;exact⟨_,_,b⟩
theorem Po(a:Ct m w)(b:uV w):Wt w:=⟨a.tab,b.cas,b.st,a.homes⟩
theorem KR:∀(a:List Ct2)(i:Nat)(h:i<a.length),(Lc a)[i*2]?=S (Zb a[i].1)/\(Lc a)[i*2+1]?=S (I Zh (a[i].2:Int))
 | [],i,h=>absurd h (Yy i)
 | c :: r,0,_=>⟨R,R⟩
 | c :: r,i+1,h=>by
  have b:=KR r i Vq;have e:Lc (c :: r)=Zb c.1 :: I Zh (c.2:Int) :: Lc r:=R;rw[e,show(i+1)*2=i*2+1+1 from O];exact b
def El2(p:Option Addr)(L:List Ct2)(W:I6):Prop:=∀i (hi:i<L.length),∃g,p=S ⟨g,0,N⟩/\W.cell? ⟨g,i*2,N⟩=S (Zb L[i].1)/\W.cell? ⟨g,i*2+1,N⟩=S (I Zh (L[i].2:Int))
theorem El2.gr{p:Option Addr}{L:List Ct2}{d:I6}(h:El2 p L W)(f:Gr W d):El2 p L d:=λi j=>by
 obtain⟨g,e,a,b⟩:=h i j;exact⟨g,e,(ZW f (Zx a)).trans a,(ZW f (Zx b)).trans b⟩
theorem Kg{L:List Ct2}(h:Cts base v L w):∃p cap,v=Zq p L.length cap/\L.length<=cap/\El2 p L w:=by
 obtain⟨rfl,j⟩|⟨g,cap,cur,rfl,r,m,o,x,l,d⟩:=h.2
 .have f:L.length=0:=j;exact⟨N,0,by rw[f],O,λi n=>absurd n O⟩
 .refine⟨_,_,R,o,λi q=>⟨g,R,?_⟩⟩;have e:∀c,c<2->w.cell? ⟨g,i*2+c,N⟩=(Lc L)[i*2+c]?:=λc u=>by have k:i*2+c<L.length*2:=O;simp only[World.cell?];rw[m];show cur[i*2+c]?=_;rw[<-qO,<-Xi k,d]
  obtain⟨a,b⟩:=KR L i q;exact⟨(e 0 WW).trans a,(e 1 WW).trans b⟩
section
open Go.MuLone
theorem Je(d:Nat)(g k:I0)(a b:Nat->Int)(w:I6):∀f:List Nat,(∀i∈f,g[i]?=S (I Zg (a i))/\k[i]?=S (I Zg (b i)))->(Op.eqItems (d+1) 5 1 g k f).run prog w=.ok (f.all λi=>a i==b i) w
 | [],_=>by simp[Op.eqItems]
 | i :: f,h=>by
  obtain⟨l,m⟩:=h i WU;have o:=Je d g k a b w f (λj n=>h j (by simp[n]));simp only[Op.eqItems,Sem.run_bind,Nat.mul_one];rw[Xm w PE l];simp only[XV];rw[Xm w PE m];simp only[XV];rw[run_equalIn_int w d 5 Zg Zg (a i) (b i) underlying5];by_cases e:a i=b i
  .simp[e,o]
  .simp[e]
theorem Jf(d:Nat)(g k:I0)(a b:Nat->Bool)(w:I6):∀f:List Nat,(∀i∈f,g[i]?=S (Za (a i))/\k[i]?=S (Za (b i)))->(Op.eqItems (d+1) 4 1 g k f).run prog w=.ok (f.all λi=>a i==b i) w
 | [],_=>by simp[Op.eqItems]
 | i :: f,h=>by
  obtain⟨l,m⟩:=h i WU;have o:=Jf d g k a b w f (λj n=>h j (by simp[n]));simp only[Op.eqItems,Sem.run_bind,Nat.mul_one];rw[Xm w KU l];simp only[XV];rw[Xm w KU m];simp only[XV];rw[run_equalIn_bool w d 4 (a i) (b i) underlying4];by_cases e:a i=b i
  .simp[e,o]
  .simp[e]
theorem Qc(d:Nat)(e f:I0)(a b:Nat->Int)(h:∀i,i<64->e[i]?=S (I Zg (a i))/\f[i]?=S (I Zg (b i)))(w:I6):(Op.equalIn (d+2) 67 (Zc e) (Zc f)).run prog w=.ok ((List.range 64).all λi=>a i==b i) w:=by obtain⟨i,g⟩:=Sa;rw[run_equalIn_array w (d+1) e f underlying67 g,Rr];exact Je d e f a b w _ (λi g=>h i (qK.1 g))
theorem R6(d:Nat)(e f:I0)(a b:I5)(h:∀i,i<4->e[i]?=S (Za (a i))/\f[i]?=S (Za (b i)))(w:I6):(Op.equalIn (d+2) 68 (Zc e) (Zc f)).run prog w=.ok ((List.range 4).all λi=>a i==b i) w:=by obtain⟨i,g⟩:=Rb;rw[run_equalIn_array w (d+1) e f underlying68 g,Rt];exact Jf d e f a b w _ (λi g=>h i (qK.1 g))
theorem pD {e g : I0} {f : Field} {h : List Field} {a b : I7} {c r : Bool} (k : (f.name != "_") = Zk) (i : (part f.type e f.offset).run prog w = .ok a w) (j : (part f.type g f.offset).run prog w = .ok b w) (m : (Op.equalIn d f.type a b).run prog w = .ok c w) (l : (Op.eqFields d e g h).run prog w = .ok r w) :
    (Op.eqFields d e g (f :: h)).run prog w=.ok (c&&r) w:=by simp only[Op.eqFields];rw[qI (by simpa using k)];cases c<;>simp[Sem.run_bind,i,j,m,l]
theorem MG(d:Nat)(a b:Int)(w:I6):(Op.equalIn (d+1) 3 (I L a) (I L b)).run prog w=.ok (a==b) w:=by rw[run_equalIn_int w d 3 L L a b underlying3]
def posE(z z':I2)(wh wh':Bool)(f f':I5)(b b' h h' g g':Int):Bool :=
 ((List.range 64).all λi=>((z i).toNat:Int)==((z' i).toNat:Int))&&((wh==wh')&&(((List.range 4).all λi=>f i==f' i)&&((b==b')&&((h==h')&&((g==g')&&Zk)))))
theorem Q8(n:Nat){B:I2}{e:Bool}{f A:I5}{l o g:Int}{a a0:I0}(r:jE z wh f b h g a)(j:jE B e A l o m a0)(w:I6):(Op.equalIn (n+4) 70 (Zc a) (Zc a0)).run prog w=.ok (posE z B wh e f A b l h o g m) w:=by
 rw[run_equalIn_struct w (n+3) 70 a a0 Pf Pt];have d:=Nt;generalize (prog.fieldsOf 70).toList=fs at d |-;obtain⟨a7,Q,rfl,E,d⟩:=XG.1 d;obtain⟨f1,a5,rfl,F,d⟩:=XG.1 d;obtain⟨f2,a6,rfl,G,d⟩:=XG.1 d;obtain⟨f3,T,rfl,H,d⟩:=XG.1 d;obtain⟨f4,V,rfl,a1,d⟩:=XG.1 d;obtain⟨f5,W,rfl,J,d⟩:=XG.1 d;rw[List.map_eq_nil_iff]at d;subst d;simp only[Prod.mk.injEq]at E F G H a1 J;obtain⟨K,p,c0⟩:=E;obtain⟨a3,q,c1⟩:=F;obtain⟨M,u,c2⟩:=G;obtain⟨a4,v,c3⟩:=H;obtain⟨a2,x,C⟩:=a1;obtain⟨P,y,D⟩:=J;refine pD (a:=Zc (a.extract 0 64)) (b:=Zc (a0.extract 0 64)) K (by rw[p,c0];exact PG a w) (by rw[p,c0];exact PG a0 w) (by
  rw[p];exact Qc (n+1) _ _ (λi=>((z i).toNat:Int)) (λi=>((B i).toNat:Int)) (λi k=>⟨UY,by rw[Array.getElem?_extract,qI (by rw[j.size];omega),Z2];exact j.sq i k⟩) w) ?_
 refine pD (a:=Za wh) (b:=Za e) a3 (by rw[q,c1];exact Xm w KU r.wh) (by rw[q,c1];exact Xm w KU j.wh) (by rw[q,run_equalIn_bool w (n+2) 4 wh e underlying4]) ?_;refine pD (a:=Zc (a.extract 65 69)) (b:=Zc (a0.extract 65 69)) M (by rw[u,c2];exact RC a w) (by rw[u,c2];exact RC a0 w) (by
  rw[u];exact R6 (n+1) _ _ f A (λi k=>⟨by rw[Array.getElem?_extract,qI Vw];exact r.c i k,by rw[Array.getElem?_extract,qI (by rw[j.size];omega)];exact j.c i k⟩) w) ?_
 refine pD (a:=I L b) (b:=I L l) a4 (by rw[v,c3];exact Xm w ol r.b) (by rw[v,c3];exact Xm w ol j.b) (by rw[v];exact MG (n+2) b l w) ?_;refine pD (a:=I L h) (b:=I L o) a2 (by rw[x,C];exact Xm w ol r.h) (by rw[x,C];exact Xm w ol j.h) (by rw[x];exact MG (n+2) h o w) ?_;refine pD (a:=I L g) (b:=I L m) P (by rw[y,D];exact Xm w ol r.g) (by rw[y,D];exact Xm w ol j.g) (by rw[y];exact MG (n+2) g m w) ?_;simp[Op.eqFields]
theorem Lj{k:I2}{a:Bool}{f j:I5}{d q g p:Int}(e:posE z k wh a f j b d h q g p=Zk):(∀i,i<64->z i=k i)/\wh=a/\(∀i,i<4->f i=j i)/\b=d:=by unfold posE at e;simp only[qH,qW,qK,YF]at e;obtain⟨l,m,n,o,_⟩:=e;exact⟨λi r=>q6.1 (Int.ofNat.inj (l i r)),m,n,o⟩
theorem Qp:prog.underlying 117=S (.struct (prog.fieldsOf 117)):=WR
theorem Qt:prog.stoodInHeld 117=Zl:=WR
theorem QQ : (prog.fieldsOf 117).toList.map (λf => (f.name != "_", f.type, f.offset)) = [(Zk, 70, 0), (Zk, 3, 72), (Zk, 3, 73)] := WR
theorem Re:prog.eqGuardType prog.depth 117=Zl:=WR
theorem PF(a:I0)(w:I6):(part 70 a 0).run prog w=.ok (Zc (a.extract 0 72)) w:=by simp[part,isAgg,run_underlying underlying70,sizeOf,typeInfo];kernel_rfl
theorem PD(h:A.size=72)(d n:Int):(qA A d n).extract 0 72=A:=by unfold qA;rw[Array.extract_append];simp[h]
theorem NH(h:A.size=72)(d n:Int):(qA A d n)[72]?=S (I L d)/\(qA A d n)[73]?=S (I L n):=by
 unfold qA;constructor
 .rw[Yw O,h];rfl
 .rw[Yw O,h];rfl
def qEQQ(E:Bool)(d d' n n':Int):Bool:=E&&((d==d')&&((n==n')&&Zk))
theorem S8{B:I2}{j:Bool}{f x:I5}{p A g y:Int}{a M:I0}(r:jE z wh f b h g a)(k:jE B j x p A y M)(d d' n i:Int)(w:I6):(Op.equalIn 10000 117 (Zc (qA a d n)) (Zc (qA M d' i))).run prog w=.ok (qEQQ (posE z B wh j f x b p h A g y) d d' n i) w:=by rw[run_equalIn_struct w 9999 117 _ _ Qp Qt];have e:=QQ;generalize (prog.fieldsOf 117).toList=Q at e |-;obtain⟨P,F,rfl,q,e⟩:=XG.1 e;obtain⟨J,G,rfl,u,e⟩:=XG.1 e;obtain⟨K,H,rfl,v,e⟩:=XG.1 e;rw[List.map_eq_nil_iff]at e;subst e;simp only[Prod.mk.injEq]at q u v;obtain⟨C,l,c0⟩:=q;obtain⟨D,m,c1⟩:=u;obtain⟨E,o,c2⟩:=v;refine pD (a:=Zc a) (b:=Zc M) C (by rw[l,c0,PF,PD r.size]) (by rw[l,c0,PF,PD k.size]) (by rw[l];exact Q8 9995 r k w) ?_;refine pD (a:=I L d) (b:=I L d') D (by rw[m,c1];exact Xm w ol (NH r.size d n).1) (by rw[m,c1];exact Xm w ol (NH k.size d' i).1) (by rw[m];exact MG 9998 d d' w) ?_;refine pD (a:=I L n) (b:=I L i) E (by rw[o,c2];exact Xm w ol (NH r.size d n).2) (by rw[o,c2];exact Xm w ol (NH k.size d' i).2) (by rw[o];exact MG 9998 n i w) ?_;simp[Op.eqFields]
theorem ax{d:Array Oper}{b:List Oper}{o:Oper}{a:Act}{k l:I0}{E:Bool}{Q:Exit->Act->I6->Prop}(e:o.guard=N)(x y:Operand)(f:o.op=.binOp .neq 117 x y 117)(i:a.eval x=Zc k)(j:a.eval y=Zc l)
 (g:∀w:I6,(Op.equalIn 10000 117 (Zc k) (Zc l)).run prog w=.ok E w) (h:wpList prog d Q b (a.put o.dst (Za (!E))) w):wpList prog d Q (o :: b) a w :=
 wpList_plain e λK hK=>by
  unfold Oper.wp execOp;simp only[f,i,j,Sem.run_bind,Sem.run_pure,XV,run_eqGuard_agg _ _ _ _ _ _ _ Re,run_neq_struct,g];exact hK _ _ h
theorem Mq.rg{d k:Int}{a:Nat}(h:Mq g n (qA A d k) e a w W):W.rangeAt a 0 A.toList:=λj v b=>by
 rw[Z2,qn h.q];unfold qA;have f:=(Z5.1 b).1;rw[Xx Uq,<-qO];exact b
theorem Mq.rq{Q:I0}{b a:Nat}(h:Mq g n Q b a w W):W.rangeAt a 0 Q.toList:=λj v d=>by
 rw[Z2,qn h.q,<-qO];exact d
theorem r8{d:Array Oper}{op:Oper}{a:Act}(i:PA.size=72){S:I6->Prop}(g:Region.wanted op (yielded d a.tmps)=Zk)(x:Operand)(f:op.op=.load 70 x)(b:Nat)(h:a.eval x=ZI b)(e:∀w,S w->w.rangeAt b 0 PA.toList):YieldsIf prog d S op (Zc PA) a:=by have:=XW (P:=prog) g 70 x f b 0 h PA.toList _ e underlying70 rfl (by rw[q9];simp[i]);rwa[Yb]at this
theorem Hn{H:Int}{j:I0}(o:Ok z wh fc b h H)(r:jE z wh fc b 0 0 j)(g n:Nat)(v:0<n)(J:n<=4096)(d k:Int)(w:I6) :
 ZL 93 #[Zc #[svN g n],Zc (qA j d k)] w (I L ((K3 z wh fc b).toNat%n:Nat)):=by
 have M:=r.size;have f:=X (λW=>L6 r o.lay o.b0 o.b1 W);obtain⟨B,CQ⟩:=x6 w (Z #[svN g n] 56) (Z (qA j d k) 117);have m:Gr w ((w.alloc (Z #[svN g n] 56)).alloc (Z (qA j d k) 117)):=ZN.al;have F:U (K3 z wh fc b)=(((K3 z wh fc b).toNat:Nat):Int):=R;have A:(K3 z wh fc b).toNat<18446744073709551616:=(K3 z wh fc b).isLt;rw[F]at f;generalize (K3 z wh fc b).toNat=l at f A |-;clear F o r;have P:((n:Int)==0)=Zl:=Vp;have G:¬ ((n:Int)=0):=O;have ew:IntKind.u64.wrap ((n:Nat):Int)=(n:Int):=Vh;have u:(l:Int).tmod (n:Int)=((l%n:Nat):Int):=Vu;have em:l%n<n:=Nat.mod_lt _ v;have D:IntKind.i64.wrap ((l%n:Nat):Int)=((l%n:Nat):Int):=Vc;have E:IntKind.u64.wrap ((l%n:Nat):Int)=((l%n:Nat):Int):=Vh;generalize l%n=pl at u em D E |-;go_enter func93,ntmps93;go_upto_region 1 with fail;show Code.wp _ _ _ _ ((w.alloc (Z #[svN g n] 56)).alloc (Z (qA j d k) 117));generalize ((w.alloc (Z #[svN g n] 56)).alloc (Z (qA j d k) 117))=i at B CQ m |-;have q:Mq g n (qA j d k) w.heap.size (w.heap.size+1) w i.drew:=⟨B,CQ,m.drew⟩;refine ZT (S:=Mq g n (qA j d k) w.heap.size (w.heap.size+1) w) WR q (λa=>?_);clear q B CQ m;refine tq 0 (ZI (w.heap.size+1)) a ?_;refine ty 1 (Zc j) R (r8 M Vb _ R (w.heap.size+1) R (λ_ h=>h.rg)) a ?_;refine tq 3 (ZI w.heap.size) a ?_;refine ZB 4 (svN g n) R (λw' p=>by have c0:=p.c;go_simp) a ?_;unfold svN;refine tq 5 (I L n) a ?_;refine ZB 6 (I Zh n) R (λw' p=>by go_simp;try exact ew) a ?_;refine rd 2 λK hK=>?_;go_simp;refine Z0 (f.a _) λQ x=>?_;refine hK.out _ _ (a.next x) λa=>?_;clear hK K;try simp only[py]
 refine ZB 7 (I Zh pl) R (λw' p=>by go_simp;try first|done|exact u|(rw[u];exact E)|omega) a ?_;refine ZB 8 (I L pl) R (λw' p=>by go_simp;try exact D) a ?_;refine rd 9 λK hK=>?_;go_simp;refine hK.out _ _ a λa=>?_;clear hK K;try simp only[py]
 refine ZZ WR ?_ _;have y:=a.gr;clear a;go_wp2_with fail;go_ret;exact⟨R,y⟩
def e9(Q:I0)(p:Int):I0:=Q++#[I Zh p]
theorem EB{Q:I0}(h:Q.size=74)(p:Int):(e9 Q p).size=75:=by unfold e9;simp[h]
theorem M8{Q:I0}(h:Q.size=74)(p:Int):(e9 Q p)[74]?=S (I Zh p):=by unfold e9;rw[Yw O,h];rfl
theorem Hl{Q:I0}(h:Q.all (·.oneCell')=Zk)(p:Int):(e9 Q p).all (·.oneCell')=Zk:=by unfold e9;rw[Wo,h];simp[Value.oneCell']
def Qe(S:I0)(i:Nat):Prop:=∃(z:I2)(wh:Bool)(fc:I5)(b:Int)(A:I0)(d way p:Int),jE z wh fc b 0 0 A/\(∀n,64<=n->z n=0)/\(∀n,4<=n->fc n=Zl) ∧
 (∀j,j<75->S[i*75+j]?=(e9 (qA A d way) p)[j]?)/\(∀h g,Ok z wh fc b h g->∀m:Nat,d=(m:Int)->1<=m->m<=3->p=((pathsN m z wh fc b:Nat):Int))
def Qg(g n:Nat)(W:I6):Prop:=∃S,W.heap[g]?=some (Z S 168)/\S.size=n*75/\∀i,i<n->Qe S i
theorem H9:(prog.info? 168).map (·.size)=S 75:=WR
theorem Ml:zeroCells168.size=75:=WR
theorem Ms.rg{Q S R:I0}{b:Nat}(h:Ms g n Q S b d w W)(f:R.size=75)(hR:∀j,j<75->S[i*75+j]?=R[j]?):W.rangeAt g (i*75) R.toList:=λj v a=>by
 have e:j<75:=by
  have:=(Z5.1 a).1;rw[ZX,f]at this;exact this
 rw[qn h.s,hR j e,<-qO];exact a
theorem y_q{d:Array Oper}{op:Oper}{a:Act}{Q:I0}(i:Q.size=74){S:I6->Prop}(g:Region.wanted op (yielded d a.tmps)=Zk)(x:Operand)(f:op.op=.load 117 x)(b:Nat)(h:a.eval x=ZI b)(e:∀w,S w->w.rangeAt b 0 Q.toList):YieldsIf prog d S op (Zc Q) a:=by have:=XW (P:=prog) g 117 x f b 0 h Q.toList _ e underlying117 rfl (by rw[BW];simp[i]);rwa[Yb]at this
theorem y_s{e:Array Oper}{op:Oper}{a:Act}{R:I0}(j:R.size=75){S:I6->Prop}(h:Region.wanted op (yielded e a.tmps)=Zk)(x:Operand)(g:op.op=.load 168 x)(b d:Nat)(i:a.eval x=.pointer (some ⟨b,d,N⟩))(f:∀w,S w->w.rangeAt b d R.toList):YieldsIf prog e S op (Zc R) a:=by have:=XW (P:=prog) h 168 x g b d i R.toList _ f underlying168 rfl (by rw[H9];simp[j]);rwa[Yb]at this
theorem J0{gg:Int}{QA:I0}(o:Ok z wh fc b h gg)(r:jE z wh fc b 0 0 QA)(g n:Nat)(hn:0<n)(a6:n<=4096)(d:Nat)(d1:1<=d)(d3:d<=3)(k:Int)(w:I6)(hI:Qg g n w) :
 Calls prog 46 #[Zc #[svN g n],Zc (qA QA (d:Int) k)] w λe w'=>(e=Zd (Ze #[I Zh 0,Za Zl])\/e=Zd (Ze #[I Zh (pathsN d z wh fc b:Nat),Za Zk]))/\Gr w w':=by
 obtain⟨f0,hS,a8,a5⟩:=hI;have H:=X (λW=>Hn o r g n hn a6 (d:Int) k W);have a4:(K3 z wh fc b).toNat%n<n:=Nat.mod_lt _ hn;generalize (K3 z wh fc b).toNat%n=pl at H a4;obtain⟨z',a7,fc',b',A,d',y,p,rA,nz,nf,a2,a3⟩:=a5 pl a4;have x:=fY r.size (d:Int) k;have a:=fY rA.size d' y;have l:=EB a p;have d5:=M8 a p;have u:=X (Hl (H1 (qx rA) d' y) p);have CQ:=X (λW=>S8 rA r d' (d:Int) y k W);obtain⟨E,hE⟩:∃E,Y (E=qEQQ (posE z' z a7 wh fc' fc b' b 0 0 0 0) d' (d:Int) y k):=⟨_,X R⟩;rw[<-hE.a]at CQ;have J:Y (E=Zk->p=((pathsN d z wh fc b:Nat):Int)):=X λe=>by
  rw[hE.a]at e;unfold qEQQ at e;simp only[qH,YF]at e;obtain⟨e1,e2,_⟩:=e;obtain⟨b3,b4,b5,b7⟩:=Lj e1;have ez:z'=z:=by
   funext i;by_cases hi:i<64
   .exact b3 i hi
   .rw[nz i O,o.nz i O]
  have ef:fc'=fc:=by
   funext i;by_cases hi:i<4
   .exact b5 i hi
   .rw[nf i O,o.nf i O]
  subst ez ef b4 b7;exact a3 h gg o d e2 d1 d3
 have G:Y (∀W,Ms g n (qA QA (d:Int) k) f0 w.heap.size (w.heap.size+1) w W->W.rangeAt g (pl*75) (e9 (qA A d' y) p).toList):=X λW hW=>hW.rg l a2;have F:Y ((e9 (qA A d' y) p).toList.take 74=(qA A d' y).toList):=X (by unfold e9;rw[Array.toList_append,Wg (by rw[ZX,a];omega),Yk (by rw[ZX,a];omega)]);obtain⟨x1,x2⟩:=x6 w (Z #[svN g n] 56) (Z (qA QA (d:Int) k) 117);have c5:Gr w ((w.alloc (Z #[svN g n] 56)).alloc (Z (qA QA (d:Int) k) 117)):=ZN.al;have d0:=(Zz c5 (xe hS)).trans hS;have a9:=xe hS;generalize pathsN d z wh fc b=f2 at J |-;generalize qA QA (d:Int) k=Q at H x CQ G x1 x2 c5 d0 |-;generalize c4:e9 (qA A d' y) p=RR at l d5 u G F;generalize qA A d' y=QB at CQ a F;clear o r rA a3 a5 a2 hE hS;have b0:((n:Int)==0)=Zl:=Vp;have b1:0<=(pl:Int):=O;have b2:(pl:Int)<n:=O;go_enter func46,ntmps46;go_upto_region 1 with fail;show Code.wp _ _ _ _ ((w.alloc (Z #[svN g n] 56)).alloc (Z Q 117));generalize ((w.alloc (Z #[svN g n] 56)).alloc (Z Q 117))=w0 at x1 x2 c5 d0 |-;have c0:w0.cell? ⟨w.heap.size,0,N⟩=S (Zq (S ⟨g,0,N⟩) n n):=by rw[qn x1];rfl
 go_upto_region 3 with fail;have a1:Ms g n Q f0 w.heap.size (w.heap.size+1) w w0.drew:=⟨⟨x1,x2,c5.drew⟩,d0⟩;refine ZT (S:=Ms g n Q f0 w.heap.size (w.heap.size+1) w) WR a1 (λf=>?_);clear a1 x1 x2 c5 d0 c0;refine tq 0 (ZI w.heap.size) f ?_;refine ZB 1 (Zq (S ⟨g,0,N⟩) n n) R (λw' hw=>by have c0:=hw.mq.c;unfold svN at c0;go_simp) f ?_;refine ZB 2 (Zc #[svN g n]) R (λw' hw=>by have c0:=hw.mq.c;go_simp) f ?_;refine ty 3 (Zc Q) R (y_q x Vb _ R (w.heap.size+1) R (λ_ h=>h.mq.rq)) f ?_;refine Xk (rs:=[4,7]) WR WU ?_;refine Yc R (λK hK=>?_) (Yc R (λK hK=>?_) Xb)
 .go_simp;refine Z0 (H.a _) λB P=>?_;refine hK.out _ _ (f.next P) λf=>?_;clear hK K;try simp only[py]
  refine tq 5 (.pointer (S ⟨g,pl*75,N⟩)) f ?_;refine ty 6 (Zc RR) R (y_s l Vb _ R g (pl*75) R (λW h=>G.a W h)) f ?_;have y7:=Z7 B (Z zeroCells168 168);have a0:w.heap.size<=B.heap.size:=ZR f.mq.gr;have f1:B.heap.size≠g:=O;have d2:B.heap.size≠w.heap.size:=by have:=xe f.mq.m;omega
  have d4:B.heap.size≠w.heap.size+1:=by have:=xe f.mq.q;omega
  refine rd 7 λK hK=>?_;go_simp;refine hK.out _ _ (f.next ZN) λf=>?_;clear hK K;try simp only[py]
  refine rd 8 λK hK=>?_;rw[qI Vb];refine YQ 168 _ _ R B.heap.size RR R R 168 zeroCells168 y7 (by rw[l];exact H9) (by rw[l];exact Ml) u.a ?_;have T:((B.alloc (Z zeroCells168 168)).setRow B.heap.size RR).heap[B.heap.size]?=S (Z RR 168):=Zt y7;refine hK.out _ _ (f.put f1 d2 d4 a0 RR) λf=>?_;clear hK K;try simp only[py]
  refine ZZ WR ?_ _;generalize (B.alloc (Z zeroCells168 168)).setRow B.heap.size RR=w8 at f T |-;have D:w8.rangeAt B.heap.size 0 QB.toList:=λj v hv=>by have hj:=(Z5.1 hv).1;rw[ZX,a]at hj;rw[Z2,qn T,<-qO,<-Xi hj,F.a];exact hv
  have c6:=f.mq.rq;have V:w8.cell? ⟨B.heap.size,74,N⟩=S (I Zh p):=by rw[qn T];exact d5
  have M:=X f.mq.gr;generalize B.heap.size=b6 at D V |-;exact WH
 .go_simp;have y0:(w0.drew.alloc (Z zeroCells168 168)).heap[w0.heap.size]?=S (Z zeroCells168 168):=Z7 w0.drew _;have h5:w.heap.size<w0.heap.size:=xe f.mq.m;have h6:w.heap.size+1<w0.heap.size:=xe f.mq.q;have a0:w.heap.size<=w0.heap.size:=O;have f1:w0.heap.size≠g:=O;have d2:w0.heap.size≠w.heap.size:=O;have d4:w0.heap.size≠w.heap.size+1:=O;clear h5 h6;refine hK.out _ _ (f.next ((Gr.refl w0.drew).alloc _ _)) λf=>?_;clear hK K;try simp only[py]
  refine rd 4 λK hK=>?_;go_simp;refine Z0 (H.a _) λB P=>?_;have y7:=(Zz P (xe y0)).trans y0;refine hK.out _ _ (f.next P) λf=>?_;clear hK K;try simp only[py]
  refine tq 5 (.pointer (S ⟨g,pl*75,N⟩)) f ?_;refine ty 6 (Zc RR) R (y_s l Vb _ R g (pl*75) R (λW h=>G.a W h)) f ?_;refine rd 8 λK hK=>?_;rw[qI Vb];refine YQ 168 _ _ R w0.heap.size RR R R 168 zeroCells168 y7 (by rw[l];exact H9) (by rw[l];exact Ml) u.a ?_;have T:(B.setRow w0.heap.size RR).heap[w0.heap.size]?=S (Z RR 168):=Zt y7;refine hK.out _ _ (f.put f1 d2 d4 a0 RR) λf=>?_;clear hK K;try simp only[py]
  refine ZZ WR ?_ _;generalize B.setRow w0.heap.size RR=w8 at f T |-;have D:w8.rangeAt w0.heap.size 0 QB.toList:=λj v hv=>by have hj:=(Z5.1 hv).1;rw[ZX,a]at hj;rw[Z2,qn T,<-qO,<-Xi hj,F.a];exact hv
  have c6:=f.mq.rq;have V:w8.cell? ⟨w0.heap.size,74,N⟩=S (I Zh p):=by rw[qn T];exact d5
  have M:=X f.mq.gr;generalize w0.heap.size=b6 at D V |-;exact WH
def Hw:Array I7->Nat->List I7->I0
 | a,_,[]=>a
 | a,o,v :: r=>Hw (a.setIfInBounds o v) (o+1) r
theorem E1:∀(a:List I7)(b:I0)(o:Nat),(Hw b o a).size=b.size
 | [],_,_=>rfl
 | v :: r,b,o=>by rw[Hw,E1 r,Array.size_setIfInBounds]
theorem AH:∀(a:List I7)(e:I0)(o:Nat),o+a.length<=e.size->∀i,(Hw e o a)[i]?=if o<=i/\i<o+a.length then a[i-o]? else e[i]?
 | [],e,o,_,i=>by rw[qF (by simp only[XN];omega)];rfl
 | v :: r,e,o,h,i=>by
  simp only[Yq]at h;rw[Hw,AH r _ (o+1) (by rw[Array.size_setIfInBounds];omega)];by_cases b:o+1<=i/\i<o+1+r.length
  .rw[qI b,qI Ow,show i-o=(i-(o+1))+1 from O,List.getElem?_cons_succ]
  .rw[qF b];by_cases d:i=o
   .subst d;rw[qI Ow,Nat.sub_self,Array.getElem?_setIfInBounds_self_of_lt O];rfl
   .rw[qF Ow,XO O]
theorem bP(g:Nat)(t:TypeId):∀(a:List I7)(o:Nat)(W:I6)(b:I0),W.heap[g]?=S (Z b t)->(W.setCells g o a).heap[g]?=S (Z (Hw b o a) t)
 | [],_,_,_,h=>h
 | v :: r,o,W,b,h=>by
  rw[World.setCells,Hw];exact bP g t r (o+1) _ _ (qv h)
theorem ba(g:Nat):∀(a:List I7)(o:Nat)(W:I6),zm g W (W.setCells g o a)
 | [],_,W=>zm.refl g W
 | v :: r,o,W=>by
  rw[World.setCells];exact zm.trans ((Fr.refl _ W).setCell v (λ_ _ q=>q R)) (ba g r (o+1) _)
theorem Rx(a:List (Nat × I7)):prog.built 168 a=Instr.fill (λi=>(#[(0,74),(74,1)]:Array (Nat × Nat))[i]?) zeroCells168 a:=WR
theorem QY(Q:I0)(b:Q.size=74)(p:Int):prog.built 168 [(0,Zc Q),(1,I Zh p)]=S (e9 Q p):=by
 rw[Rx];have d:=zo 0 Q zeroCells168;have p1:=zo 74 #[I Zh p] (put 0 Q zeroCells168);have z:=Ml;rw[xv _ _ 0 0 74 _ _ R (by simpa[Value.cells]using b) O,xv _ _ 1 74 1 _ _ R R Vl];simp only[Instr.fill,Value.cells,Xh];apply YV;intro i;rw[p1.2 i WX,d.2 i O];unfold e9;rw[Y7,b];by_cases a:i<74
 .rw[qF WX,qI ⟨O,O⟩,qI a];simp
 .by_cases e:i<75
  .have:i=74:=O;subst this;simp
  .rw[qF WX,qF O,qF a,Z6 O,Z6 WX]
theorem QJ{S:I0}(g:S.size=n*75)(w:∀i,i<n->Qe S i){D:Int}{f:I0}(o:Ok z wh fc b h D)(r:jE z wh fc b 0 0 f)(d:Nat)(k:Int){pl:Nat}(K:pl<n):∀i,i<n->Qe (Hw S (pl*75) (e9 (qA f (d:Int) k) ((pathsN d z wh fc b:Nat):Int)).toList) i:=by
 have v:=EB (fY r.size (d:Int) k) ((pathsN d z wh fc b:Nat):Int);have a:pl*75+(e9 (qA f (d:Int) k) ((pathsN d z wh fc b:Nat):Int)).toList.length<=S.size:=by rw[ZX,v,g];omega
 intro i E;by_cases e:i=pl
 .subst e;refine⟨z,wh,fc,b,f,d,k,((pathsN d z wh fc b:Nat):Int),r,o.nz,o.nf,λj B=>?_,λJ q o' m em _ _=>?_⟩
  .rw[AH _ _ _ a,qI (by rw[ZX,v];omega),Nat.add_sub_cancel_left,qO]
  .have:d=m:=O;rw[this]
 .obtain⟨H,y,fc',C,A,d',x,p,rA,G,F,l,u⟩:=w i E;refine⟨H,y,fc',C,A,d',x,p,rA,G,F,λj B=>?_,u⟩;rw[AH _ _ _ a,qF (by rw[ZX,v];omega)];exact l j B
structure Mt(g n:Nat)(Q:I0)(sz:Nat)(b2 b3:Nat)(w W:I6):Prop where
 m:W.heap[b2]?=some (Z #[svN g n] 56)
 q:W.heap[b3]?=some (Z Q 117)
 s:∃S:I0,S.size=sz/\W.heap[g]?=some (Z S 168)
theorem Mt.c{Q:I0}{a b:Nat}(h:Mt g n Q d a b w W):W.cell? ⟨a,0,N⟩=S (svN g n):=by rw[qn h.m];rfl
theorem Mt.rq{Q:I0}{b a:Nat}(h:Mt g n Q e b a w W):W.rangeAt a 0 Q.toList:=λj v d=>by
 rw[Z2,qn h.q,<-qO];exact d
theorem Hz{gg:Int}{G:I0}(o:Ok z wh fc b h gg)(r:jE z wh fc b 0 0 G)(g n:Nat)(hn:0<n)(Z:n<=4096)(d:Nat)(k:Int)(w:I6)(hI:Qg g n w) :
 Calls prog 48 #[Zc #[svN g n],Zc (qA G (d:Int) k),I Zh (pathsN d z wh fc b:Nat)] w λe w'=>(∃v,e=Zd v)/\zm g w w'/\Qg g n w':=by
 obtain⟨a5,a6,b0,a8⟩:=hI;have E:=X (λW=>Hn o r g n hn Z (d:Int) k W);have a7:(K3 z wh fc b).toNat%n<n:=Nat.mod_lt _ hn;generalize (K3 z wh fc b).toNat%n=pl at E a7;have p:=fY r.size (d:Int) k;have l:=EB p ((pathsN d z wh fc b:Nat):Int);have f:=X (Hl (H1 (qx r) (d:Int) k) ((pathsN d z wh fc b:Nat):Int));have u:=X (QY (qA G (d:Int) k) p ((pathsN d z wh fc b:Nat):Int));have x:=X (QJ b0 a8 o r d k a7);obtain⟨J,V⟩:=x6 w (.cells #[svN g n] 56) (.cells (qA G (d:Int) k) 117);have B:Gr w ((w.alloc (.cells #[svN g n] 56)).alloc (.cells (qA G (d:Int) k) 117)):=ZN.al;have y:=(Zz B (xe a6)).trans a6;have a0:=xe a6;generalize ((pathsN d z wh fc b:Nat):Int)=P at l f u x |-;generalize qA G (d:Int) k=Q at E p l f u x J V B y |-;generalize e9 Q P=i at l f u x;clear o r a8 a6;have a1:(0:Int)<(n:Int):=O;have a2:0<=(pl:Int):=O;have a3:(pl:Int)<n:=O;go_enter func48,ntmps48;go_upto_region 1 with fail;show Code.wp _ _ _ _ ((w.alloc (.cells #[svN g n] 56)).alloc (.cells Q 117));generalize ((w.alloc (.cells #[svN g n] 56)).alloc (.cells Q 117))=w0 at J V B y |-;have c0:w0.cell? ⟨w.heap.size,0,N⟩=S (Zq (S ⟨g,0,N⟩) n n):=by rw[qn J];rfl
 go_upto_region 2 with fail;have a9:Mt g n Q a5.size w.heap.size (w.heap.size+1) w w0.drew:=⟨J,V,⟨a5,R,y⟩⟩;refine ZT (S:=Mt g n Q a5.size w.heap.size (w.heap.size+1) w) WR a9 (λCQ=>?_);have M:Ms g n Q a5 w.heap.size (w.heap.size+1) w w0.drew:=⟨⟨J,V,B.drew⟩,y⟩;clear a9 J V B y c0;refine tq 0 (ZI w.heap.size) CQ ?_;refine ZB 1 (Zq (S ⟨g,0,N⟩) n n) R (λw' H=>by have c0:=H.c;unfold svN at c0;go_simp) CQ ?_;refine ZB 2 (Zc #[svN g n]) R (λw' H=>by have c0:=H.c;go_simp) CQ ?_;refine ty 3 (Zc Q) R (y_q p Vb _ R (w.heap.size+1) R (λ_ h=>h.rq)) CQ ?_;refine ty 5 (Zc Q) R (y_q p Vb _ R (w.heap.size+1) R (λ_ h=>h.rq)) CQ ?_;refine tq 6 (I Zh P) CQ ?_;refine ty 7 (Zc i) R (BB Vb 168 #[(0,.tmp 15),(1,.tmp 16)] R i (by simp;exact u.a)) CQ ?_;refine rd 4 λK hK=>?_;go_simp;refine Z0 (E.a _) λa4 b1=>?_;have a:=M.next b1;refine hK.out _ _ ⟨a.mq.m,a.mq.q,⟨a5,R,a.s⟩⟩ (λCQ=>?_);clear hK K;try simp only[py]
 refine tq 8 (.pointer (S ⟨g,pl*75,N⟩)) CQ ?_;refine rd 9 λK hK=>?_;rw[qI Vb];have T:a4.there g (pl*75) i.size:=λj hj=>by rw[l]at hj;refine⟨?_,xr a.s⟩;rw[qn a.s,qQ O];rfl
 refine wp_store_mid 168 _ _ R g (pl*75) i R R T (by rw[l];exact H9) f.a ?_;have D:=ba g i.toList (pl*75) a4;have F:=bP g 168 i.toList (pl*75) a4 a5 a.s;refine hK.out _ _ ⟨D.at a.mq.m O,D.at a.mq.q O,⟨_,E1 _ _ _,F⟩⟩ (λCQ=>?_);clear hK K;try simp only[py]
 refine ZZ WR ?_ _;have A:Y (zm g w (a4.setCells g (pl*75) i.toList)/\Qg g n (a4.setCells g (pl*75) i.toList)):=X ⟨zm.trans (zm.of a.mq.gr) D,_,F,by rw[E1];exact b0,x.a⟩;generalize a4.setCells g (pl*75) i.toList=w9 at A |-;clear CQ a M D F T;go_wp2_with fail;go_end0;exact⟨⟨_,R⟩,A.a.1,A.a.2⟩
theorem TF(g n:Nat)(m:0<n)(e:n<=4096):Qh g n (Qg g n) where
 st:=λA u h f=>by obtain⟨v,i,r⟩:=h;exact⟨v,f.same _ _ i R,r⟩
 ob:=λA h=>by obtain⟨v,i,r⟩:=h;exact⟨v,_,i⟩
 rc:=by
  intro z wh fc b h q p o r d k l a W j;exact J0 o r g n m e d k l a W j
 rm:=by
  intro z wh fc b h q p o r d k l a W j;exact Hz o r g n m e d a W j
def LC(g n:Nat)(W:I6):Prop:=if n=0 then(∃S fr,W.heap[g]?=some (Z S 168 fr))else Qg g n W
theorem Mc(g n:Nat)(a:n<=4096):Qh g n (LC g n):=by
 by_cases h:n=0
 .subst h;exact TG g
 .have:LC g n=Qg g n:=by funext W;unfold LC;rw[qF h]
  rw[this];exact TF g n O a
def R8(v:Int)(g n:Nat):I0:=#[I .i32 v,I .u32 0,svN g n]
structure Pb(bc g n:Nat)(W:I6):Prop where
 c:W.heap[bc]?=S (Z (R8 0 g n) 66)
 m:LC g n W
 aw:LD g
 ne:bc≠g
 le:n<=4096
theorem Pb.fx{a:Nat}{b:I6}(h:Pb a g n W)(f:zm k W b)(d:a≠k)(i:g≠k):Pb a g n b :=
 ⟨f.at h.c d,(Mc g n h.le).st _ _ h.m (Fr.mono f λq _ _ e=>by rw[e];exact i),h.aw,h.ne,h.le⟩
theorem Pb.gr{b:Nat}(h:Pb b g n W)(k:Gr W a):Pb b g n a :=
 ⟨(Zz k (xe h.c)).trans h.c,(Mc g n h.le).st _ _ h.m (Fr.of_gr k),h.aw,h.ne,h.le⟩
theorem Ly{z:I0}(d:z.size=75)(b:i<n)(e:j<75):(madeCells z (n*75))[i*75+j]?=z[j]?:=by
 unfold madeCells;have a:i*75+j<n*75:=by have:(i+1)*75<=n*75:=XT 75 b;omega
 rw[Array.getElem?_map,Array.getElem?_range,qI a];simp only[Option.map_some];rw[d,show(i*75+j)%75=j from O,qQ O,getElem!_pos z j O]
theorem LE:zeroCells70.toList.take 64=List.replicate 64 (I Zg 0):=WR
theorem Qm:zeroCells70[65]?=S (Za Zl):=WR
theorem Ql:zeroCells70[66]?=S (Za Zl):=WR
theorem Qk:zeroCells70[67]?=S (Za Zl):=WR
theorem Qj:zeroCells70[68]?=S (Za Zl):=WR
theorem Mh:jE (λ_=>0) Zl (λ_=>Zl) 0 0 0 zeroCells70:=by
 refine⟨xF,λi a=>?_,WR,λi a=>?_,WR,WR,WR⟩
 .rw[<-qO,<-Xi a,LE,List.getElem?_replicate,qI a];rfl
 .have:i=0\/i=1\/i=2\/i=3:=O;obtain rfl|rfl|rfl|rfl:=this
  .exact Qm
  .exact Ql
  .exact Qk
  .exact Qj
theorem QE{g:Int}:¬ Ok (λ_=>0) Zl (λ_=>Zl) 0 h g:=λo=>by
 have:=o.lay;have a:xO (λ_=>(0:UInt8))=Zl:=WS
 rw[a]at this;cases this
theorem Mj:zeroCells168=e9 (qA zeroCells70 0 0) 0:=WR
theorem Lu(h:W.ownsRow base 168 75 (svN g n) n (madeCells zeroCells168 (n*75)).toList):LC g n W:=by
 unfold LC;by_cases q:n=0
 .subst q;rw[qI R];exact RE h
 .rw[qF q];obtain⟨e,_⟩|⟨p,cap,cur,a,_,k,_,_,b,f⟩:=h.2
  .cases e
  .injection a with a _ hcap;injection a with a;injection a with a _ _;subst a hcap;rw[Yk (by rw[ZX,b];exact Zy)]at f;have d:cur=madeCells zeroCells168 (n*75):=Array.toList_inj.1 f;refine⟨cur,k,b,λi l=>⟨λ_=>0,Zl,λ_=>Zl,0,_,0,0,0,Mh,λ_ _=>R,λ_ _=>R,λj m=>?_,λh g o=>(QE o).elim⟩⟩;rw[d,Ly Ml l m,Mj]
theorem Jl(g n:Nat):prog.built 66 [(1,Zc #[svN g n])]=S (R8 0 g n):=WR
theorem NW(n:Nat)(f:n<=4096)(w:I6)(l:Wt w):Calls prog 9 #[I L n] w λe w'=>(∃h g,e=Zd (Ze #[ZI h,I L 0])/\Pb h g n w'/\w.heap.size<=h/\w.heap.size<=g)/\Gr w w':=by
 have i:=X (NS n f w);have m:¬ (n:Int)<0:=O;have o:¬ (4096:Int)<(n:Int):=O;go_enter func9,ntmps9;go_wp2_with(first
  | (go_at_call 20;refine Z0 i.a λw1⟨d,a⟩=>?_)
  | (refine qqq R 66 #[(1,.tmp 11)] R (R8 0 (w.heap.size+1) n) ?_ ?_;focus (first|(go_simp;exact Jl _ n)|(simp;exact Jl _ n))))
 go_ret2;have b:Gr w1 (w1.alloc (Z (R8 0 (w.heap.size+1) n) 66)):=ZN;have j:=Lu d;have k:w.heap.size+1<w1.heap.size:=by obtain⟨p,fr,e⟩:=(Mc _ n f).ob _ j;exact Nn e
 exact⟨⟨w1.heap.size,w.heap.size+1,R,⟨Z7 w1 _,(Mc _ n f).st _ _ j (Fr.of_gr b),l.lt O,O,f⟩,ZR a,O⟩,Gr.trans a b⟩
theorem NV(n:Int)(a:n<0\/4096<n)(w:I6):Calls prog 9 #[I L n] w λe w'=>e=Zd (Ze #[.pointer N,I L 7])/\w'=w:=by
 by_cases d:n<0
 .clear a;go_enter func9,ntmps9;go_wp2_with fail;exact MW
 .have b:4096<n:=O;clear a;go_enter func9,ntmps9;go_wp2_with fail;exact MW
end
def ItD{α:Type}(P:Program)(g:Nat)(lb:I0)(encs:α->I0)(T:Obj->Prop)(C D:Nat->Prop)(xs:List α)(w:I6):Prop :=
 ∀(l B:Nat)(J Jx:List α->I6->Prop)(W:I6),Fr (λk _=>C k) w W->B<=W.heap.size->vu B T J->vu B T Jx->(∀s A A',J s A->Fr (λk _=>¬ D k) A A'->J s A')->(∀s A A',Jx s A->Fr (λk _=>¬ D k) A A'->Jx s A') →
  (∀pre x W1,pre++[x] <+: xs->J pre W1->YieldAt Fence.wide 0 P l (encs x) W1 λe W'=>Fr (jM B T C) W1 W' ∧
   ((e=Zd (Za Zk)/\J (pre++[x]) W')\/(e=Zd (Za Zl)/\Jx (pre++[x]) W'))) →
  J [] W →
  Calls P g (#[.func (.yield l) #[] #[]]++lb) W λe W'=>(∃v,e=Zd v)/\(J xs W'\/∃pre,pre <+: xs/\Jx pre W')
theorem Kv{α:Type}{P:Program}{g:Operand}{ps:Array Tmp}{assign body:Code}{Q:Exit->Act->I6->Prop}{a:Act}{gf:Nat}{lb:I0}
 (hg:a.eval g=.func (.func gf) #[] lb) (eg:∀args w,(callFunc gf args).run P w=.ok (.enter gf args) w) {i:α->I0} {T:Obj->Prop} {C D:Nat->Prop} {K:List α} {w0:I6} (V:ItD P gf lb i T C D K w0)
 (B:∀o,T o->o.isCells=Zk) (hC:∀k,C k->k<w.heap.size) (L:Fr (λk _=>C k) w0 w) (Z:∀x,(i x).size=ps.size)
 (b:List α->I6->Prop) (F:Code->List α->I6->Prop) (J:vu w.heap.size T b) (y:∀c,vu w.heap.size T (F c)) (h0:b [] w) (hD:∀k,D k->k<w.heap.size) (a5:∀s A l,b s A->Fr (λk _=>¬ D k) A l->b s l) (R:∀c s A l,F c s A->Fr (λk _=>¬ D k) A l->F c s l)
 (hR:cQ P w.heap.size 9 T C i K ps assign body a.tmps b F)
 (z:∀(D:Nat)(W:I6),w.heap.size<=D->b K W->W.heap[D]?=S (.deferred (S []))->Q .normal { a with defers:={ target:=.collected D,args:=#[] } :: a.defers } W)
 (E:∀(D:Nat)(c:Code)(d:List α)(W:I6),w.heap.size<=D->d <+: K->F c d W->W.heap[D]?=S (.deferred (S []))->c.wpIn Fence.wide n P Q { a with defers:={ target:=.collected D,args:=#[] } :: a.defers } W) :
 (Code.rangeFunc g ps assign body).wpIn Fence.wide n P Q a w:=by
 refine wpIn_rangeFunc ?_;intro fn _;generalize j:(w.alloc (.deferred (S []))).alloc (.loop { state:=.ready,pending:=N,fn,tmps:=a.tmps,params:=ps,assign,body,defers:=w.heap.size })=m;have f1:∀Q:Nat->Obj->Prop,Fr Q w m:=λQ=>by rw[<-j];exact(ZP.alloc _).alloc _
 have a4:m.heap[w.heap.size+1]?=S (.loop { state:=.ready,pending:=N,fn,tmps:=a.tmps,params:=ps,assign,body,defers:=w.heap.size }):=VB;have M:m.heap[w.heap.size]?=S (.deferred (S [])):=Ol;have a1:m.heap.size=w.heap.size+2:=by rw[<-j];simp
 refine⟨w.heap.size+1,[{ target:=.collected w.heap.size,args:=#[] }],m,{ target:=.fn (.func gf) lb,args:=#[.func (.yield (w.heap.size+1)) #[] #[]] },m,gf,
  #[.func (.yield (w.heap.size+1)) #[] #[]]++lb,m,?_,?_,?_,?_,?_,?_⟩
 .rw[<-j];exact run_enterLoop_outer _ _ _ _ _
 .simp only[resolve,hg];simp[go_sem]
 .intro f' a0;trivial
 .simp[invoke,go_sem,eg]
 .intro h;cases h
 .refine ZY.2 ((V (w.heap.size+1) m.heap.size
   (λd W=>b d W/\W.heap[w.heap.size+1]?=S (.loop { state:=.ready,pending:=N,fn,tmps:=a.tmps,params:=ps,assign,body,defers:=w.heap.size })/\W.heap[w.heap.size]?=S (.deferred (S [])))
   (λd W=>∃c,F c d W/\W.heap[w.heap.size+1]?=S (.loop { state:=.done,pending:=S c,fn,tmps:=a.tmps,params:=ps,assign,body,defers:=w.heap.size })/\W.heap[w.heap.size]?=S (.deferred (S [])))
   m (L.trans (f1 _)) Zy ?_ ?_ ?_ ?_ ?_ ⟨J _ _ _ h0 (f1 _),a4,M⟩).mono ?_)
  .rintro s A l ⟨p,r,u⟩ f;exact⟨qo J O _ _ _ p f,f.same _ _ r (Zi O),f.same _ _ u (Zi O)⟩
  .rintro s A l ⟨c,p,r,u⟩ f;exact⟨c,qo (y c) O _ _ _ p f,f.same _ _ r (Zi O),f.same _ _ u (Zi O)⟩
  .rintro s A l ⟨p,r,u⟩ f;exact⟨a5 _ _ _ p f,f.same _ _ r (λq=>Tt),f.same _ _ u (λq=>Tt)⟩
  .rintro s A l ⟨c,p,r,u⟩ f;exact⟨c,R c _ _ _ p f,f.same _ _ r (λq=>Tt),f.same _ _ u (λq=>Tt)⟩
  .rintro d x W hx ⟨p,r,u⟩;exact jb (qjp (B:=m.heap.size) (b:=w.heap.size) O O B hC Z J y (λW=>W.heap[w.heap.size]?=S (.deferred (S []))) (λA l h f=>f.same _ _ h ⟨Zy,O,O,rfl⟩) hR d x W hx p r u)
  .rintro e H ⟨⟨v,rfl⟩,⟨a3,G,a2⟩|⟨d,hp,c,a3,G,a2⟩⟩
   .have f:∀o',Fr (yv w.heap.size T) H (H.putObj (w.heap.size+1) o'):=λo'=>ZP.putObj _ (λo e q=>by
     rw[G]at e;cases e;obtain q|q:=q
     .omega
     .have:=B _ q;cases this)
    exact⟨N,_,run_endLoop (P:=P) G WU,z _ _ Zy (J _ _ _ a3 (f _)) ((Xw O).trans a2)⟩
   .have f:∀o',Fr (yv w.heap.size T) H (H.putObj (w.heap.size+1) o'):=λo'=>ZP.putObj _ (λo e q=>by
     rw[G]at e;cases e;obtain q|q:=q
     .omega
     .have:=B _ q;cases this)
    exact⟨S c,_,run_endLoop (P:=P) G WU,E _ c d _ Zy hp (y c _ _ _ a3 (f _)) ((Xw O).trans a2)⟩
def Kk(s:I4)(xs:I3):Prop:=xs≠[]/\(∀x∈xs,(10:UInt8)∉x.data.toList)/\Lib.join (xs.map (·.data.toList)) [10]=s.data.toList
theorem KZ(c:UInt8):∀l:I1,∃d:I3,d≠[]/\(∀x∈d,c∉x.data.toList)/\Lib.join (d.map (·.data.toList)) [c]=l
 | []=>⟨[⟨#[]⟩],WU,WU,by simp[Lib.join_one]⟩
 | b :: l=>by
  obtain⟨d,i,f,g⟩:=KZ c l;obtain⟨x,r,rfl⟩:=XI i;rw[YM,Lib.join_cons]at g;by_cases h:b=c
  .refine⟨⟨#[]⟩ :: x :: r,WU,λy a=>?_,?_⟩
   .obtain rfl|a:=Yj.1 a
    .simp
    .exact f y a
   .rw[YM,Lib.join_cons,YM,<-g,h];simp[Lib.joinTail]
  .refine⟨⟨(b :: x.data.toList).toArray⟩ :: r,WU,λy a=>?_,?_⟩
   .obtain rfl|a:=Yj.1 a
    .have:=f x WU;simp;exact⟨λe=>h e.symm,by simpa using this⟩
    .exact f y VM
   .rw[YM,Lib.join_cons,<-g];simp
theorem PO(c:UInt8):∀{l:I1},c∉l->Lib.indexByte l c=-1
 | [],_=>rfl
 | b :: l,h=>by
  have a:(b==c)=Zl:=by rw[qM];rintro rfl;simp at h
  unfold Lib.indexByte;rw[a,PO c (λe=>h Tf)];rfl
theorem L9(c:UInt8)(d:I1):∀{l:I1},c∉l->Lib.indexByte (l++c :: d) c=(l.length:Int)
 | [],_=>by simp[Lib.indexByte]
 | b :: l,h=>by
  have a:(b==c)=Zl:=by rw[qM];rintro rfl;simp at h
  rw[YA,Lib.indexByte,a,L9 c d (λe=>h Tf)];have:((l.length:Int)==-1)=Zl:=Vp
  simp[this]
theorem eu{x y:I4}(h:x.data.toList=y.data.toList):x=y:=by cases x;cases y;simpa using h
theorem nc{t:I4}{d:I3}(h:Kk t d):(Lib.indexByte t.data.toList 10=-1/\d=[t])\/∃i:Nat,Lib.indexByte t.data.toList 10=i/\i<t.size/\∃r,d=t.extract 0 i :: r/\Kk (t.extract (i+1) t.size) r:=by
 obtain⟨j,e,b⟩:=h;obtain⟨x,r,rfl⟩:=XI j;have f:=e x WU;cases r with
 | nil =>
  rw[YM,Wi,Lib.join_one]at b;have:=eu b;subst this;exact Zi ⟨PO _ f,R⟩
 | cons y r =>
  have a:t.data.toList=x.data.toList++10 :: Lib.join ((y :: r).map (·.data.toList)) [10]:=by
   rw[<-b,YM,Lib.join_cons,YM,Lib.join_cons];simp[Lib.joinTail]
  have k:t.size=x.size+1+(Lib.join ((y :: r).map (·.data.toList)) [10]).length:=by
   have:=Xn List.length a;rw[qZ,Yq]at this;simp only[ZX,YY]at this;omega
  refine Zj ⟨x.size,?_,O,y :: r,?_,WU,λz g=>e z (by simp at g |-;exact Zj g),?_⟩
  .rw[a,L9 _ _ f];rfl
  .have:t.extract 0 x.size=x:=eu (by rw[Lib.extract_from_zero,a,Wg WU,Yk WU]);rw[this]
  .rw[Lib.extract_to_end,a,List.drop_append,List.drop_of_length_le WU];simp
theorem M6(s:I4)(hs:s.size<4294967281)(F:I3)(hx:Kk s F)(d bp D:Nat)(a9:d≠bp)(b0:d≠D)(T:Obj->Prop)(w:I6)(h1:w.heap[d]?=S (Z #[Zb s] 9))(h2:w.heap[bp]?=S (Z #[Zb ⟨#[10]⟩] 9))(h3:w.heap[D]?=S (Z #[I L 0] 3)) :
 ItD prog 273 #[ZI bp,ZI d,ZI D] (λx:I4=>#[Value.string x]) T (λk=>k=d\/k=bp\/k=D) (λk=>k=d) F w:=by
 intro l B J Jx W a4 hB hJ P a8 Q a5 h0;have j:=a4.same _ _ h1 (Zi R);have f:=a4.same _ _ h2 (Zj (Zi R));have o:=a4.same _ _ h3 (Zj (Zj R));clear a4 h1 h2 h3 hJ P;refine(ZY (n:=1)).1 ?_;refine callsIn_of_wp func273 rfl trivial ?_ R;simp only[ntmps273,Nat.reduceAdd,Nat.reduceSub,Zr];have c2:=(qi f).1;refine Z9.2 ?_;go_wp2_with fail;refine(Z9 (n:=1)).1 ?_;gi_loopg [] s.size (λg wr=>∃(a:I3)(t:I4)(r:I3),t.size<=g/\t.size<=s.size/\F=a++r/\Kk t r/\wr.heap[d]?=S (Z #[Zb t] 9)/\wr.heap[bp]?=S (Z #[Zb ⟨#[10]⟩] 9)/\wr.heap[D]?=S (Z #[I L 0] 3)/\J a wr)
 case atStart=>exact⟨[],s,F,Zy,Zy,R,hx,j,f,o,h0⟩
 case round=>
  clear j f o h0 hx c2;obtain⟨a,t,r,g1,g2,b,a6,j,f,o,a3⟩:=hrel;obtain⟨c1,f1⟩:=qi j;obtain⟨c2,_⟩:=qi f;obtain⟨c3,_⟩:=qi o;have u:Y (∀W,Calls prog 261 #[Zb t,Zb ⟨#[10]⟩] W λe w'=>e=Zd (I L (Lib.indexByte t.data.toList 10))/\w'=W):=X λW=>Any.strings_Index_one { Tryz.lays147 with } t 10 W;obtain⟨n,E⟩|⟨i,n,a2,a7,E,A⟩:=nc a6
  .rw[n]at u;subst E;obtain⟨fn,tmps,m,G,hy,hR⟩:=a5 a t wr (by rw[b];exact List.prefix_rfl) a3;have v:=X b;clear a6 a3 a5 n b a8 Q j f o;gi_wp2_with (refine⟨trivial,?_⟩;gi_at_call 261;refine(ZY.2 (u.a _)).mono ?_;rintro e w' ⟨rfl,rfl⟩);refine(Z9 (n:=1)).1 ?_;gi_wp2;refine hR.mono ?_;rintro e W3 ⟨H,⟨rfl,p⟩|⟨rfl,h⟩⟩
   .gi_wp2;go_end0;exact⟨⟨_,R⟩,Zi (by rw[v.a];exact p)⟩
   .gi_wp2;go_end0;exact⟨⟨_,R⟩,Zj ⟨_,by rw[v.a];exact List.prefix_rfl,h⟩⟩
  .rw[n]at u;obtain⟨x,M⟩:=Zn (t.extract 0 i);obtain⟨y,C⟩:=Zn (t.extract (i+1) t.size);rw[M.a]at E;rw[C.a]at A;have a0:y.size<t.size:=by rw[<-C.a,Wu];omega
   have z:Y (F=(a++[x])++a7):=X (by rw[b,E,qS];rfl);obtain⟨fn,tmps,m,G,hy,hR⟩:=a5 a x wr (by rw[b,E];exact⟨a7,WU⟩) a3;have V:=X A;have e0:IntKind.i64.wrap ((i:Int)+0)=(i:Int):=Vc;have e1:IntKind.i64.wrap ((i:Int)+1)=((i+1:Nat):Int):=Vc;have a1:¬ (i:Int)<0:=O;have s1:∀W,(Instr.sliceAt 9 (Zb t) N (S (I L i)) N).run prog W=.ok (Zb x) W:=λW=>by rw[<-M.a];exact(run_slice_string_h W 9 t underlying9 L (i:Int) O O)
   clear a6 A a3 n b E;gi_wp2_with (refine⟨trivial,?_⟩;gi_at_call 261;refine(ZY.2 (u.a _)).mono ?_;rintro e w' ⟨rfl,rfl⟩);refine hR.mono ?_;rintro e W3 ⟨H,⟨rfl,p⟩|⟨rfl,h⟩⟩
   .have j:=H.same _ _ j (Zi (Zi R));have f:=H.same _ _ f (Zi (Zj (Zi R)));have o:=H.same _ _ o (Zi (Zj (Zj R)));obtain⟨c1,f1⟩:=qi j;obtain⟨c2,_⟩:=qi f;have K:Y (∃(a:I3)(t:I4)(r:I3),t.size<=y.size/\t.size<=s.size/\F=a++r/\Kk t r/\(W3.setCell ⟨d,0,N⟩ (Zb y)).heap[d]?=S (Z #[Zb t] 9)/\(W3.setCell ⟨d,0,N⟩ (Zb y)).heap[bp]?=S (Z #[Zb ⟨#[10]⟩] 9)/\(W3.setCell ⟨d,0,N⟩ (Zb y)).heap[D]?=S (Z #[I L 0] 3)/\J a (W3.setCell ⟨d,0,N⟩ (Zb y))):=X ⟨a++[x],y,a7,Zy,O,z.a,V.a,jm j,(Yg W3 _ _ _ (λe=>a9 e.symm)).trans f,(Yg W3 _ _ _ (λe=>b0 e.symm)).trans o,a8 _ _ _ p (ZP.setCell _ (λ_ _ q=>q R))⟩;clear j f o p H;gi_wp2;gi_roundg y.size
    case measure=>omega
    case rel=>rw[C.a];exact K.a
   .gi_wp2;refine ZS (XS R _ _ _) R ?_;exact⟨⟨_,R⟩,Zj ⟨_,by rw[z.a];exact Xz _ _,h⟩⟩
theorem Nr(u:Nat)(a:u<18446744073709551616)(w:I6)(B:HG w):ZL 350 #[I Zh u,I L 10] w (Zb ⟨(Lib.decDigits u).toArray⟩):=by
 go_enter func350,ntmps350;by_cases F:u<100
 .have A:=X (λW=>Any.internal_strconv_small { Tryz.laysM171 with } u F W);have v:IntKind.i64.wrap (u:Int)=u:=Vc;have l:(u:Int)<100:=O;clear a B;go_wp2_with(go_at_call 323;refine(A.a _).mono ?_;rintro e w' ⟨rfl,rfl⟩);go_ret;exact⟨R,ZO⟩
 .have l:¬ (u:Int)<100:=O;have o:1<=u:=O;have z:Lib.nDigits u<=20:=by have:=Lib.numDigits_eq u o a;split at this<;>omega
  have r:prog.arrayLen 365=24:=WR;have G:∀W,(Instr.sliceAt 365 (ZI w.heap.size) N (S (I L (Lib.nDigits u:Int))) N).run prog W=.ok (Zq (S ⟨w.heap.size,0,N⟩) (Lib.nDigits u) 24) W:=λW=>by rw[run_sliceAt_array_h W 365 ⟨w.heap.size,0,N⟩ (by simp[Program.arrayLen,Program.elem,underlying365]) L (Lib.nDigits u:Int) O Tx];go_simp
  have f:=Lib.holds_zero0 w 365 (Lib.nDigits u) O;have d:=Any.internal_strconv_formatBase10 { Tryz.laysM171 with } w.heap.size 0 24 u (Array.replicate (Lib.nDigits u) 0) (w.alloc (Z Lib.zeros24 365)) f (by rw[Array.size_replicate];exact Lib.lt_pow_nDigits u) a (by rw[Array.size_replicate];omega);rw[Array.size_replicate]at d;have n:=X (Any.internal_strconv_numDigits { Tryz.laysM171 with } u o a (w.alloc (Z Lib.zeros24 365)) (Lib.tabIs_alloc B _));have E:=X d;have i:=X f;clear f d B;go_upto_region 5 with fail;show Code.wp _ _ _ _ (w.alloc (Z Lib.zeros24 365));go_upto_region 6 with(go_at_call 324;refine n.a.mono ?_;rintro e w' ⟨rfl,rfl⟩);go_upto_region 7 with(go_at_call 325;refine Z0 E.a λw'⟨k,v',D,p,m⟩=>?_;have g:=X p;have q:=X m;clear p m);have v:(convert 145 9 (Zq (S ⟨w.heap.size,0,N⟩) (Lib.nDigits u) 24)).run prog w'=.ok (Zb ⟨(Lib.decDigits u).toArray⟩) w':=by
   have h:=run_convert_bytes_back (P:=prog) w' 145 9 5 ⟨w.heap.size,0,N⟩ 24 (Lib.decDigits u) underlying145 underlying5 underlying9 (λj y=>by
    rw[g.a,Lib.row_is_numeral q.a j y,Lib.add_plain,World.cell?_drewN];exact Sort.cell?_putRow (λ(b:UInt8)=>Value.int Zg (b.toNat:Int)) _ w.heap.size 0 _ D i.a (by rw[q.a.size,Array.size_replicate]) j (by rw[q.a.size];rw[Lib.decDigits_length]at y;exact y))
   rw[Lib.decDigits_length]at h;exact h
  have x:Y (Gr w w'):=X (by
   rw[g.a,Sort.alloc_eq_grow];obtain⟨C,_,e⟩:=Sort.putRow_grow_new (λ(b:UInt8)=>Value.int Zg (b.toNat:Int)) w #[Z Lib.zeros24 365] w.heap.size 0 D Zy;rw[e];exact Gr.grow w k C)
  clear g q i E n;go_wp2;go_ret;exact⟨R,x.a⟩
theorem RD{e:TypeId}{d:List I7}(h:W.ownsRow base e 1 v k d):∃a b c,v=Zq a b c:=by
 obtain⟨rfl,_⟩|⟨f,cap,cur,rfl,_⟩:=h.2
 .exact⟨_,_,_,R⟩
 .exact⟨_,_,_,R⟩
theorem RF{q:Nat}{e t:TypeId}{i:List I7}{c:I0}{fr:Nat × Nat}(h:W.ownsRow base e 1 v k i)(a:W.heap[q]?=S (Z c t fr))(g:e≠t):S q≠v.ownBlock:=λd=>by
 obtain⟨rfl,_⟩|⟨f,cap,cur,rfl,_,b,_⟩:=h.2
 .simp[Value.ownBlock]at d
 .obtain rfl:q=f:=by simpa[Value.ownBlock]using d
  rw[b]at a;injection a with a
  injection a with _ a _
  exact g a
theorem RG{f:List I7}(h:W.ownsRow base 9 1 v k f):∀q,v.ownBlock=S q->base<=q/\∃c fr,W.heap[q]?=S (Z c 9 fr):=by
 intro q b;obtain⟨rfl,_⟩|⟨d,cap,cur,rfl,e,a,_⟩:=h.2
 .simp[Value.ownBlock]at b
 .obtain rfl:d=q:=by simpa[Value.ownBlock]using b
  exact⟨e,_,_,a⟩
theorem HV{t:TypeId}(h:W.heap[B]?=S (Z A t)):W.frozen? ⟨B,k,N⟩=Zl:=by simp[World.frozen?,h]
def svL(g n:Nat):I7:=Zq (S ⟨g,0,N⟩) n n
def CQ(PA:I0)(g n:Nat)(v:I7):I0:=PA++#[.func (.func 64) #[] #[],.func (.func 65) #[] #[],I L 1,svL g n,.func (.func 60) #[] #[],.func (.func 61) #[] #[],I L 2,svL g n,v]
theorem ny(a:PA.size=72)(g n:Nat)(v:I7)(i:Nat):(CQ PA g n v)[72+i]?=(#[.func (.func 64) #[] #[],.func (.func 65) #[] #[],I L 1,svL g n,.func (.func 60) #[] #[],.func (.func 61) #[] #[],I L 2,svL g n,v]:I0)[i]?:=by unfold CQ;rw[Y7,qF O,a,Nat.add_sub_cancel_left]
theorem H7(b:PA.size=72)(g n:Nat)(v:I7)(a:i<72):(CQ PA g n v)[i]?=PA[i]?:=by unfold CQ;rw[Y7,qI O]
theorem Ni(a:PA.size=72)(g n:Nat)(v v':I7):(CQ PA g n v).setIfInBounds 80 v'=CQ PA g n v':=by unfold CQ;rw[Array.setIfInBounds_append_right O,a];rfl
def TSt(o:Obj):Prop:=∃c fr,o=Z c 9 fr
def FrL(bl g base:Nat)(W W':I6):Prop:=Fr (λk o=>k≠bl/\k≠g/\(k<base\/¬ TSt o)) W W'
structure PZ(bl g n base:Nat)(I:I6->Prop)(PA:I0)(rs:I3)(W:I6):Prop where
 c:∃v,W.heap[bl]?=S (Z (CQ PA g n v) 233)/\W.ownsRow base 9 1 v rs.length (rs.map Value.string)
 i:I W
 pz:PA.size=72
structure Sv(bl g n base:Nat)(I:I6->Prop):Prop where
 b1:bl<base
 b2:g<base
 ne:bl≠g
 st:∀A A',I A->Fr (λk _=>k=g) A A'->I A'
 ob:∀A,I A->∃S fr,A.heap[g]?=some (Z S 168 fr)
theorem uy{b:I6}{e:List I7}(h:W.ownsRow base 9 1 v k e)(f:∀q c fr,W.heap[q]?=S (Z c 9 fr)->base<=q->b.heap[q]?=S (Z c 9 fr)):b.ownsRow base 9 1 v k e:=by
 refine⟨h.1,?_⟩;obtain g|⟨q,cap,cur,j,d,i,a⟩:=h.2
 .exact Zi g
 .exact Zj ⟨q,cap,cur,j,d,f _ _ _ i d,a⟩
theorem PZ.gr{bl:Nat}{f:I6->Prop}(h:PZ bl g n base f PA rs W)(lc:Sv bl g n base f)(k:Gr W a):PZ bl g n base f PA rs a:=by obtain⟨v,b,d⟩:=h.c;exact⟨⟨v,(ZE k b),uy d λq c fr e _=>(ZE k e)⟩,lc.st _ _ h.i (Fr.of_gr k),h.pz⟩
theorem FrL.refl(bl g base:Nat)(W:I6):FrL bl g base W W:=ZP
theorem FrL.trans{bl:Nat}{A B C:I6}(h:FrL bl g base A B)(k:FrL bl g base B C):FrL bl g base A C:=Fr.trans h k
theorem FrL.of{bl:Nat}{A B:I6}(h:Gr A B):FrL bl g base A B:=Fr.of_gr h
theorem Ht{bl:Nat}{a0:I6->Prop}(lc:Sv bl g n base a0)(x:I4)(Q:rs.length<=2000000000000)(W:I6)(h:PZ bl g n base a0 PA rs W)(a7:base<=W.heap.size) :
 Calls prog 159 #[ZI bl,Zb x] W λe M=>e=Zd (Ze #[])/\PZ bl g n base a0 PA (rs++[x]) M/\FrL bl g base W M:=by
 have f:(prog.info? 9).map (λi=>(i.zero,i.size,i.bytes))=S (S (Zb ⟨#[]⟩),1,16):=WR;obtain⟨a5,P,J,K,a6⟩:=We f;have G:=X P;clear P f;obtain⟨v,C,a1⟩:=h.c;have hpz:=h.pz;have V:=X h.i;have c1:W.cell? ⟨bl,80,N⟩=S v:=by rw[Zs C,ny hpz g n _ 8];rfl
 have r:=X (a1.alloc (Z #[Zb x] 9));have F:∀j a3,[Value.string x][j]?=S a3->(W.alloc (Z #[Zb x] 9)).cell? ((⟨W.heap.size,0,N⟩:Addr).add j)=S a3:=Wp _ _ _;have E:bl<W.heap.size:=(qB.1 C).1;have u:=X C;have w:(W.alloc (Z #[Zb x] 9)).heap[bl]?=W.heap[bl]?:=YP _ _ _ E;clear h a1 C;go_enter func159,ntmps159;go_wp2_with(at_builtin;refine Xv _ R (.tmp 8) (.tmp 10) 43 rfl base 9 a5 (Zb ⟨#[]⟩) 1 16 underlying43 G.a J K a6 R WW v rs.length (rs.map Value.string) R r.a ⟨W.heap.size,0,N⟩ 1 1 [Zb x] R R F Vi Vk O WX ?_;intro v' p b a A;obtain⟨B,sb,sc,rfl⟩:=RD b;have l:=X b;have d:=X a;have hw1:p.heap[bl]?=S (Z (CQ PA g n v) 233):=(a.block _ WX (RF r.a (w.trans u.a) WW)).trans (w.trans u.a);have z5:p.cell? ⟨bl,80,N⟩=S v:=by { rw[Zs hw1,ny hpz g n _ 8];rfl };have zf:p.frozen? ⟨bl,80,N⟩=Zl:=HV hw1;have m:=X hw1;clear hw1 b a A);have y:Y (PZ bl g n base a0 PA (rs++[x]) (p.setCell ⟨bl,80,N⟩ (Zq B sb sc))/\FrL bl g base W (p.setCell ⟨bl,80,N⟩ (Zq B sb sc))):=X (by
  have z:=d.a
  have fg:Fr (λk o=>k<base\/¬ TSt o) W p:=⟨z.os,z.tape,z.output,q7 WU z.size,λk o e q=>by
   have H:=(qB.1 e).1;have a4:=(YP W (Z #[Zb x] 9) k H).trans e;refine(z.block _ WX λT=>?_).trans a4;obtain⟨q1,c,fr,a2⟩:=RG r.a k T.symm;rw[a4]at a2;obtain q|q:=q
   .omega
   .exact q ⟨c,fr,qP a2⟩⟩
  have D:Fr (λk _=>k≠bl) p (p.setCell ⟨bl,80,N⟩ (Zq B sb sc)):=ZP.setCell _ (λ_ _ q=>q R);refine⟨⟨⟨Zq B sb sc,?_,?_⟩,?_,hpz⟩,?_⟩
  .have:=qv (i:=80) (v:=Zq B sb sc) m.a
   rwa[Ni hpz]at this
  .have:=l.a;rw[Ys,qZ];exact uy this λq c fr e a8=>D.same _ _ e (by have:=lc.b1;omega)
  .refine lc.st _ _ (lc.st _ _ V.a (fg.mono λk o _ q=>Zi (by rw[q];exact lc.b2))) (D.mono λk o _ q=>by rw[q];exact lc.ne.symm)
  .exact Fr.trans (fg.mono λk o _ q=>q.2.2) (D.mono λk o _ q=>q.1))
 clear l d m;go_wp2;go_end0;exact⟨R,y.a⟩
theorem ad(u:Nat)(a:u<18446744073709551616)(w:I6)(h:HG w):ZL 281 #[I Zh u] w (Zb ⟨(Lib.decDigits u).toArray⟩):=by
 have d:Y (∀W,HG W->ZL 319 #[I Zh u,I L 10] W (Zb ⟨(Lib.decDigits u).toArray⟩)):=X λW g=>by have f:=X (Nr u a W g);go_enter func319,ntmps319;go_wp2_with(go_at_call 350;refine Z0 f.a λw' b=>?_);go_ret;exact⟨R,b⟩
 go_enter func281,ntmps281;go_wp2_with(go_at_call 319;refine Z0 (d.a _ h) λw' b=>?_);go_ret;exact⟨R,b⟩
def df(lo:Nat)(t:I1):Option Nat:=(kZ 1 t).filter λd=>Zm (lo<=d)&&Zm (d<=3)
theorem MN{b:Nat}{t:I1}(h:df b t=S d):b<=d/\d<=3:=by unfold df at h;have:=X5.1 h;have a:=this.2;simp at a;exact a
theorem Ae(t:I4)(q:t.size<=maxLen)(f:Nat)(p:f<=1)(w:I6):Calls prog 280 #[Zb t,I L f] w λe w'=>(∃v:Nat,(∀d,df f t.data.toList=S d->v=d)/\v<=999999999/\e=Zd (Ze #[I L v,Za (df f t.data.toList).isSome]))/\w'=w:=by
 have a:=X (ey 1 O t q w);have i:=BR 1 O t.data.toList;have j:(df f t.data.toList).isSome=((kZ 1 t.data.toList).isSome&&Zm (f<=(kZ 1 t.data.toList).getD 0)&&Zm ((kZ 1 t.data.toList).getD 0<=3)):=by
  unfold df;cases kZ 1 t.data.toList with
  | none=>rfl
  | some d=>by_cases g:f<=d<;>by_cases n:d<=3<;>simp[Option.filter,g,n]
 have k:Y (∀d,df f t.data.toList=S d->(kZ 1 t.data.toList).getD 0=d):=X λd h=>by unfold df at h;rw[(X5.1 h).1];rfl
 rw[j];unfold vv at a;generalize (kZ 1 t.data.toList).getD 0=v at a i k;generalize (kZ 1 t.data.toList).isSome=b at a;clear j;by_cases g:f<=v<;>by_cases o:v<=3<;>cases b;all_goals
  first|(have l:(f:Int)<=v:=O)|(have l:¬ (f:Int)<=v:=O)
  first|(have m:(v:Int)<=3:=O)|(have m:¬ (v:Int)<=3:=O)
  go_enter func280,ntmps280;go_wp2_with(go_at_call 217;refine Z1 a.a ?_);go_ret2;exact⟨⟨v,k.a,O,by simp[g,o]<;>omega⟩,R⟩
end Go.Proofs.YtnfakamfmkhlbabGreatDoor.C
