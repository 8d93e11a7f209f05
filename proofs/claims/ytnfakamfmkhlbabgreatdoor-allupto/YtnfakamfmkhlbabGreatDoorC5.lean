import Derived.Test.YtnfakamfmkhlbabGreatDoorC3
set_option maxRecDepth 100000
set_option maxHeartbeats 4000000
set_option linter.all false
open Go.Value renaming int->I,bool->Za,string->Zb,agg->Zc,tuple->Ze,slice->Zq
open Go.IntKind renaming i64->L,u8->Zg,u64->Zh,wrap->a_
open Go.Obj renaming cells->Z
open Go.Ending renaming returned->Zd
open Or renaming inl->Zi,inr->Zj
open Option renaming some->S,none->N
open Bool renaming true->Zk,false->Zl
open Decidable renaming decide->Zm
open Go.RowKit renaming Hid->Y
open Go renaming World->I6,Value->I7,Calls->i_,undef->m_
open Go.Proofs.Tryz renaming zeroCells70->b_,prog->c_
open Go.Lib renaming decDigits->d_,indexByte->e_,join->f_
open List renaming range->h_
open UInt8 renaming ofNat->j_
open Go.Op renaming stringOp->k_
open Go.Instr renaming index->l_
open Go.Code renaming wp->n_
namespace Go.Proofs.YtnfakamfmkhlbabGreatDoor.C
open Go.ChangeShapes Go.WideShapes Go.ChangeAt Go.RowKit Go.Shelf Tryz
attribute [local go_sem] qd qe Oper.semAt_some
variable {z:I2}{wh:Bool}{b h m:Int}{PA A M:I0}{fc:I5}{w W a w' w1 V:I6}{f n i k g base d e l j x B Bp:Nat}{v:I7}{u:UInt8}{Q:Nat->Obj->Prop}{rs:I3}{y:I1}
def wV(p:pH)(n:Int):List Mv:=if n=1 then yo (xM p) p.white p.castle p.behind else xC (xM p) p.white p.castle p.behind
def yc(s:I4)(n:Int)(base:Nat)(e:Ending)(w':I6):Prop:=
 (xG s=N/\e=Zd (Ze #[mU,I L 1]))\/(∃p,xG s=S p/\xP p=Zl/\e=Zd (Ze #[mU,I L 2]))\/(∃p,xG s=S p/\xP p=Zk/\¬(n=1\/n=2)/\e=Zd (Ze #[mU,I L 3]))\/(∃p v,xG s=S p/\xP p=Zk/\(n=1\/n=2)/\e=Zd (Ze #[v,I L 0])/\yt base v (ud (jI (wV p n))) w')
def Ab{f:I3}(h:yt base v f w)(i:d<=base):yt d v f w:=by
 refine⟨h.1,?_⟩;obtain⟨a,b⟩|⟨g,cap,cur,e,j,r⟩:=h.2
 .exact Zi ⟨a,b⟩
 exact Zj ⟨g,cap,cur,e,q7 i j,r⟩
def lR{p:pH}(h:xP p=Zk):xO (xM p)=Zk:=by unfold xP k6 at h;simp only[qH]at h;exact h.1
def nU{s:I4}{n k:Int}(h:iP s k):yc s n base (Zd (Ze #[mU,k])) w':=by
 obtain⟨rfl,h⟩|⟨rfl,p,a,b⟩:=h
 .exact Zi ⟨h,R⟩
 exact Zj (Zi ⟨p,a,b,R⟩)
def qkd(s:I4)(a2:s.size<4294967281)(n:Int)(Q:∀p,xG s=S p->xP p=Zk->lg (xM p) p.white p.castle p.behind)(m:Int)(w:I6)(E:Ct m w)(P:uV w):i_ c_ 15 #[s,n] w λe w'=>yc s n w e w'/\Gr w w':=by
 have a1:=qzg s a2 m w E.mx E.ml E.tab E.homes;obtain⟨p,a0,a,b⟩|⟨k,hk,D,b⟩:=xy s
 .have K:ZL 34 #[s] w (Ze #[jV p,I L 0]):=a1.mono λe w' h=>⟨b e h.1,h.2⟩;have d:=jo a0;have J:=d.size;have ho:=qx d;have a3:=qjv a0;have a6:∀W:I6,Gr w W->∀q,(n=1/\q=mc\/n=2/\q=jP)->i_ c_ 36 #[q,jV p] W λe w'=>∃v,e=Zd v/\yt W v (ud (jI (wV p n))) w'/\Gr W w':=by
   rintro W T q (⟨rfl,rfl⟩|⟨rfl,rfl⟩)
   .exact qxz J (mkL d (Q p a0 a) W (P.gr T).st)
   exact qxz J (mkS d (lR a) a3.1 a3.2 W (E.gr T).tab (P.gr T).cas)
  have j:∀base v w',(n=1\/n=2)->yt base v (ud (jI (wV p n))) w'->yc s n base (Zd (Ze #[v,I L 0])) w':=λbase v w' o a4=>Zj (Zj (Zj ⟨p,v,a0,a,o,R,a4⟩));have F:∀base w',¬(n=1\/n=2)->yc s n base (Zd (Ze #[mU,I L 3])) w':=λbase w' o=>Zj (Zj (Zi ⟨p,a0,a,o,R⟩));generalize jV p=A at K J ho a6;go_in;go_upto_region 2 with(first|(go_at_call 34;refine Z0 K λi y=>?_)|(refine ZC i A Zv J ho ?_));generalize C:(i.alloc (Z b_ 70)).setRow i A=w4;have B:Tb w i A w4:=⟨o_ y (by rw[<-C];exact ZN.setRow _ Zy _),by rw[<-C];exact Zt (Z7 i _),by rw[<-C,Xa,Z3];omega⟩;generalize i.heap.size=b1 at B|-;go_upto_region 4 with fail;by_cases o:n=1\/n=2
  .obtain⟨q,hq,r,a7⟩:∃q,(n=1/\q=mc\/n=2/\q=jP)/\FV n=Ze #[q,Zk]/\(∃u x,q=zG u x):=by
    obtain rfl|rfl:=o
    .exact⟨mc,Zi ⟨R,R⟩,R,_,_,R⟩
    exact⟨jP,Zj ⟨R,R⟩,R,_,_,R⟩
   obtain⟨u,x,rfl⟩:=a7;have g:∀W,ZL 35 #[n] W (Ze #[zG u x,Zk]):=λW=>(by rw[<-r];exact sJ n W);have G:=o;have a8:=hq;go_upto_region 5 with(first|(go_at_call 35;refine Z0 (g _) λf z=>?_)|(refine ZU R 74 _ _ R f (zG u x) R R 74 ku Zv yU R (qxi _ _) ?_));have M:Gr f ((f.alloc (Z #[.nilFunc,.nilFunc] 74)).setRow f (zG u x)):=ZN.setRow _ Zy _;have H:((f.alloc (Z #[.nilFunc,.nilFunc] 74)).setRow f (zG u x)).heap[f.heap.size]?=Z (zG u x) 74:=Zt (Z7 f _);have l:=B.next (o_ z M);generalize (f.alloc _).setRow _ _=w6 at H l|-;generalize f.heap.size=b2 at H|-;go_wp2_with(first|(refine ZD b1 A (Tb.p (w:=w) l) J ?_)|(refine ZV R 74 _ R b2 R 74 (zG u x) (0,0) _ H underlying74 rfl yU ?_)|(go_at_call 36;refine(a6 _ l.gr _ a8).mono ?_;rintro e w7 ⟨v,rfl,a4,V⟩));go_ret2;exact⟨j _ _ _ G (Ab a4 (ZR l.gr)),o_ l.gr V⟩
  have r:FV n=Ze #[ku,Zl]:=by rw[FV,qF (λh=>o (Zi h)),qF (λh=>o (Zj h))]
  have g:∀W,ZL 35 #[n] W (Ze #[ku,Zl]):=λW=>by rw[<-r];exact sJ n W
  have G:=o;go_wp2_with(first|(go_at_call 35;refine Z0 (g _) λf z=>?_)|(refine ZU R 74 _ _ R f ku R R 74 ku Zv yU R gF ?_));go_ret2;exact⟨F _ _ G,o_ (o_ B.gr z) (ZN.setRow _ Zy _)⟩
 have K:ZL 34 #[s] w (Ze #[b_,k]):=a1.mono λe w' h=>⟨b e h.1,h.2⟩;have j:∀base w',yc s n base (Zd (Ze #[mU,k])) w':=λbase w'=>nU D;go_in;go_upto_region 2 with(first|(go_at_call 34;refine Z0 K λi y=>?_)|(refine ZC i b_ Zv xF xH ?_));have a5:Gr w ((i.alloc (Z b_ 70)).setRow i b_):=o_ y (ZN.setRow _ Zy _);generalize (i.alloc _).setRow _ _=w4 at a5|-;go_wp2;go_ret2;exact⟨j _ _,a5⟩
def qjq{B:I0}(q:xO z=Zk)(A:B.size=64)(y:∀i,i<64->B[i]?=I Zg (z i).toNat)(d:Int)(v:0<=d)(x:d<=63)(k:Bool)(w:I6):ZL 60 #[B,d,k] w (xV (xD z 64) d k):=by
 have a:=db q A y;have b:(w.alloc (Z B 67)).heap[w.heap.size]?=Z B 67:=Z7 w _;have o:Gr w (w.alloc (Z B 67)):=ZN;have f:∀M W,jS (xD z 64) M->ZL 127 #[M,d,k] W (xV (xD z 64) d k):=λM W h=>qq0 _ M h d v x k W;generalize xV _ _ _=F at f|-;generalize xD _ _=m at a f;unfold ZL;go_in;go_upto_region 2 with(first|(refine ZV R 67 _ R w R 67 B (0,0) _ b t_ rfl (by rw[A];exact x7) ?_)|(go_at_call 126;refine(a _).mono ?_;rintro e j ⟨M,rfl,l,p⟩)|(refine ZU R 197 _ _ R j M R R 197 _ Zv l.info l.1.symm l.ones ?_));generalize g:(j.alloc (Z #[I Zh 0,I Zh 0,I Zh 0,I Zh 0,I Zh 0,I Zh 0,I Zh 0,I Zh 0,I Zh 0,I Zh 0,I Zh 0,I Zh 0] 197)).setRow j M=C;have n:C.heap[j.heap.size]?=Z M 197:=by rw[<-g];exact Zt (Z7 j _)
 have r:Gr w C:=o_ (o_ o p) (by rw[<-g];exact ZN.setRow _ Zy _);generalize j.heap.size=D at n|-;go_wp2_with(first|(refine ZV R 197 _ R D R 197 M (0,0) _ n underlying197 rfl l.info ?_)|(go_at_call 127;refine Z0 (f M _ l) λE u=>?_));go_ret;exact⟨R,o_ r u⟩
def yB(c:UInt8):Bool:=c==46||c==75||c==107
def vG(c:UInt8):Bool:=c==78||c==110||c==66||c==98
def ws(z:I2)(k:Nat):Nat:=((h_ k).filter λi=>vG (z i)).length
def uw(z:I2):Bool:=(h_ 64).all (λi=>yB (z i)||vG (z i))&&Zm (ws z 64<=1)
def sU(z:I2)(k:Nat):ws z (k+1)=ws z k+if vG (z k)then 1 else 0:=by unfold ws;rw[YI,YJ,qZ];cases h:vG (z k)<;>simp[h]
def EH(z:I2)(k:Nat):ws z k<=k:=by have:=Y8 (λi=>vG (z i)) (h_ k);unfold ws;exact OY
def tT(a:k<64)(h:(yB (z k)||vG (z k))=Zl):uw z=Zl:=by grind[uw,yB,vG,qK]
def tU(h:∀j,j<64->(yB (z j)||vG (z j))=Zk):uw z=Zm (((ws z 64:Nat):Int)<=1):=by grind[uw,yB,vG,qW,qK]
def DO(c:UInt8):Prop:=(yB c=Zk/\vG c=Zl/\((c.toNat:Int)=46\/(c.toNat:Int)=75\/(c.toNat:Int)=107))\/(yB c=Zl/\vG c=Zk/\((c.toNat:Int)=78\/(c.toNat:Int)=110\/(c.toNat:Int)=66\/(c.toNat:Int)=98))\/((yB c||vG c)=Zl/\∀n∈[(46:Int),75,107,78,110,66,98],((c.toNat:Int)==n)=Zl)
instance (c:UInt8):Decidable (DO c):=by unfold DO;infer_instance
structure Ck(w:I6)(ga gm:Nat)(PA:I0)(W:I6):Prop where
 q:W.heap[w.heap.size]?=S (Z (zG ga gm) 74)
 pa:W.heap[w.heap.size+1]?=S (Z PA 70)
 gr:Gr w W
def Ck.next{b:Nat}(h:Ck w b d PA W)(g:Gr W a):Ck w b d PA a:=⟨ZE g h.q,ZE g h.pa,o_ h.gr g⟩
def ta(w:I6)(a b:Nat)(PA:I0):Ck w a b PA ((w.alloc (Z (zG a b) 74)).alloc (Z PA 70)):=by obtain⟨d,e⟩:=x6 w (Z (zG a b) 74) (Z PA 70);exact⟨d,e,ZN.al⟩
def kz(z:I2)(wh:Bool):Bool:=xV (xD z 64) (xR z wh) (!wh)
def fp{g:Int}(r:jE z wh fc b h g PA)(j:xO z=Zk)(u:0<=xR z wh)(v:xR z wh<=63)(w:I6):ZL 124 #[jP,PA] w (kz z wh):=by obtain⟨p,m⟩:=FN r;have x:=r.size;have l:=r.wh;have f:=λW=>gP z _ m wh W;have d:=λW=>qjq j p m (xR z wh) u v (!wh) W;unfold kz;generalize xV _ _ _=e at d|-;generalize xR _ _=B at f d;have i:=ta w 60 61 PA;simp only[jP,zG];unfold ZL;go_in;go_upto_region 1 with fail;show n_ _ _ _ _ ((w.alloc (Z (zG 60 61) 74)).alloc (Z PA 70));generalize (w.alloc _).alloc _=D at i|-;refine ZT (S:=Ck w 60 61 PA) WR (i.next ZO.drew) (λa=>?_);apply tq 0 _ a;refine ZB 1 (.func (.func 60) #[] #[]) R (λw' k=>by have A:w'.cell? w=S (.func (.func 60) #[] #[]):=(by rw[Zs k.q];rfl);go_simp) a ?_;apply tq 2 _ a;apply ty 3 _ R (DB x Vb _ R (w+1) R (λ_ h=>qy h.pa)) a;apply tq 4 _ a;apply ty 5 _ R (DB x Vb _ R (w+1) R (λ_ h=>qy h.pa)) a;apply tq 6 _ a;apply ZB 7 _ R (λw' k=>Uk) a;apply tq 9 _ a;apply ZB 10 _ R (λw' k=>Uk) a;apply tq 11 _ a;refine rd 8 λK hK=>?_;go_simp;refine Z0 (f _) λE n=>?_;refine hK.out _ _ (a.next n) λa=>?_;refine rd 12 λK hK=>?_;go_simp;refine Z0 (d _) λF o=>?_;refine hK.out _ _ (a.next o) λa=>?_;refine rd 13 λK hK=>?_;go_simp;refine hK.out _ _ a λa=>?_;exact OT
def yO(z:I2)(c:Bool)(n:Int):Int:=if n=0 then(if c then 1 else 2)else if uw z then 3 else 0
def xB(c:Bool)(n o:Int):I0:=#[Za c,I L n,I L o]
def vI:(c_.info? 186).map (·.size)=S 3:=WR
def xw(c:Bool)(n o:Int):(xB c n o).all (·.oneCell')=Zk:=by simp[xB,Value.oneCell']
def bx(z:I2)(wh:Bool)(fc:I5)(b:Int):I0:=xB (kz z wh) ((xC z wh fc b).length:Int) (yO z (kz z wh) ((xC z wh fc b).length:Int))
def rz{s:I4}{p:pH}(e:xG s=p)(d:xP p=Zk):jI (wV p 1)=jI (wV p 2)/\(jI (wV p 2)).Pairwise λx y=>yJ x<yJ y:=by obtain⟨h,a,b⟩:=Fp e d;exact Fd h a b
def BH{s:I4}{p:pH}(e:xG s=p)(d:xP p=Zk):lg (xM p) p.white p.castle p.behind:=by obtain⟨h,a,b⟩:=Fp e d;exact qjw h a b
def l7{a:I3}(h:yt base v a w):∃p cap,v=Zq p a.length cap/\a.length<=cap/\∀i (b:i<a.length),∃g,p=S ⟨g,0,N⟩/\w.cell? ⟨g,i,N⟩=a[i]:=by
 obtain⟨rfl,d⟩|⟨g,cap,cur,rfl,k,j,d,l,f,e⟩:=h.2
 .have:a=[]:=VG;subst this;exact⟨N,0,R,Zy,λi b=>w_ b (Yy i)⟩
 refine⟨_,_,R,d,λi b=>⟨g,R,?_⟩⟩;simp only[World.cell?];rw[j];show cur[i]?=_;rw[<-qO,<-Xi (show i<a.length*1 from O),e,YN,Yf b];rfl
def DQ(T:I3)(k:Int)(e:Ending)(w':I6):Prop:=∃p cap,e=Zd (Ze #[Zq p T.length cap,I L k])/\T.length<=cap/\∀i (hi:i<T.length),∃g,p=S ⟨g,0,N⟩/\w'.cell? ⟨g,i,N⟩=S (Zb T[i])
def G8{T:I3}{p:Option Addr}{b:I6}(h:∀i (a:i<T.length),∃g,p=S ⟨g,0,N⟩/\W.cell? ⟨g,i,N⟩=T[i])(f:Gr W b):∀i (a:i<T.length),∃g,p=S ⟨g,0,N⟩/\b.cell? ⟨g,i,N⟩=T[i]:=λi a=>by
 obtain⟨g,e,d⟩:=h i a;exact⟨g,e,(ZW f (p:=⟨g,i,N⟩) (Ye W _ d)).trans d⟩
def El(p:Option Addr)(T:I3)(W:I6):Prop:=∀i (hi:i<T.length),∃g,p=S ⟨g,0,N⟩/\W.cell? ⟨g,i,N⟩=S (Zb T[i])
def El.gr{T:I3}{p:Option Addr}(h:El p T W)(b:Gr W a):El p T a:=G8 h b
def qka(T:I3)(i:T.length<=1000000)(p1 p2:Option Addr)(c1 c2:Nat)(w:I6)(f:El p1 T w)(h:El p2 T w):ZL 27 #[Zq p1 T.length c1,Zq p2 T.length c2] w Zk:=by exact WA
def dh:List Mv:=[(4,12,0),(4,13,0),(4,5,0),(4,3,0),(4,11,0)]
def yS:List Mv:=[(4,3,0),(4,11,0),(4,12,0),(4,5,0),(4,13,0)]
def mj:(xG yT).map (λp=>yo (xM p) p.white p.castle p.behind)=dh:=WS
def fH:yS.Pairwise λx y=>yJ x<yJ y:=WS
def qvr:(dh.all λx=>yS.contains x)=Zk/\(yS.all λx=>dh.contains x)=Zk:=WS
def kW:I3:=[⟨#[101,49,100,49]⟩,⟨#[101,49,100,50]⟩,⟨#[101,49,101,50]⟩,⟨#[101,49,102,49]⟩,⟨#[101,49,102,50]⟩]
def mi:ud yS=kW:=WS
def sh:∃p,xG yT=S p/\xP p=Zk/\jI (wV p 1)=yS/\jI (wV p 2)=yS:=by
 obtain⟨p,b,e⟩:=fJ;have d:=mj;rw[b]at d;have d:yo (xM p) p.white p.castle p.behind=dh:=VG;obtain⟨l,f,g⟩:=Fp b e;have n:=qjw l f g;obtain⟨k,m⟩:=rz b e;have j:jI (wV p 1)=yS:=by
  refine zu (λa c h=>List.lt_asymm h) _ _ (by rw[k];exact m) fH λx=>?_;rw[(xq _).mem_iff];show x∈yo (xM p) p.white p.castle p.behind↔_;rw[d];constructor
  .intro i;have:=qW.1 qvr.1 x i;exact OY
  intro i;have:=qW.1 qvr.2 x i;exact OY
 exact⟨p,b,e,j,by rw[<-k];exact j⟩
def fK(n:Int)(i:n=1\/n=2)(m:Int)(w:I6)(r:Ct m w)(x:uV w):i_ c_ 15 #[yT,n] w λe w'=>DQ kW 0 e w'/\Gr w w':=by
 obtain⟨p,f,k,l,o⟩:=sh;refine(qkd yT WS n (λq a b=>BH a b) m w r x).mono λe w' h=>⟨?_,h.2⟩;have u:jI (wV p n)=yS:=by obtain rfl|rfl:=i;exact l;exact o
 obtain⟨a,_⟩|⟨q,a,b,_⟩|⟨q,_,_,a,_⟩|⟨q,v,a,_,_,rfl,j⟩:=h.1
 .rw[f]at a;cases a
 .rw[f]at a;rw[<-qP a,k]at b;cases b
 .exact w_ i a
 rw[f]at a;rw[<-qP a,u,mi]at j;obtain⟨y,cap,rfl,d,g⟩:=l7 j;exact⟨y,cap,R,d,g⟩
structure Pm(w:I6)(PA:I0)(f t:Nat)(u:UInt8)(W:I6):Prop where
 pa:W.heap[w.heap.size]?=S (Z PA 70)
 mv:W.heap[w.heap.size+1]?=S (Z (ZJ f t u) 125)
 lt:w.heap.size+1<W.heap.size
 gr:Gr w W
def Pm.next{t:Nat}(h:Pm w PA f t u W)(g:Gr W a):Pm w PA f t u a:=⟨(Zz g (Nat.lt_of_succ_lt h.lt)).trans h.pa,(Zz g h.lt).trans h.mv,qN h.lt (ZR g),o_ h.gr g⟩
def Pm.start(w:I6)(PA:I0)(f t:Nat)(u:UInt8):Pm w PA f t u ((w.alloc (Z PA 70)).alloc (Z (ZJ f t u) 125)):=by obtain⟨a,b⟩:=eQ (w:=w) (PA:=PA) (o:=(ZJ f t u)) (ty:=70) (ty2:=125) ZO;exact⟨a,b,UA,ZN.al⟩
def Pm.cells{t:Nat}(h:Pm w PA f t u W):W.cell? ⟨w+1,0,N⟩=I L f/\W.cell? ⟨w+1,1,N⟩=I L t/\W.cell? ⟨w+1,2,N⟩=S (I Zg u.toNat):=⟨UK,UK,UK⟩
def Pm.at{t:Nat}(h:Pm w PA f t u W)(a:PA[k]?=v):W.cell? ⟨w,k,N⟩=v:=by rw[qn h.pa];exact a
def qvy(wh:Bool)(fc:I5)(f t:Nat)(u:UInt8):zK wh fc f t u=-1\/∃i:Nat,i<4/\zK wh fc f t u=(i:Int):=by
 have a:zK wh fc f t u=if jZ wh fc f t u 0 then 0 else if jZ wh fc f t u 1 then 1 else if jZ wh fc f t u 2 then 2 else if jZ wh fc f t u 3 then 3 else -1:=R;rw[a];split
 .exact Zj ⟨0,O,R⟩
 split
 .exact Zj ⟨1,O,R⟩
 split
 .exact Zj ⟨2,O,R⟩
 split
 .exact Zj ⟨3,O,R⟩
 exact Zi R
def m4{g:Int}(r:jE z wh fc b h g PA)(f t:Nat)(hf:f<64)(ht:t<64)(u:UInt8)(w:I6):ZL 191 #[PA,ZJ f t u] w (j9 z wh fc b f t u):=by
 have hz:=r.size;have a4:=Pm.start w PA f t u;have c4:=X (λW=>Dv r W);have g9:=X (λ(c:UInt8) W=>za c W);have h0:=X (λW=>zp (z f) W);have f8:0<=(f:Int):=O;have f9:(f:Int)<64:=O;have g5:0<=(t:Int):=O;have g6:(t:Int)<64:=O;have c6:=r.sq f hf;have d0:=r.sq t ht;have p:=X (vF a4.pa);obtain⟨bs,bA⟩:=FN r;have H:=X (λ(k:Nat)(hk:k<=5) W=>qzz _ (zI z) bA bs k hk (xK wh) (f:Int) (t:Int) O O O O W);have E:=X (λW=>qxf r f t u W);have v:=X (λi hi W=>tF r i hi W);have h1:=X (λW (h:zJ w PA W)=>sP h);have a3:(c_.info? 67).map (·.size)=S (PA.toList.take 64).length:=by rw[x7];simp[r.size]
 have D:=X a3;have f7:=r.b;have b7:=X r.sq;generalize (PA.toList.take 64)=h4 at H h1 D;obtain⟨V,hV⟩:∃V,Y (V=j9 z wh fc b f t u):=⟨_,X R⟩;rw[<-hV.a];unfold ZL;go_in;go_upto_region 2 with(first|(go_at_call 116;refine Z0 (c4.a _) λw1 b3=>?_)|(refine ql Vb _ R w R hz p.a ?_));have y:=a4.next b3;obtain⟨m0,m1,m2⟩:=y.cells;have cf:=y.at c6;have ct:=y.at d0;have Q:=X (λW (h:Pm w PA f t u W)=>h.cells);have T:=X (λW (h:Pm w PA f t u W)=>(⟨h.at c6,h.at d0⟩:_/\_));have j:=X y.gr;by_cases c1:vB (z f)=xK wh
 case neg=>have a5:Y (V=Zl):=X (by rw[hV.a];unfold j9;rw[qE c1];simp);have d1:(vB (z f)!=xK wh)=Zk:=qU.2 c1;obtain⟨m0,m1,m2⟩:=Q.a _ y;obtain⟨cf,ct⟩:=T.a _ y;exact Ie
 case pos=>
  have d1:(vB (z f)!=xK wh)=Zl:=by rw[c1];simp
  by_cases c2:vB (z t)=xK wh
  case pos=>have a5:Y (V=Zl):=X (by rw[hV.a];unfold j9;rw[qJ c2];simp);have o:(vB (z t)==xK wh)=Zk:=YF.2 c2;obtain⟨m0,m1,m2⟩:=Q.a _ y;obtain⟨cf,ct⟩:=T.a _ y;exact Ie
  case neg=>
   have o:(vB (z t)==xK wh)=Zl:=(by rw[qM];exact c2);obtain⟨m0,m1,m2⟩:=Q.a _ y;obtain⟨cf,ct⟩:=T.a _ y;have h3:Y (zO t=(((t:Int)/8==0)||((t:Int)/8==7))):=X (by
    unfold zO
    have e0:Zm (t/8=0)=((t:Int)/8==0):=by
     by_cases q:t/8=0
     .rw[qJ q];symm;rw[YF];omega
     rw[qE q];symm;rw[qM];omega
    have e7:Zm (t/8=7)=((t:Int)/8==7):=by
     by_cases q:t/8=7
     .rw[qJ q];symm;rw[YF];omega
     rw[qE q];symm;rw[qM];omega
    rw[e0,e7])
   have b5:((u.toNat:Int)!=0)=Zm (u≠0):=(by exact Iq);obtain⟨k,f1,a2⟩:=aD c1;rw[a2]at h0;by_cases k0:k=0
   .subst k0;have h0:Y (∀W,i_ c_ 107 #[I Zg (z f).toNat] W λe w'=>e=Zd (I L 0)/\w'=W):=h0;have M:∀a l,Zm (u≠0)=a->zO t=l->V=((a==l)&&BD z wh b f t):=λa l ea el=>(by rw[hV.a];unfold j9;rw[qJ c1,qE c2,ea,el,a2];simp);have M:=X M;go_upto_region 6 with(first|(go_at_call 115;refine Z1 (g9.a _ _) ?_)|(go_at_call 107;refine Z1 (h0.a _) ?_));go_cut [8]from 37 (λs8 wx=>s8=(zO t)/\wx=w1)
    .exact O3
    obtain⟨rfl,rfl⟩:=hcut;obtain⟨a,ha⟩:=Zn (Zm (u≠0));obtain⟨l,hl⟩:=Zn (zO t);rw[ha.a]at b5;rw[hl.a];have h2:=X (M.a a l ha.a hl.a);have P:Y (∀W,ZL 247 #[h4.toArray,I L 0,xK wh,f,t] W (xS (zI z) 0 (xK wh) (f:Int) (t:Int))):=X (H.a 0 O);obtain⟨AT,g8⟩:=Zn (xS (zI z) 0 (xK wh) (f:Int) (t:Int));rw[g8.a]at P;by_cases a6:a=l
    case neg=>
     have f4:(!a==l)=Zk:=by cases a<;>cases l<;>simp at a6|-
     have J:Y (V=Zl):=X (by rw[h2.a,qM.2 a6];rfl);go_wp2;go_ret;exact⟨by rw[J.a];rfl,j.a⟩
    case pos=>
     subst a6;have f4:(!a==a)=Zl:=by cases a<;>rfl
     have J:Y (V=BD z wh b f t):=X (by rw[h2.a];simp);have G:Y (V=if AT then Zm (vB (z t)=xK (!wh))||decide ((t:Int)=b)else Zm (f%8=t%8)&&Zm (z t=46)&&DC z wh f t):=X (by rw[J.a,<-g8.a];rfl);have p:=X (vF y.pa);go_upto_region 10 with(first|(go_at_call 247;refine Z0 (P.a _) λw2 a1=>?_)|(refine Yo R 67 _ R w 0 R h4 _ (h1.a _ p.a) t_ rfl D.a ?_));have F:=y.next a1;have j:=X F.gr;obtain⟨m0,m1,m2⟩:=Q.a _ F;obtain⟨cf,ct⟩:=T.a _ F;have cb:=F.at f7;cases AT
     .have A:Y (V=(Zm (f%8=t%8)&&Zm (z t=46)&&DC z wh f t)):=G;by_cases m:f%8=t%8
      case neg=>have a9:((f:Int)%8==(t:Int)%8)=Zl:=Vp;have f5:((f:Int)%8 !=(t:Int)%8)=Zk:=V3;have K:Y (V=Zl):=X (by rw[A.a,qE m];rfl);go_wp2;go_ret;exact⟨by rw[K.a];rfl,j.a⟩
      case pos=>
       have a9:((f:Int)%8==(t:Int)%8)=Zk:=UP;have f5:((f:Int)%8 !=(t:Int)%8)=Zl:=(by have:(f:Int)%8=t%8:=O;rw[this];simp);by_cases s2:z t=46
       case neg=>
        have b6:(((z t).toNat:Int)!=46)=Zk:=(by rw[qU];intro e;exact s2 (q6.1 UE));have g4:(((z t).toNat:Int)==46)=Zl:=(by rw[qM];intro e;exact s2 (q6.1 UE));have K:Y (V=Zl):=X (by rw[A.a,qE s2];simp);go_wp2;go_ret;exact⟨by rw[K.a];rfl,j.a⟩
       case pos=>
        have b6:(z t).toNat=46:=(by rw[s2];rfl);rw[b6]at ct;have K:Y (V=DC z wh f t):=X (by rw[A.a,qJ m,qJ s2];rfl);have a0:Y (V=(Zm (uI f t=xK wh)||(Zm (uI f t=2*xK wh)&&Zm (f/8=(if wh then 1 else 6))&&Zm (z (if wh then f+8 else f-8)=46)))):=K;have c5:Y (uI f t=(t:Int)/8-f/8):=X (by unfold uI;omega);have g7:a_ L ((t:Int)/8-f/8)=(t:Int)/8-f/8:=Vc;rw[c5.a]at a0;obtain⟨d,hd⟩:=Zn ((t:Int)/8-f/8);cases wh
        .have d2:Y (V=(Zm (d=-1)||(Zm (d=-2)&&Zm (f/8=6)&&Zm (z (f-8)=46)))):=X (by rw[a0.a,hd.a];rfl);have a7:xK Zl=-1:=R;rw[a7];go_upto_region 26 with fail;rw[hd.a];have f6:=X (show(t:Int)/8-f/8=d from hd.a);by_cases d1:d=-1
         case pos=>have B:Y (V=Zk):=X (by rw[d2.a,d1];rfl);subst d1;go_wp2;go_ret;exact⟨Up,j.a⟩
         case neg=>
          have e1:(d==-1)=Zl:=(by rw[qM];exact d1);by_cases o:d=-2
          case neg=>
           have e2:(d==-2)=Zl:=(by rw[qM];exact o);exact Id
          case pos=>
           subst o;by_cases d3:f/8=6
           case neg=>have e3:((f:Int)/8==6)=Zl:=Vp;have B:Y (V=Zl):=X (by rw[d2.a,qE d3];rfl);go_wp2;go_ret;exact⟨Up,j.a⟩
           case pos=>
            have e3:((f:Int)/8==6)=Zk:=UP;obtain⟨n,hn⟩:=Zn (f-8);have a8:n<64:=(by have:=hn.a;omega);have e4:a_ L ((f:Int)+(-8))=(n:Int):=(by rw[YO];have:=hn.a;omega);exact WQ
        have d2:Y (V=(Zm (d=1)||(Zm (d=2)&&Zm (f/8=1)&&Zm (z (f+8)=46)))):=X (by rw[a0.a,hd.a];rfl);have a7:xK Zk=1:=R;rw[a7];go_upto_region 26 with fail;rw[hd.a];have f6:=X (show(t:Int)/8-f/8=d from hd.a);by_cases d1:d=1
        case pos=>have B:Y (V=Zk):=X (by rw[d2.a,d1];rfl);subst d1;go_wp2;go_ret;exact⟨Up,j.a⟩
        case neg=>
         have e1:(d==1)=Zl:=(by rw[qM];exact d1);by_cases o:d=2
         case neg=>
          have e2:(d==2)=Zl:=(by rw[qM];exact o);exact Id
         case pos=>
          subst o;by_cases d3:f/8=1
          case neg=>have e3:((f:Int)/8==1)=Zl:=Vp;have B:Y (V=Zl):=X (by rw[d2.a,qE d3];rfl);go_wp2;go_ret;exact⟨Up,j.a⟩
          case pos=>
           have e3:((f:Int)/8==1)=Zk:=UP;obtain⟨n,hn⟩:=Zn (f+8);have a8:n<64:=(by have:=hn.a;omega);have e4:a_ L ((f:Int)+8)=(n:Int):=(by rw[YO];have:=hn.a;omega);exact WQ
     have A:Y (V=(Zm (vB (z t)=xK (!wh))||decide ((t:Int)=b))):=G;have g3:a_ L (-(xK wh))=xK (!wh):=Vn;by_cases m:vB (z t)=xK (!wh)
     case pos=>have a9:(vB (z t)==xK (!wh))=Zk:=YF.2 m;have K:Y (V=Zk):=X (by rw[A.a,qJ m];rfl);go_wp2_with(go_at_call 115;refine Z1 (g9.a _ _) ?_);go_ret;exact⟨by rw[K.a];rfl,j.a⟩
     case neg=>
      have a9:(vB (z t)==xK (!wh))=Zl:=(by rw[qM];exact m);have K:Y (V=((t:Int)==b)):=X (by rw[A.a,qE m,Xo];by_cases e:(t:Int)=b<;>simp[e]);go_wp2_with(go_at_call 115;refine Z1 (g9.a _ _) ?_);go_ret;exact⟨by rw[K.a];rfl,j.a⟩
   have g0:((k:Int)==0)=Zl:=Vp;have g1:((k:Int)!=0)=Zk:=V3;have M:∀a,Zm (u≠0)=a->V=(!a&&EE z wh fc k f t u):=λa ea=>by rw[hV.a];unfold j9;rw[qJ c1,qE c2,ea,a2,qE (show ¬((k:Int)=0) from O),qF (show ¬((k:Int)=0) from O)];cases a<;>simp
   have M:=X M;go_upto_region 6 with(first|(go_at_call 115;refine Z1 (g9.a _ _) ?_)|(go_at_call 107;refine Z1 (h0.a _) ?_));go_cut [8]from 37 (λs8 wx=>s8=(zO t)/\wx=w1)
   .exact O3
   obtain⟨rfl,rfl⟩:=hcut;obtain⟨a,ha⟩:=Zn (Zm (u≠0));obtain⟨l,hl⟩:=Zn (zO t);rw[ha.a]at b5;rw[hl.a];have h2:=X (M.a a ha.a);have P:=X (H.a k f1);obtain⟨AT,g8⟩:=Zn (xS (zI z) k (xK wh) (f:Int) (t:Int));rw[g8.a]at P;cases a
   case true=>have J:Y (V=Zl):=X (by rw[h2.a];rfl);go_wp2;go_ret;exact⟨by rw[J.a];rfl,j.a⟩
   case false=>
    have J:Y (V=if AT then Zk else Zm (k=5)&&Zm (0<=zK wh fc f t u)&&km z (zK wh fc f t u).toNat):=X (by rw[h2.a,<-g8.a];rfl);have p:=X (vF y.pa);go_upto_region 11 with(first|(go_at_call 247;refine Z0 (P.a _) λw2 a1=>?_)|(refine Yo R 67 _ R w 0 R h4 _ (h1.a _ p.a) t_ rfl D.a ?_));have F:=y.next a1;have j:=X F.gr;obtain⟨m0,m1,m2⟩:=Q.a _ F;have p:=X (vF F.pa);cases AT
    case true=>have G:Y (V=Zk):=J;go_wp2;go_ret;exact⟨by rw[G.a];rfl,j.a⟩
    case false=>
     have G:Y (V=(Zm (k=5)&&Zm (0<=zK wh fc f t u)&&km z (zK wh fc f t u).toNat)):=J;have b2:=qvy wh fc f t u;obtain⟨C,b0⟩:=Zn (zK wh fc f t u);rw[b0.a]at E G b2;go_upto_region 14 with(first|(go_at_call 108;refine Z0 (E.a _) λw3 b4=>?_)|(refine ql Vb _ R w R hz p.a ?_));have b1:=F.next b4;have j:=X b1.gr;have p:=X (vF b1.pa);by_cases k5:k=5
     case neg=>have f2:((k:Int)!=5)=Zk:=V3;have f3:((k:Int)==5)=Zl:=Vp;have A:Y (V=Zl):=X (by rw[G.a,qE k5];rfl);go_wp2;go_ret;exact⟨by rw[A.a];rfl,j.a⟩
     case pos=>
      have f2:((k:Int)!=5)=Zl:=(by rw[k5];rfl);have f3:((k:Int)==5)=Zk:=(by rw[k5];rfl);obtain rfl|⟨i,hi,rfl⟩:=b2
      .have A:Y (V=Zl):=X (by rw[G.a];simp);go_wp2;go_ret;exact⟨by rw[A.a];rfl,j.a⟩
      have A:Y (V=km z i):=X (by rw[G.a,qJ k5];simp);have g2:((i:Int)<0)=False:=WU;have d4:=X (v.a i hi);go_wp2_with(first|(go_at_call 248;refine Z0 (d4.a _) λw4 d5=>?_;have f0:=X (o_ j.a d5))|(refine ql Vb _ R w R hz p.a ?_));go_ret;exact⟨by rw[A.a];rfl,f0.a⟩
def toB(f t k:Nat):Bool:=Zm ((f:Int)=xY k)||decide ((f:Int)=zD k)||decide ((t:Int)=xY k)||decide ((t:Int)=zD k)
def cM(fc:I5)(f t:Nat)(n:Nat)(k:Nat):Bool:=fc k&&!(Zm (k<n)&&toB f t k)
def oZ(z:I2)(f t:Nat):Bool:=Zm (vE (z f)=0)&&Zm (uI f t=2\/uI f t=-2)
def oA(z:I2)(wh:Bool)(f t:Nat):Int:=if oZ z f t then(f:Int)+8*xK wh else -1
def iQ(z:I2)(b:Int)(f t:Nat):Bool:=Zm (vE (z f)=0)||(!decide (z t=46)||uP z b f t)
def Cd(z:I2)(b:Int)(f t:Nat)(h:Int):Int:=if iQ z b f t then 0 else if h<65535 then h+1 else h
def Ce(wh:Bool)(g:Int):Int:=if !wh&&Zm (g<65535)then g+1 else g
structure Bh(w:I6)(PA:I0)(f t:Nat)(u:UInt8)(B:Nat)(Q:I0)(W:I6):Prop where
 pm:Pm w PA f t u W
 rs:W.heap[w.heap.size+2]?=S (Z b_ 70)
 q:W.heap[B]?=S (Z Q 70)
 lo:w.heap.size+2<B
 hi:B<W.heap.size
def Bh.next{Q:I0}{t:Nat}(h:Bh w PA f t u B Q W)(g:Gr W a):Bh w PA f t u B Q a:=⟨h.pm.next g,(Zz g (Nat.lt_trans h.lo h.hi)).trans h.rs,(Zz g h.hi).trans h.q,h.lo,qN h.hi (ZR g)⟩
def Bh.set{Q:I0}{t:Nat}(h:Bh w PA f t u B Q W)(i:Nat)(v:I7):Bh w PA f t u B (Q.setIfInBounds i v) (W.setCell ⟨B,i,N⟩ v):=by have a:Fr (λk _=>k≠B) W (W.setCell ⟨B,i,N⟩ v):=ZP.setCell _ (λo _ q=>q R);have d:=h.lo;have b:(W.setCell ⟨B,i,N⟩ v).heap.size=W.heap.size:=World.size_setCell ..;refine⟨⟨a.same _ _ h.pm.pa O,a.same _ _ h.pm.mv O,by rw[b];exact h.pm.lt,Yr h.pm.gr (show w<=B from O) _⟩,a.same _ _ h.rs O,qv h.q,d,by rw[b];exact h.hi⟩
def Bh.drew{Q:I0}{t:Nat}(h:Bh w PA f t u B Q W):Bh w PA f t u B Q W.drew:=⟨⟨h.pm.pa,h.pm.mv,h.pm.lt,h.pm.gr.drew⟩,h.rs,h.q,h.lo,h.hi⟩
def Bh.at{Q:I0}{t:Nat}(h:Bh w PA f t u B Q W)(a:Q[k]?=v):W.cell? ⟨B,k,N⟩=v:=by rw[qn h.q];exact a
def Bh.op{Q:I0}{t:Nat}(h:Bh w PA f t u B Q W)(k:Nat):W.frozen? ⟨B,k,N⟩=Zl:=xr h.q
def Dx(u:UInt8):dP u<6:=by unfold dP;split;omega;split;omega;split<;>omega
def Dy:∀u∈U5,u≠0->e_ [112,110,98,114,113,107] u=((dP u:Nat):Int):=WS
def qvi(u:UInt8)(b:u∈U5)(a:u≠0)(w:I6):i_ c_ 111 #[Zb ⟨#[112,110,98,114,113,107]⟩,I Zg u.toNat] w λe w'=>e=Zd ((dP u:Nat))/\w'=w:=by rw[<-Dy u b a];exact xa ⟨#[112,110,98,114,113,107]⟩ WS u w
def GI(k:Nat)(a:k<6)(b:Bool)(w:I6):i_ c_ 195 #[(k:Nat),xK b] w λe w'=>e=I Zg (yP k b).toNat/\w'=w:=by
 have:k=0\/k=1\/k=2\/k=3\/k=4\/k=5:=O;obtain rfl|rfl|rfl|rfl|rfl|rfl:=this
 .exact IS
 .cases b
  .show i_ c_ 195 #[I L 1,I L (-1)] w _;exact Wy
  show i_ c_ 195 #[I L 1,I L 1] w _;exact Wy
 .cases b
  .show i_ c_ 195 #[I L 2,I L (-1)] w _;exact Wy
  show i_ c_ 195 #[I L 2,I L 1] w _;exact Wy
 .exact IR
 .cases b
  .show i_ c_ 195 #[I L 4,I L (-1)] w _;exact Wy
  show i_ c_ 195 #[I L 4,I L 1] w _;exact Wy
 exact IQ
def qxg{g:Int}(r:jE z wh fc b h g PA)(f t:Nat)(hf:f<64)(ht:t<64)(u:UInt8)(hu:u∈U5)(h0:0<=h)(h1:h<=65535)(g0:0<=g)(g1:g<=65535)(w:I6):i_ c_ 106 #[Zc PA,Zc (ZJ f t u)] w λe w'=>∃Q,e=Zd (Zc Q)/\jE (ua z wh fc b f t u) (!wh) (cM fc f t 4) (oA z wh f t) (Cd z b f t h) (Ce wh g) Q/\Gr w w':=by
 have hz:=r.size;have g8:=X (qx r);obtain⟨x1,x2,x3,x4⟩:=jG w (Z PA 70) (Z (ZJ f t u) 125) (Z b_ 70);have h5:=(Pm.start w PA f t u).next (ZO.alloc b_ 70);have r6:=X (λW=>Dv r W);have k8:=X (λW=>zp (z f) W);have f9:=X (λW=>bZ r f t hf ht u W);have b6:=X (λW=>qxf r f t u W);have x9:0<=(f:Int):=O;have y0:(f:Int)<64:=O;have y5:0<=(t:Int):=O;have y6:(t:Int)<64:=O;have r7:=r.sq f hf;have w0:=r.sq t ht;have w2:=r.wh;have o:=X (vF h5.pa);have s9:=X x3;have m6:=X x4;clear x1 x2 x3 x4;go_in;go_upto_region 2 with(first|(go_at_call 116;refine Z0 (r6.a _) λw1 f6=>?_)|(refine ql Vb _ R w.heap.size R hz o.a ?_));have h6:=h5.next f6;have k9:w.heap.size+2<w1.heap.size:=qN (by rw[m6.a];omega) (ZR f6);have h2:=X ((YG f6 (w.heap.size+2) (by rw[m6.a];omega)).trans s9.a);clear h5 f6 o r6 s9 m6;have o:=X (vF h6.pa);go_upto_region 3 with(first|(refine ql Vb _ R w.heap.size R hz o.a ?_)|(refine ZU R 70 _ _ R w1.heap.size PA R R 70 b_ Zv (by rw[hz];exact q9) (by rw[hz];rfl) g8.a ?_));show n_ _ _ _ _ ((w1.alloc (Z b_ 70)).setRow w1.heap.size PA);have k3:Gr w1 ((w1.alloc (Z b_ 70)).setRow w1.heap.size PA):=ZN.setRow _ Zy _;have a5:Bh w PA f t u w1.heap.size PA ((w1.alloc (Z b_ 70)).setRow w1.heap.size PA):=⟨h6.next k3,(Zz k3 k9).trans h2.a,Zt (Z7 w1 _),k9,by rw[Xa,Z3];omega⟩;generalize ((w1.alloc (Z b_ 70)).setRow w1.heap.size PA)=w3 at a5|-;generalize w1.heap.size=B at a5|-;clear h6 k9 h2 o k3;obtain⟨V,b3⟩:=Zn (vE (z f));rw[b3.a]at k8;obtain⟨PS,b4⟩:=Zn (uP z b f t);have f9:Y (∀W,ZL 194 #[Zc PA,Zc (ZJ f t u)] W (Za PS)):=X (λW=>by rw[<-b4.a];exact f9.a W);obtain⟨TK,n3⟩:=Zn (!decide (z t=46));have v9:(((z t).toNat:Int)!=46)=TK:=by rw[<-n3.a];exact If
 have j:=X (λ(Q:I0) W (h:Bh w PA f t u B Q W)=>h.pm.cells);have l:=X (λ(Q:I0) W (h:Bh w PA f t u B Q W)=>(⟨h.pm.at r7,h.pm.at w0⟩:_/\_));obtain⟨H,m1,m2⟩:=j.a _ _ a5;obtain⟨cf,ct⟩:=l.a _ _ a5;have o:=X (vF a5.pm.pa);go_upto_if 38 with(first|(go_at_call 107;refine Z1 (k8.a _) ?_)|(go_at_call 194;refine Z0 (f9.a _) λw5 p7=>?_)|(refine ql Vb _ R w.heap.size R hz o.a ?_));have a6:=a5.next p7;clear a5 p7 H m1 m2 cf ct o k8 f9 v9 g8;obtain⟨n1,f8⟩:∃n,Y (n=f/8*8+t%8):=⟨_,X R⟩;go_cut [8]from 39 (λs8 m0=>∃Q,s8=Za (TK||PS)/\Bh w PA f t u B Q m0/\jE (wC z b f t) wh fc b h g Q)
 case first=>
  cases PS
  .have l1:Y (wC z b f t=z):=X (by unfold wC;rw[b4.a];rfl);clear b6 j l b4;go_wp2;go_meet
   case rel=>exact⟨PA,WU,a6,by rw[l1.a];exact r⟩
  .have l1:Y (wC z b f t=vW z n1 46):=X (by unfold wC;rw[b4.a,f8.a];rfl);have g7:n1<64:=(by have:=f8.a;omega);have e1:a_ L ((f:Int)/8*8)=(f:Int)/8*8:=Vc;have e2:a_ L ((f:Int)/8*8+(t:Int)%8)=(n1:Int):=(by rw[YO];have:=f8.a;omega);have e3:0<=(n1:Int):=O;have e4:(n1:Int)<64:=O;obtain⟨H,m1,m2⟩:=j.a _ _ a6;have cn:=a6.at (r.sq n1 g7);have on:=a6.op n1;have G:=X (a6.set n1 (I Zg 46));have b0:=X (r.setSq n1 g7 46);clear b6 j l b4 a6;go_wp2;go_meet
   case rel=>exact⟨PA.setIfInBounds n1 (I Zg 46),WU,G.a,by rw[l1.a];exact b0.a⟩
 case rest=>
  obtain⟨Q1,rfl,a7,h7⟩:=hcut;clear a6 f8 r;obtain⟨H,m1,m2⟩:=j.a _ _ a7;obtain⟨cf,ct⟩:=l.a _ _ a7;have qt:=a7.at (h7.sq t ht);have ot:=a7.op t;have E:Y (∀w',(∃Q,Bh w PA f t u B Q w')->(∃Q,Bh w PA f t u B Q w')/\w'.cell? ⟨w.heap.size+1,0,N⟩=S (I L f)/\w'.cell? ⟨w.heap.size+1,1,N⟩=S (I L t)/\w'.cell? ⟨w.heap.size,f,N⟩=S (I Zg (z f).toNat)):=X (λw' h=>⟨h,by obtain⟨Q,h⟩:=h;exact⟨h.pm.cells.1,h.pm.cells.2.1,h.pm.at r7⟩⟩);have l3:wc.drew.cell? ⟨B,t,N⟩=S (I Zg (wC z b f t t).toNat):=qt;have l2:wc.drew.frozen? ⟨B,t,N⟩=Zl:=ot;have m:=a7.drew;clear qt ot H m1 m2 cf ct;go_upto_region 9 with fail;go_region_held3 (λw'=>(∃Q,Bh w PA f t u B Q w')/\w'.cell? ⟨w.heap.size+1,0,N⟩=S (I L f)/\w'.cell? ⟨w.heap.size+1,1,N⟩=S (I L t)/\w'.cell? ⟨w.heap.size,f,N⟩=S (I Zg (z f).toNat)) (first|exact E.a _ ⟨_,m⟩|exact E.a _ ⟨_,Bh.set m _ _⟩|exact E.a _ (And.left ‹_›)) (fail);show Exit.then _ _ _ _ (wc.setCell ⟨B,t,N⟩ (I Zg (z f).toNat)).drew;have a8:=(a7.set t (I Zg (z f).toNat)).drew;have f3:Y (jE (vW (wC z b f t) t (z f)) wh fc b h g (Q1.setIfInBounds t (I Zg (z f).toNat))):=X (h7.setSq t ht (z f));rename_i v0;clear v0 a7 h7 m l3 l2 E;generalize (wc.setCell ⟨B,t,N⟩ (I Zg (z f).toNat)).drew=w9 at a8|-;generalize Q1.setIfInBounds t (I Zg (z f).toNat)=Q9 at a8 f3;obtain⟨H,m1,m2⟩:=j.a _ _ a8;have qf:=a8.at (f3.a.sq f hf);have of:=a8.op f;go_upto_region 11 with fail;show n_ _ _ _ _ (w9.setCell ⟨B,f,N⟩ (I Zg 46));have A:=a8.set f (I Zg 46);have a0:Y (jE (CY z b f t) wh fc b h g (Q9.setIfInBounds f (I Zg 46))):=X (f3.a.setSq f hf 46);clear qf of H m1 m2 a8 f3;generalize w9.setCell ⟨B,f,N⟩ (I Zg 46)=l4 at A|-;generalize Q9.setIfInBounds f (I Zg 46)=t0 at A a0;obtain⟨H,m1,m2⟩:=j.a _ _ A;obtain⟨NU,f2⟩:=Zn (Zm (u≠0));have v3:((u.toNat:Int)!=0)=NU:=by rw[<-f2.a];exact Iq
  go_upto_if 64 with fail;clear v3;go_cut [7]from 65 (λs7 m0=>∃Q,s7=I L V/\Bh w PA f t u B Q m0/\jE (n9 z wh b f t u) wh fc b h g Q)
  case first=>
   clear b6;cases NU
   .have c5:u=0:=(by simpa using f2.a);have T:Y (n9 z wh b f t u=CY z b f t):=X (by unfold n9;rw[qI c5]);clear c5;go_wp2;go_meet
    case rel=>exact⟨t0,R,A,by rw[T.a];exact a0.a⟩
   .have c5:u≠0:=(by simpa using f2.a);have g9:=X (λW=>qvi u hu c5 W);have z2:=X (λW=>GI (dP u) (Dx u) wh W);have b0:=X (a0.a.setSq t ht (yP (dP u) wh));have T:Y (n9 z wh b f t u=vW (CY z b f t) t (yP (dP u) wh)):=X (by unfold n9;rw[qF c5]);have E:Y (∀w',(∃Q,Bh w PA f t u B Q w')->(∃Q,Bh w PA f t u B Q w')/\w'.cell? ⟨w.heap.size+1,1,N⟩=S (I L t)/\w'.cell? ⟨w.heap.size+1,2,N⟩=S (I Zg u.toNat)):=X (λw' h=>⟨h,by obtain⟨Q,h⟩:=h;exact⟨h.pm.cells.2.1,h.pm.cells.2.2⟩⟩);have l3:l4.drew.cell? ⟨B,t,N⟩=S (I Zg (CY z b f t t).toNat):=A.at (a0.a.sq t ht);have l2:l4.drew.frozen? ⟨B,t,N⟩=Zl:=A.op t;have m:=A.drew;have G:=X (A.set t (I Zg ((yP (dP u) wh).toNat:Int))).drew;clear H m1 m2 j l c5;generalize yP (dP u) wh=ML at z2 b0 T G;generalize ((dP u:Nat):Int)=PU at g9 z2;go_upto_region 12 with fail;go_region_held3 (λw'=>(∃Q,Bh w PA f t u B Q w')/\w'.cell? ⟨w.heap.size+1,1,N⟩=S (I L t)/\w'.cell? ⟨w.heap.size+1,2,N⟩=S (I Zg u.toNat)) (first|exact E.a _ ⟨_,m⟩|exact E.a _ ⟨_,Bh.set m _ _⟩|exact E.a _ (And.left ‹_›)) (first|(go_at_call 111;refine Z1 (g9.a _) ?_)|(go_at_call 195;refine Z1 (z2.a _) ?_));show Exit.then _ _ _ _ (l4.setCell ⟨B,t,N⟩ (I Zg ML.toNat)).drew;exact IC
  case rest=>
   obtain⟨h3,rfl,b1,a1⟩:=hcut;clear A a0 f2 H m1 m2;obtain⟨C,c6⟩:=Zn (zK wh fc f t u);rw[c6.a]at b6;have f4:=X (qvy wh fc f t u);rw[c6.a]at f4;obtain⟨H,m1,m2⟩:=j.a _ _ b1;have o:=X (vF b1.pm.pa);go_upto_region 14 with(first|(go_at_call 108;refine Z0 (b6.a _) λw7 g6=>?_)|(refine ql Vb _ R w.heap.size R hz o.a ?_));have J:=b1.next g6;clear b1 g6 H m1 m2 o b6;obtain⟨KC,z0⟩:=Zn (Zm (V=5)&&Zm (0<=C));go_cut [82]from 77 (λw4 m0=>w4=Za KC/\m0=w7)
   case first=>
    clear j l;by_cases k5:V=5
    .have d5:(V==5)=Zk:=YF.2 k5;by_cases c0:0<=C
     .have p:Y (KC=Zk):=X (by rw[<-z0.a,qJ k5,qJ c0];rfl);clear k5;exact OB
     .have p:Y (KC=Zl):=X (by rw[<-z0.a,qJ k5,qE c0];rfl);have c1:C<0:=O;clear k5;exact OB
    .have d5:(V==5)=Zl:=(by rw[qM];exact k5);have p:Y (KC=Zl):=X (by rw[<-z0.a,qE k5];rfl);clear k5;exact OB
   case rest=>
    obtain⟨rfl,rfl⟩:=hcut;go_upto_if 82 with fail;go_cut [7]from 83 (λs7 m0=>∃Q,s7=I L V/\Bh w PA f t u B Q m0/\jE (ua z wh fc b f t u) wh fc b h g Q)
    case first=>
     cases KC
     .have T:Y (ua z wh fc b f t u=n9 z wh b f t u):=X (by
       have:sm z wh fc f t u=Zl:=(by unfold sm;rw[b3.a,c6.a];exact z0.a);unfold ua;rw[this];rfl)
      clear j l;go_wp2;go_meet
      case rel=>exact⟨h3,R,J,by rw[T.a];exact a1⟩
     .have p8:sm z wh fc f t u=Zk:=(by unfold sm;rw[b3.a,c6.a];exact z0.a);have v1:0<=C:=(by have:=z0.a;rw[qH,qG,qG]at this;exact this.2);obtain⟨ci,k2,eC⟩:∃i:Nat,i<4/\C=(i:Int):=by
       obtain e|e:=f4.a
       .omega
       .exact e
      obtain⟨rr,r2,er⟩:∃n:Nat,n<64/\zD ci=(n:Int):=⟨hR ci,(zi ci k2).2.2.1,(dq ci k2).2.2⟩;obtain⟨mm,l0⟩:∃n,Y (n=(f+t)/2):=⟨_,X R⟩;have f0:mm<64:=(by have:=l0.a;omega);have T:Y (ua z wh fc b f t u=vW (vW (n9 z wh b f t u) rr 46) mm (yP 3 wh)):=X (by unfold ua;rw[p8,qI R,c6.a,eC,YE,er,YE,l0.a]);have b7:Y (∀W,i_ c_ 196 #[I L C] W λe w'=>e=Zd (Ze #[I L (xY ci),I L (vN ci),I L rr,I L (xK (Zm (ci<2)))])/\w'=W):=X (λW=>by rw[eC,<-er];exact zr ci k2 W);have z2:=X (λW=>DF wh W);have r0:0<=(rr:Int):=O;have r1:(rr:Int)<64:=O;have n0:0<=(mm:Int):=O;have y8:(mm:Int)<64:=O;have e1:a_ L ((f:Int)+t)=(f:Int)+t:=Vc;have e2:((f:Int)+t)/2=(mm:Int):=(by have:=l0.a;omega);have e3:((f:Int)+t).tdiv 2=(mm:Int):=(by rw[Int.tdiv_eq_ediv_of_nonneg O];exact e2);have e4:a_ L (mm:Int)=mm:=Vc;have qr:=J.at (a1.sq rr r2);have or:=J.op rr;clear p8 v1 eC er z0 f4;go_upto_region 17 with(go_at_call 196;refine Z1 (b7.a _) ?_);show n_ _ _ _ _ (wc.setCell ⟨B,rr,N⟩ (I Zg 46));have K:=J.set rr (I Zg 46);have d2:Y (jE (vW (n9 z wh b f t u) rr 46) wh fc b h g (h3.setIfInBounds rr (I Zg 46))):=X (a1.setSq rr r2 46);clear J a1 qr or b7;generalize wc.setCell ⟨B,rr,N⟩ (I Zg 46)=l5 at K|-;generalize h3.setIfInBounds rr (I Zg 46)=t1 at K d2;have b0:=X (d2.a.setSq mm f0 (yP 3 wh));have E:Y (∀w',(∃Q,Bh w PA f t u B Q w')->(∃Q,Bh w PA f t u B Q w')/\w'.cell? ⟨w.heap.size+1,0,N⟩=S (I L f)/\w'.cell? ⟨w.heap.size+1,1,N⟩=S (I L t)):=X (λw' h=>⟨h,by obtain⟨Q,h⟩:=h;exact⟨h.pm.cells.1,h.pm.cells.2.1⟩⟩);obtain⟨ov,v4⟩:∃v,t1[mm]?=S v:=⟨_,d2.a.sq mm f0⟩;have l3:l5.drew.cell? ⟨B,mm,N⟩=S ov:=K.at v4;have l2:l5.drew.frozen? ⟨B,mm,N⟩=Zl:=K.op mm;have m:=K.drew;have G:=X (K.set mm (I Zg (yP 3 wh).toNat)).drew;clear j l;generalize yP 3 wh=ML at z2 b0 T G;go_region_held3 (λw'=>(∃Q,Bh w PA f t u B Q w')/\w'.cell? ⟨w.heap.size+1,0,N⟩=S (I L f)/\w'.cell? ⟨w.heap.size+1,1,N⟩=S (I L t)) (first|exact E.a _ ⟨_,m⟩|exact E.a _ ⟨_,Bh.set m _ _⟩|exact E.a _ (And.left ‹_›)) (first|(go_at_call 195;refine Z1 (z2.a _) ?_));show Exit.then _ _ _ _ (l5.setCell ⟨B,mm,N⟩ (I Zg ML.toNat)).drew;exact IC
    case rest=>
     obtain⟨t2,rfl,g4,g5⟩:=hcut;clear J a1 z0 f4;have a9:=X (g5.castle (fc':=cM fc f t 0) (λi _=>by unfold cM;simp));obtain⟨Z4,n5⟩:=Zn (ua z wh fc b f t u);rw[n5.a]at a9;clear g5;go_wp2;go_loopg [15] 4 (λgm k wr=>∃(d:Nat)(Q:I0),d+gm=4/\k=I L d/\Bh w PA f t u B Q wr/\jE Z4 wh (cM fc f t d) b h g Q)
     case atStart=>exact⟨0,t2,O,R,g4,a9.a⟩
     case round=>
      clear g4 a9;obtain⟨d,Qd,d1,rfl,m,a4⟩:=hrel;by_cases hd:d<4
      .have b7:=X (λW=>zr d hd W);obtain⟨H,m1,m2⟩:=j.a _ _ m;obtain⟨TB,b5⟩:=Zn (toB f t d);go_upto_region 22 with(go_at_call 196;refine Z1 (b7.a _) ?_);go_cut [135]from 103 to 138 (λs0 m0=>s0=Za TB/\m0=wr)
       case first=>
        have c4:Y (TB=(((f:Int)==xY d)||((f:Int)==zD d)||((t:Int)==xY d)||((t:Int)==zD d))):=X (by
         rw[<-b5.a];unfold toB
         have e:∀a c:Int,Zm (a=c)=(a==c):=λa c=>by
          by_cases q:a=c
          .rw[qJ q,YF.2 q]
          .rw[qE q,qM.2 q]
         rw[e,e,e,e])
        clear j l b5 b7;obtain⟨y1,e1⟩:=Zo ((f:Int)==xY d);obtain⟨y2,e2⟩:=Zo ((f:Int)==zD d);obtain⟨y3,e3⟩:=Zo ((t:Int)==xY d);obtain⟨y4,e4⟩:=Zo ((t:Int)==zD d);rw[e1,e2,e3,e4]at c4;cases y1
        .cases y2
         .cases y3
          .cases y4
           .exact OP
           .exact OP
          .exact OP
         .exact OP
        .exact OP
       case rest=>
        obtain⟨rfl,rfl⟩:=hcut;clear b7;go_upto_if 135 with fail;cases TB
        .have F:=X (a4.castle (fc':=cM fc f t (d+1)) (λi _=>by
          unfold cM;by_cases e:i=d
          .subst e;rw[b5.a];simp
          .have:Zm (i<d+1)=Zm (i<d):=by
            by_cases q:i<d
            .rw[qJ q,qJ O]
            .rw[qE q,qE O]
           rw[this]))
         clear a4 b5;go_wp2;go_roundg (gk-1)
         case measure=>omega
         case rel=>exact⟨d+1,Qd,O,Vg,m,F.a⟩
        .have F:=X ((a4.setC d hd Zl).castle (fc':=cM fc f t (d+1)) (λi _=>by
          unfold cM;by_cases e:i=d
          .subst e;rw[b5.a];simp
          .have:Zm (i<d+1)=Zm (i<d):=by
            by_cases q:i<d
            .rw[qJ q,qJ O]
            .rw[qE q,qE O]
           rw[this,qF e]))
         have qc:=m.at (a4.c d hd);have oc:=m.op (65+d);have w6:=X (m.set (65+d) (Za Zl));have x5:0<=(d:Int):=O;have x8:(d:Int)<4:=O;clear a4 b5 m;go_wp2;go_roundg (gk-1)
         case measure=>omega
         case rel=>exact⟨d+1,Qd.setIfInBounds (65+d) (Za Zl),O,Vg,w6.a,F.a⟩
      .have ed:d=4:=O;subst ed;have qb:=m.at a4.b;have ob:=m.op 69;go_upto_region 25 with fail;show n_ _ _ _ _ (wr.setCell ⟨B,69,N⟩ (I L (-1)));have D:=m.set 69 (I L (-1));have z1:Y (jE Z4 wh (cM fc f t 4) (-1) h g (Qd.setIfInBounds 69 (I L (-1)))):=X (a4.setB (-1));clear m a4 qb ob;generalize wr.setCell ⟨B,69,N⟩ (I L (-1))=w8 at D|-;generalize Qd.setIfInBounds 69 (I L (-1))=t3 at D z1;obtain⟨TW,d4⟩:=Zn (oZ z f t);obtain⟨H,m1,m2⟩:=j.a _ _ D;go_cut [152]from 139 (λs1 m0=>s1=Za TW/\m0=w8)
       case first=>
        by_cases k0:V=0
        .have d5:(V==0)=Zk:=YF.2 k0;obtain⟨dd,f5⟩:=Zn ((t:Int)/8-f/8);have y7:a_ L ((t:Int)/8-f/8)=dd:=(by rw[YO];have:=f5.a;omega);have n7:=X (λW=>xh dd (by have:=f5.a;omega) (by have:=f5.a;omega) W);have p:Y (TW=(ab dd==2)):=X (by
          rw[<-d4.a];unfold oZ;have e:uI f t=dd:=(by rw[<-f5.a];unfold uI;omega);rw[b3.a,qJ k0,e,Xc];unfold ab;by_cases q:dd<0
          .rw[qI q];by_cases q2:dd=-2
           .rw[q2];rfl
           .rw[qE O];symm;rw[qM];omega
          .rw[qF q];by_cases q2:dd=2
           .rw[q2];rfl
           .rw[qE O];symm;rw[qM];omega)
         clear j l k0;go_wp2_with(go_at_call 197;refine Z1 (n7.a _) ?_);go_meet
         case rel=>exact⟨UG,R⟩
        .have d5:(V==0)=Zl:=(by rw[qM];exact k0);have p:Y (TW=Zl):=X (by rw[<-d4.a];unfold oZ;rw[b3.a,qE k0];rfl);clear j l k0;exact OB
       case rest=>
        obtain⟨rfl,rfl⟩:=hcut;go_upto_if 152 with fail;go_cut [7]from 153 (λs7 m0=>∃Q,s7=I L V/\Bh w PA f t u B Q m0/\jE Z4 wh (cM fc f t 4) (oA z wh f t) h g Q)
        case first=>
         cases TW
         .have p:Y (oA z wh f t=-1):=X (by unfold oA;rw[d4.a];rfl);clear j l;go_wp2;go_meet
          case rel=>exact⟨t3,R,D,by rw[p.a];exact z1.a⟩
         .have p:Y (oA z wh f t=(f:Int)+8*xK wh):=X (by unfold oA;rw[d4.a];rfl);obtain⟨sv,r5⟩:=Zn ((f:Int)+8*xK wh);have r4:-1<=xK wh/\xK wh<=1:=Vn;have e1:a_ L (8*xK wh)=8*xK wh:=Vc;have e2:a_ L ((f:Int)+8*xK wh)=sv:=(by rw[YO];have:=r5.a;omega);rw[r5.a]at p;have qb:=D.at z1.a.b;have ob:=D.op 69;have w6:=X (D.set 69 (I L sv));have F:=X (z1.a.setB sv);clear j l D z1;exact IB
        case rest=>
         obtain⟨t4,rfl,z3,P⟩:=hcut;clear D z1 d4 H m1 m2;obtain⟨bb,p0⟩:=Zn (oA z wh f t);rw[p0.a]at P;have qh:=z3.at P.h;obtain⟨HL,f1⟩:=Zn (Zm (h<65535));have v2:Zm (h<65535)=HL:=f1.a;go_upto_if 161 with fail;clear v2;obtain⟨hh,f7⟩:=Zn (if h<65535 then h+1 else h);go_cut [7]from 162 (λs7 m0=>∃Q,s7=I L V/\Bh w PA f t u B Q m0/\jE Z4 wh (cM fc f t 4) bb hh g Q)
         case first=>
          cases HL
          .have p:Y (hh=h):=X (by rw[<-f7.a,qF (of_decide_eq_false f1.a)]);clear j l;go_wp2;go_meet
           case rel=>exact⟨t4,R,z3,by rw[p.a];exact P⟩
          .have p:Y (hh=h+1):=X (by rw[<-f7.a,qI (q8 f1.a)]);have e1:a_ L (h+1)=hh:=(by rw[YO];have:=p.a;omega);have oh:=z3.op 70;have w6:=X (z3.set 70 (I L hh));have F:=X (P.setH hh);clear j l z3 P;go_wp2;go_meet
           case rel=>exact⟨_,R,w6.a,F.a⟩
         case rest=>
          obtain⟨t5,rfl,M,a2⟩:=hcut;clear z3 P qh f1;obtain⟨ZH,h9⟩:=Zn (iQ z b f t);have g3:Y (ZH=(Zm (V=0)||(TK||PS))):=X (by rw[<-h9.a];unfold iQ;rw[b3.a,n3.a,b4.a]);obtain⟨TP,n4⟩:=Zn (TK||PS);rw[n4.a]at g3|-;go_upto_region 29 with fail;go_cut [170]from 166 (λs2 m0=>s2=Za ZH/\m0=wc)
          case first=>
           clear j l;by_cases k0:V=0
           .have d5:(V==0)=Zk:=YF.2 k0;have p:Y (ZH=Zk):=X (by rw[g3.a,qJ k0];rfl);clear k0;exact OB
           .have d5:(V==0)=Zl:=(by rw[qM];exact k0);have p:Y (ZH=TP):=X (by rw[g3.a,qE k0];rfl);clear k0;exact OB
          case rest=>
           obtain⟨rfl,y⟩:=hcut;subst y;go_upto_if 170 with fail;obtain⟨bh,k1⟩:=Zn (Cd z b f t h);go_cut [7]from 171 (λs7 m0=>∃Q,s7=I L V/\Bh w PA f t u B Q m0/\jE Z4 wh (cM fc f t 4) bb bh g Q)
           case first=>
            cases ZH
            .have p:Y (bh=hh):=X (by rw[<-k1.a];unfold Cd;rw[h9.a,<-f7.a];rfl);clear j l;go_wp2;go_meet
             case rel=>exact⟨t5,R,M,by rw[p.a];exact a2⟩
            .have p:Y (bh=0):=X (by rw[<-k1.a];unfold Cd;rw[h9.a];rfl);have qh:=M.at a2.h;have oh:=M.op 70;have w6:=X (M.set 70 (I L 0));have F:=X (a2.setH 0);clear j l M a2;exact IB
           case rest=>
            obtain⟨t9,rfl,z4,a3⟩:=hcut;clear M a2 g3 n4 f7;obtain⟨GF,d0⟩:=Zn (!wh&&Zm (g<65535));have qg:=z4.at a3.g;obtain⟨SD,h8⟩:=Zn (xK wh);rw[h8.a];go_upto_region 31 with fail;go_cut [178]from 172 (λs5 m0=>s5=Za GF/\m0=wc)
            case first=>
             clear j l;cases wh
             .have r4:SD<0:=(by rw[<-h8.a];decide);have p:Y (GF=Zm (g<65535)):=X d0.a.symm;exact OB
             .have r4:¬SD<0:=(by rw[<-h8.a];decide);have p:Y (GF=Zl):=X d0.a.symm;exact OB
            case rest=>
             obtain⟨rfl,y⟩:=hcut;subst y;go_upto_if 178 with fail;obtain⟨gg,k4⟩:=Zn (Ce wh g);go_cut [7]from 179 (λs7 m0=>∃Q,s7=I L V/\Bh w PA f t u B Q m0/\jE Z4 wh (cM fc f t 4) bb bh gg Q)
             case first=>
              cases GF
              .have p:Y (gg=g):=X (by rw[<-k4.a];unfold Ce;rw[d0.a];rfl);clear j l;go_wp2;go_meet
               case rel=>exact⟨t9,R,z4,by rw[p.a];exact a3⟩
              .have p:Y (gg=g+1):=X (by rw[<-k4.a];unfold Ce;rw[d0.a];rfl);have e1:a_ L (g+1)=gg:=(by rw[YO];have:=p.a;omega);have og:=z4.op 71;have w6:=X (z4.set 71 (I L gg));have F:=X (a3.setG gg);clear j l z4 a3;go_wp2;go_meet
               case rel=>exact⟨_,R,w6.a,F.a⟩
             case rest=>
              obtain⟨n2,rfl,z5,d3⟩:=hcut;clear z4 a3 d0 qg j l;have cw:=z5.pm.at w2;have qw:=z5.at d3.wh;have ow:=z5.op 64;go_upto_region 34 with fail;show n_ _ _ _ _ (wc.setCell ⟨B,64,N⟩ (Za (!wh)));have z9:=z5.set 64 (Za (!wh));have b2:jE Z4 (!wh) (cM fc f t 4) bb bh gg (n2.setIfInBounds 64 (Za (!wh))):=d3.setWh (!wh);clear z5 d3 cw qw ow;generalize wc.setCell ⟨B,64,N⟩ (Za (!wh))=x0 at z9|-;generalize n2.setIfInBounds 64 (Za (!wh))=h4 at z9 b2;have g2:=b2.size;have v5:=qx b2;have o:=X (vF z9.q);have r3:Y (x0.heap[w.heap.size+1+1]?=S (Z b_ 70)):=X z9.rs;go_wp2_with(first|(refine ql Vb _ R B R g2 o.a ?_)|(refine ZU R 70 _ _ R (w.heap.size+1+1) h4 R R 70 b_ r3.a (by rw[g2];exact q9) (by rw[g2];rfl) v5 ?_));refine ZS (v:=Zc h4) (Yp results106 _ _ (w.heap.size+1+1) 70 _ (0,0) _ R (Zt r3.a) s_ rfl (by rw[g2];exact q9)) R ⟨h4,R,?_,z9.pm.gr.setRow _ O _⟩;rw[n5.a,p0.a,k1.a,k4.a];exact b2
def m3(d:kJ z wh fc b)(l:-1<=b)(m:b<=63){t:Nat}(e:f<64)(g:t<64)(o:u∈U5)(n:j9 z wh fc b f t u=Zk):∃y:Nat,y<64/\xR (ua z wh fc b f t u) wh=(y:Int):=by obtain⟨i,j,h,k,a⟩:=(qjy d e g o).1 n;rw[pC d j e g h k a];exact(jy d l m j e g h k a).1
def yY(z:I2)(wh:Bool)(fc:I5)(b:Int):List Mv:=yE z wh fc b 64
def E8:∀i,i<64->pQ i<64:=WS
def bL:∀f,f<64->pQ (pQ f)=f:=WS
def gH:∀i,i<64->∀j,j<64->i<j->xQ (pQ i)<xQ (pQ j):=WS
def wM{a b c d:I1}(e:a.length=b.length)(h:a<b):a++c<b++d:=by
 induction a generalizing b with
 | nil=>
  cases b with
  | nil=>exact w_ h (List.lt_irrefl _)
  | cons _ _=>cases e
 | cons x r ih=>
  cases b with
  | nil=>cases e
  | cons y s=>
   rw[YA,YA,List.cons_lt_cons_iff];rw[List.cons_lt_cons_iff]at h;obtain h|⟨f,g⟩:=h
   .exact Zi h
   exact Zj ⟨f,ih VI g⟩
def lY{a c d:I1}(h:c<d):a++c<a++d:=by
 induction a with
 | nil=>exact h
 | cons x r ih=>rw[YA,YA,List.cons_lt_cons_iff];exact Zj ⟨R,ih⟩
def BT(m:kJ z wh fc b)(q:-1<=b)(r:b<=63)(x:Mv):x∈yY z wh fc b↔x∈yo z wh fc b:=by
 unfold yY yE eH kr;simp only[YX,qK];constructor
 .rintro⟨i,j,a⟩;split at a
  .obtain⟨k,w,a⟩:=YX.1 a;obtain⟨u,p,rfl⟩:=YL.1 a;obtain⟨p,o⟩:=qV.1 p;exact(C8 m q r (E8 i j) (E8 k (qK.1 w)) (List.mem_of_mem_take p)).1 o
  cases a
 intro a;obtain⟨i,f,t,u,rfl,j,n,l,v,A,h⟩:=(Ay m).1 (qV.1 a).1;obtain⟨y,e,u0,u1⟩:=wX h;have:u=y:=Vo;subst this;have d:u∈U5:=by unfold U5;rcases u1 with e|e|e|e|e<;>(rw[e];simp)
 refine⟨pQ f,E8 f n,?_⟩;rw[bL f n,qI (ja j v)];refine YX.2 ⟨pQ t,qK.2 (E8 t l),?_⟩;rw[bL t l];refine YL.2 ⟨u,qV.2 ⟨?_,(C8 m q r n l d).2 a⟩,R⟩;have g:=(pg l d).1 h;rw[YF]at g;rw[ED,ro j v];by_cases k:(i:Int)=0/\zO t=Zk
 .rw[qI k];exact d
 rw[qF k];have:Zm (u≠0)=Zl:=by
  rw[g];cases o:zO t with
  | false=>simp
  | true=>
   rw[qE (λe=>k ⟨O,o⟩)];rfl
 have:u=0:=by simpa using this
 rw[this];simp[U5]
def wQ(z:I2)(wh:Bool)(fc:I5)(b:Int):(yY z wh fc b).Pairwise λx y=>yJ x<yJ y:=by
 have g:∀f t n,∀x∈kr z wh fc b f t n,x.1=f/\x.2.1=t:=λf t n x d=>by obtain⟨u,_,rfl⟩:=YL.1 d;exact⟨R,R⟩
 have o:∀f n,∀x∈eH z wh fc b f n,x.1=f:=λf n x d=>by obtain⟨k,_,d⟩:=YX.1 d;exact(g _ _ _ x d).1
 unfold yY yE;rw[X4];constructor
 .intro i _;split
  .rw[eH,X4];constructor
   .intro k _;rw[kr,List.pairwise_map];refine List.Pairwise.filter _ (List.Pairwise.sublist (List.take_sublist _ _) ?_);unfold U5;unfold yJ uY;simp only;have e:∀i,i<5->∀j,j<5->i<j->xQ (pQ i)=xQ (pQ i):=λ_ _ _ _ _=>R;apply List.Pairwise.imp (R:=λu v:UInt8=>(if u=0 then[]else[u])<(if v=0 then([]:I1)else[v])) (λ{a c} h=>lY h);decide
   refine(List.pairwise_lt_range (n:=64)).imp_of_mem λ{a c} ha hc hlt x d y hy=>?_;obtain⟨l,p⟩:=g _ _ _ x d;obtain⟨m,q⟩:=g _ _ _ y hy;unfold yJ uY;rw[l,p,m,q,qS,qS];exact lY (wM R (gH a (qK.1 ha) c (qK.1 hc) hlt))
  exact List.Pairwise.nil
 refine(List.pairwise_lt_range (n:=64)).imp_of_mem λ{a c} ha hc hlt x d y hy=>?_;split at d
 .split at hy
  .have l:=o _ _ x d;have m:=o _ _ y hy;unfold yJ uY;rw[l,m,qS,qS];exact wM R (gH a (qK.1 ha) c (qK.1 hc) hlt)
  cases hy
 cases d
def qk3(f:kJ z wh fc b)(d:-1<=b)(e:b<=63):yY z wh fc b=jI (xC z wh fc b):=by obtain⟨i,g⟩:=Fd f d e;refine zu (λa c h=>List.lt_asymm h) _ _ (wQ z wh fc b) g λx=>?_;rw[BT f d e,je f d e,(xq _).mem_iff]
structure Lg(w w4:I6)(PA:I0)(B:Nat)(Q:I0)(W:I6):Prop where
 pa:zJ w.heap.size PA W
 q:zJ B Q W
 gr:Gr w4 W
def Lg.next{b:I6}{Q:I0}(h:Lg w b PA B Q W)(g:Gr W a):Lg w b PA B Q a:=⟨h.pa.gr g,h.q.gr g,o_ h.gr g⟩
def qjj{g:Int}(r:jE z wh fc b h g PA)(hC:kJ z wh fc b)(a1:-1<=b)(a2:b<=63)(h0:0<=h)(h1:h<=65535)(g0:0<=g)(g1:g<=65535)(f t:Nat)(hf:f<64)(ht:t<64)(u:UInt8)(hu:u∈U5)(w:I6):ZL 105 #[Zc PA,Zc (ZJ f t u)] w (Za (vo z wh fc b f t u)):=by
 have b2:=r.size;have l:=Pm.start w PA f t u;have T:=X (λW=>Dv r W);have H:=X (λW=>m4 r f t hf ht u W);have M:=X (λW=>qxg r f t hf ht u hu h0 h1 g0 g1 W);have d:=X (vF l.pa);obtain⟨m0,m1,m2⟩:=l.cells;have J:=X (m3 hC a1 a2 hf ht hu);have b0:Y (vo z wh fc b f t u=(j9 z wh fc b f t u&&!(zM (ua z wh fc b f t u) (xR (ua z wh fc b f t u) wh) (!wh)))):=R;generalize vo _ _ _ _ _ _ _=V at b0|-;clear r hC;generalize j9 _ _ _ _ _ _ _=G at H J b0;unfold ZL;go_in;go_upto_region 2 with(first|(go_at_call 191;refine Z0 (H _) λw1 b4=>?_)|(refine ql Vb _ R w R b2 d.a ?_));have k:=l.next b4;clear l b4 d H m0 m1 m2;obtain⟨m0,m1,m2⟩:=k.cells;have d:=X (vF k.pa);cases G
 .have b3:=X k.gr;go_wp2;go_ret;exact⟨by rw[b0.a];rfl,b3⟩
 .go_upto_region 5 with(first|(go_at_call 106;refine(M _).mono ?_;rintro e j ⟨Q,rfl,b1,P⟩;have o:=b1.size;have b5:=qx b1)|(refine ZU R 70 _ _ R j Q R R 70 b_ Zv (by rw[o];exact q9) (by rw[o];rfl) b5 ?_)|(refine ql Vb _ R w R b2 d.a ?_));show n_ _ _ _ _ ((j.alloc (Z b_ 70)).setRow j Q);have F:Gr j ((j.alloc (Z b_ 70)).setRow j Q):=ZN.setRow _ Zy _;have n:((j.alloc (Z b_ 70)).setRow j Q).heap[j.heap.size]?=Z Q 70:=Zt (Z7 j _);have m:=(k.next P).next F;generalize ((j.alloc (Z b_ 70)).setRow j Q)=w4 at F n m|-;generalize j.heap.size=B at n|-;obtain⟨y,a5,hy⟩:=J x_;obtain⟨qs,qA⟩:=FN b1;have a0:Y (∀W:I6,ZL 193 #[(Q.toList.take 64).toArray,xK wh] W y):=λW=>by rw[<-hy];exact qzo _ _ qA wh W
  obtain⟨av,E⟩:=Zn (zM (ua z wh fc b f t u) (y:Int) (!wh));have b7:Y (∀W:I6,ZL 192 #[(Q.toList.take 64).toArray,y,xK (!wh)] W av):=λW=>by rw[<-E.a];exact ju _ _ qs qA (y:Int) O O (!wh) W
  have b6:Y (V=!av):=(by rw[b0.a,hy,E.a];rfl);have a4:Y (a_ L (-(xK wh))=xK (!wh)):=X Vn;have b3:=X m.gr;have i:Lg w w4 PA B Q w4.drew:=⟨(vF m.pa).gr ZO.drew,(vF n).gr ZO.drew,ZO.drew⟩;clear m k P F n M J b0 d m0 m1 m2 qs qA b1 b5 E hy;refine ZT (S:=Lg w w4 PA B Q) WR i (λa=>?_);clear i;apply tq 0 _ a;apply ty 1 ((Q.toList.take 64).toArray) R (DB o Vb _ R B R (λ_ h=>h.q)) a;apply tq 2 _ a;apply ty 3 ((Q.toList.take 64).toArray) R (DB o Vb _ R B R (λ_ h=>h.q)) a;apply ty 4 PA R (zy b2 Vb _ R w R (λ_ h=>h.pa)) a;apply ty 7 PA R (zy b2 Vb _ R w R (λ_ h=>h.pa)) a;refine rd 5 λK hK=>?_;go_simp;refine Z0 (T _) λa6 p=>?_;refine hK.out _ _ (a.next p) λa=>?_;clear hK K p;try simp only[py]
  refine rd 6 λK hK=>?_;go_simp;refine Z0 (a0 _) λa7 x=>?_;refine hK.out _ _ (a.next x) λa=>?_;clear hK K x;try simp only[py]
  refine rd 8 λK hK=>?_;go_simp;refine Z0 (T _) λa8 A=>?_;refine hK.out _ _ (a.next A) λa=>?_;clear hK K A;try simp only[py]
  refine ZB 9 (I L (xK (!wh))) R (λw _=>by go_simp;exact a4) a ?_;refine rd 10 λK hK=>?_;go_simp;refine Z0 (b7 _) λa9 D=>?_;refine hK.out _ _ (a.next D) λa=>?_;clear hK K D;try simp only[py]
  refine rd 11 λK hK=>?_;go_simp;refine hK.out _ _ a λa=>?_;clear hK K;try simp only[py]
  refine ZZ WR ?_ _;have a3:=X (o_ b3 a.gr);clear a;go_wp2;go_ret;exact⟨by rw[b6.a];rfl,a3⟩
def Eb:(c_.info? 125).map (λi=>(i.zero,i.size,i.bytes))=S (S (Zc #[I L 0,I L 0,I Zg 0]),3,24):=WR
def np(base:Nat)(v:I7)(xs:List Mv)(w:I6):Prop:=w.ownsRow base 125 3 v xs.length (vO xs)
def mW{l:List Mv}(h:np base v l w):∀k,v.ownBlock=S k->base<=k:=by exact No
def C2{q:Nat}(a:q<5):U5.getD q 0∈U5/\U5.take (q+1)=U5.take q++[U5.getD q 0]:=by have:q=0\/q=1\/q=2\/q=3\/q=4:=O;rcases this with rfl|rfl|rfl|rfl|rfl<;>decide
def cu(z:I2)(wh:Bool)(fc:I5)(b:Int)(f t n:Nat):(kr z wh fc b f t n).length<=5:=by rw[kr,YD];apply q7 (Y8 _ _);rw[Xt];exact q7 (Nat.min_le_right _ _) (qL 5)
theorem du{α β:Type}(F:α->List β)(c:Nat)(h:∀a,(F a).length<=c):∀l:List α,(l.flatMap F).length<=l.length*c
 | []=>by simp
 | a::r=>by
  rw[List.flatMap_cons,qZ,Yq,Nat.add_mul];have:=du F c h r;have:=h a;omega
def iV(z:I2)(wh:Bool)(fc:I5)(b:Int)(f n:Nat):(eH z wh fc b f n).length<=n*5:=by have:=du (λk=>kr z wh fc b f (pQ k) (ED z f (pQ k))) 5 (λk=>cu z wh fc b f _ _) (h_ n);rw[List.length_range]at this;exact this
def iW(z:I2)(wh:Bool)(fc:I5)(b:Int)(n:Nat):(yE z wh fc b n).length<=n*320:=by
 have:=du (λi=>if vB (z (pQ i))=xK wh then eH z wh fc b (pQ i) 64 else[]) 320 (λi=>by
  split
  .exact q7 (iV z wh fc b _ 64) O
  simp) (h_ n)
 rw[List.length_range]at this;exact this
def se(t:Nat):zO t=(((t:Int)/8==0)||((t:Int)/8==7)):=by grind[zO,qJ,qE,qM]
def qvh{β:Type}(F:Nat->List β)(n:Nat):(h_ (n+1)).flatMap F=(h_ n).flatMap F++F n:=by rw[YI,Xj];simp
def ln(z:I2)(wh:Bool)(fc:I5)(b:Int)(f t q:Nat)(a:q<5):kr z wh fc b f t (q+1)=kr z wh fc b f t q++(if vo z wh fc b f t (U5.getD q 0)then[(f,t,U5.getD q 0)]else[]):=by
 rw[kr,(C2 a).2,YJ,Ys];congr 1;by_cases h:vo z wh fc b f t (U5.getD q 0)=Zk
 .rw[List.filter_cons_of_pos h,qI h];rfl
 rw[List.filter_cons_of_neg h,qF h];rfl
def ai{g:Int}(r:jE z wh fc b h g PA)(hC:kJ z wh fc b)(g4:-1<=b)(g5:b<=63)(h0:0<=h)(h1:h<=65535)(g0:0<=g)(g1:g<=65535)(w:I6):i_ c_ 54 #[PA] w λe w'=>∃v,e=Zd v/\np w v (yY z wh fc b) w'/\Gr w w':=by
 obtain⟨i0,hi,h5,h6,h7⟩:=We Eb;have g8:=X hi;clear hi;have hz:=r.size;have a9:=X (λW=>Dv r W);have l2:=X r.sq;have a3:=X (λ(n:Nat) W=>za (z n) W);have a6:=X (λ(n:Nat) W=>zp (z n) W);have a7:=X (λ(f t:Nat)(B:f<64)(ht:t<64)(u:UInt8)(hu:u∈U5) W=>qjj r hC g4 g5 h0 h1 g0 g1 f t B ht u hu W);have a2:Y ((w.alloc (Z PA 70)).heap[w.heap.size]?=Z PA 70/\w<(w.alloc (Z PA 70)).heap.size):=X ⟨Zv,Vj⟩;have b6:Y (Gr w (w.alloc (Z PA 70))):=X ZN;clear r hC;go_in;go_upto_region 2 with fail;generalize g2:w.alloc (Z PA 70)=J at a2 b6|-;have d2:Y (∀W,Gr J W->W.heap[w.heap.size]?=Z PA 70):=X (λW g=>(Zz g a2.a.2).trans a2.a.1);clear g2 a2;go_wp2;go_loopg [3,4] 64 (λgm v i wr=>∃d:Nat,d+gm=64/\i=d/\np J v (yE z wh fc b d) wr/\Gr J wr)
 case atStart=>exact⟨0,O,R,⟨R,Zi ⟨R,R⟩⟩,ZO⟩
 case round=>
  obtain⟨d,d1,rfl,q,o⟩:=hrel;have a:=X q;have k:=X o;clear q o;obtain⟨d3,d4⟩:∃x,x=gk:=⟨_,R⟩;subst d4;by_cases hd:d<64
  .obtain⟨f,a4⟩:∃f,Y (f=pQ d):=⟨_,X R⟩;have B:f<64:=(by rw[a4.a];exact E8 d hd);have e1:a_ L ((d:Int)%8*8)=(d:Int)%8*8:=Vc;have e2:a_ L ((d:Int)%8*8+(d:Int)/8)=(f:Int):=(by have:=a4.a;unfold pQ at this;rw[YO];omega);have f0:0<=(f:Int):=O;have f1:(f:Int)<64:=O;obtain⟨CB,l3⟩:=Zn (vB (z f)!=xK wh);have g6:(vB (z f)!=xK wh)=CB:=l3.a;go_upto_region 6 with fail;have E:zJ w PA wr.drew/\Gr J wr.drew:=⟨(vF (d2.a _ k.a)).gr ZO.drew,k.a.drew⟩;refine ZT (S:=λW=>zJ w PA W/\Gr wr W) WR ⟨E.1,ZO.drew⟩ (λG=>?_);clear E;refine ZB 0 f R (λw hw=>VX) G ?_;refine ZB 1 (ZI w) R (λw hw=>VX) G ?_;refine ZB 2 (.pointer (S ⟨w,f,N⟩)) R (λw hw=>VX) G ?_;refine ZB 3 (I Zg (z f).toNat) R (λw hw=>VX) G ?_;refine ty 5 PA R (zy hz Vb _ R w R (λ_ h=>h.1)) G ?_;refine rd 4 λK hK=>?_;go_simp;refine Z0 (a3.a f _) λwa l=>?_;subst l;refine hK.out _ _ G λG=>?_;clear hK K;try simp only[py]
   refine rd 6 λK hK=>?_;go_simp;refine Z0 (a9.a _) λwb c5=>?_;refine hK.out _ _ ⟨G.1.gr c5,o_ G.2 c5⟩ (λG=>?_);clear hK K c5;try simp only[py]
   refine tq 7 CB G ?_;refine ZZ WR ?_ _;have c4:=X (o_ k.a G.2);have A:=X (dU a.a G.2);clear G a k g6;have b1:Y (yE z wh fc b (d+1)=yE z wh fc b d++(if vB (z f)=xK wh then eH z wh fc b f 64 else[])):=X (by unfold yE;rw[qvh,a4.a]);clear a4 e1 e2;cases CB
   .have l4:vB (z f)=xK wh:=(by simpa using l3.a);have m0:Y (yE z wh fc b (d+1)=yE z wh fc b d++eH z wh fc b f 64):=X (by rw[b1.a,qI l4]);clear b1 l4 l3;obtain⟨p,hX⟩:=Zn (yE z wh fc b d);have k5:p.length<=d*320:=(by rw[<-hX.a];exact iW z wh fc b d);rw[hX.a]at A m0;clear hX;go_wp2;go_loopg [3,6] 64 (λgm v kk wr=>∃e:Nat,e+gm=64/\kk=e/\np J v (p++eH z wh fc b f e) wr/\Gr J wr)
    case atStart=>exact⟨0,O,R,by rw[show eH z wh fc b f 0=[]from R,Yh];exact A.a,c4.a⟩
    case round=>
     clear A c4;obtain⟨e,k1,rfl,q,o⟩:=hrel;have a:=X q;have k:=X o;clear q o;obtain⟨f9,d5⟩:∃x,x=gk:=⟨_,R⟩;subst d5;by_cases he:e<64
     .obtain⟨t,a8⟩:∃t,Y (t=pQ e):=⟨_,X R⟩;have ht:t<64:=(by rw[a8.a];exact E8 e he);have e1:a_ L ((e:Int)%8*8)=(e:Int)%8*8:=Vc;have e2:a_ L ((e:Int)%8*8+(e:Int)/8)=(t:Int):=(by have:=a8.a;unfold pQ at this;rw[YO];omega);obtain⟨V,M⟩:=Zn (ED z f t);have k3:V<=5:=(by rw[<-M.a];unfold ED;split<;>omega);have T:Y (eH z wh fc b f (e+1)=eH z wh fc b f e++kr z wh fc b f t V):=X (by unfold eH;rw[qvh,<-M.a,a8.a]);obtain⟨l1,hY⟩:=Zn (eH z wh fc b f e);have k8:l1.length<=e*5:=(by rw[<-hY.a];exact iV z wh fc b f e);rw[hY.a]at a T;clear hY a8;obtain⟨MB,m⟩:=Zn (Zm (vE (z f)=0)&&zO t);have cf:wr.cell? ⟨w,f,N⟩=I Zg (z f).toNat:=(by rw[qn (d2.a _ k.a)];exact l2.a f B);obtain⟨KD,a0⟩:=Zn (vE (z f));have P:=X (a6.a f);rw[a0.a]at P m;have Q:Y (zO t=(((t:Int)/8==0)||((t:Int)/8==7))):=X (se t);go_upto_region 12 with fail;clear e1 e2;go_cut [55]from 30 to 73 (λk2 wx=>k2=MB/\wx=wr)
      case first=>
       obtain⟨y1,q1⟩:=Zo ((t:Int)/8==0);obtain⟨y2,q2⟩:=Zo ((t:Int)/8==7);rw[q1,q2]at Q;by_cases k0:KD=0
       .have h2:(KD==0)=Zk:=YF.2 k0;have D:Y (MB=(y1||y2)):=X (by rw[<-m.a,qJ k0,Q.a,Xc]);clear k0 m Q a7 a3 a9 a6;cases y1
        .go_wp2_with(go_at_call 107;refine Z1 (P.a _) ?_);exact Iw
        .go_wp2_with(go_at_call 107;refine Z1 (P.a _) ?_);exact Iw
       .have h2:(KD==0)=Zl:=(by rw[qM];exact k0);have D:Y (MB=Zl):=X (by rw[<-m.a,qE k0];rfl);clear k0 m Q a7 a3 a9 a6;go_wp2_with(go_at_call 107;refine Z1 (P.a _) ?_);go_meet
        case rel=>exact⟨by rw[D.a],R⟩
      case rest=>
       obtain⟨rfl,l⟩:=hcut;subst l;clear cf P Q;go_upto_if 55 with fail;go_cut [8]from 56 to 73 (λs8 wx=>s8=V/\wx=wc)
       case first=>
        cases MB
        .have D:Y (V=1):=X (by
          rw[<-M.a];unfold ED;rw[a0.a,qF];rintro⟨h8,h9⟩;have:=m.a;rw[qJ h8,h9]at this;cases this)
         go_wp2;exact Iw
        .have D:Y (V=5):=X (by
          rw[<-M.a];unfold ED;rw[a0.a,qI];have:=m.a;rw[qH,qG]at this;exact this)
         go_wp2;exact Iw
       case rest=>
        obtain⟨rfl,l⟩:=hcut;subst l;clear m M a0;go_wp2;go_loopg [3,9] V (λgm v qq wr=>∃n:Nat,n+gm=V/\qq=n/\np J v (p++l1++kr z wh fc b f t n) wr/\Gr J wr)
        case atStart=>exact⟨0,O,R,by rw[show kr z wh fc b f t 0=[]from R,Yh];exact a.a,k.a⟩
        case round=>
         clear a k;obtain⟨n,n1,rfl,q,o⟩:=hrel;have a:=X q;have k:=X o;clear q o;by_cases hn:n<V
         .obtain⟨u,b0⟩:∃u,Y (u=U5.getD n 0):=⟨_,X R⟩;have h4:u∈U5:=(by rw[b0.a];exact(C2 O).1);obtain⟨LG,b4⟩:=Zn (vo z wh fc b f t u);have F:Y (kr z wh fc b f t (n+1)=kr z wh fc b f t n++(if LG then[(f,t,u)]else[])):=X (by rw[ln z wh fc b f t n O,<-b4.a,b0.a]);have f3:Y (∀W,ZL 105 #[PA,ZJ f t u] W LG):=X (λW=>by rw[<-b4.a];exact a7.a f t B ht u h4 W);have g9:∀W:I6,(l_ 9 (Zb ⟨#[0,98,110,113,114]⟩) n).run c_ W=.ok (I Zg u.toNat) W:=by have h3:n=0\/n=1\/n=2\/n=3\/n=4:=O;have hh:=b0.a;intro W;rcases h3 with rfl|rfl|rfl|rfl|rfl<;>(rw[hh];rfl)
          have nl:(n:Int)<V:=O;have g3:(kr z wh fc b f t n).length<=5:=cu z wh fc b f t n;obtain⟨m1,hZ⟩:=Zn (kr z wh fc b f t n);rw[hZ.a]at a F g3;clear b0 b4 hZ;have a5:Y (Gr wr (wr.alloc (Z (ZJ f t u) 125))):=X ZN;go_upto_region 18 with fail;show n_ _ _ _ _ (wr.alloc (Z (ZJ f t u) 125));have D:=ZQ wr (Z (ZJ f t u) 125);generalize (wr.alloc (Z (ZJ f t u) 125))=wm at a5 D|-;generalize wr.heap.size=Bm at D|-;have y0:wm.cell? Bm=I L f:=(by rw[qn D];rfl);have y1:wm.cell? ⟨Bm,1,N⟩=I L t:=(by rw[qn D];rfl);have y2:wm.cell? ⟨Bm,2,N⟩=I Zg u.toNat:=(by rw[qn D];rfl);have a1:Bm<wm:=Zx y0;have l5:=X (o_ k.a a5.a);have b3:=X (vF (d2.a _ l5.a));clear D g9 a7 a3 a6 a9 l2;go_upto_if 69 with(first|(go_at_call 105;refine Z0 (f3.a _) λw2 H=>?_)|(refine ql Vb _ R w R hz b3.a ?_));have b7:=o_ l5.a H;have y:=X (dU a.a (o_ a5.a H));have y0:=(ZW H (p:=Bm) a1).trans y0;have y1:=(ZW H (p:=⟨Bm,1,N⟩) a1).trans y1;have y2:=(ZW H (p:=⟨Bm,2,N⟩) a1).trans y2;have l0:=ZR b7;have b2:=X b7;clear H a5 l5 k a b3 f3 a1 b7;cases LG
          .have f4:Y (np J u3 (p++l1++kr z wh fc b f t (n+1)) w2):=X (by rw[F.a,qF WU,Yh];exact y.a);clear y;go_wp2;go_roundg (gk-1)
           case measure=>omega
           case rel=>exact⟨n+1,O,Vg,f4.a,b2.a⟩
          .have g7:∀j u',[I L (f:Int),I L t,I Zg u.toNat][j]?=S u'->(w2.alloc (Z (ZJ f t u) 125)).cell? ((⟨w2,0,N⟩:Addr).add j)=S u':=λj u' hu=>(by rw[X2,Z2,Z8 _ _ _ _ R,<-qO];exact hu);have f2:(p++l1++m1).length<=20805:=(by rw[qZ,qZ];omega);obtain⟨XX,b5⟩:=Zn (p++l1++m1);rw[b5.a]at y f2;have f8:Y (p++l1++kr z wh fc b f t (n+1)=XX++[(f,t,u)]):=X (by rw[F.a,qI R,<-qS,b5.a]);clear F b5;go_wp2_with(at_builtin;refine Xv _ R (.tmp 70) (.tmp 72) 131 rfl J 125 i0 (Zc #[I L 0,I L 0,I Zg 0]) 3 24 underlying131 g8.a h5 h6 h7 R WW u3 XX.length (vO XX) R (y.a.alloc _) ⟨w2,0,N⟩ 1 1 [I L f,I L t,I Zg u.toNat] R R g7 Vi Vk O WX ?_;intro v' w3 d0 c6 k4);go_roundg (gk-1)
           case measure=>omega
           case rel=>
            refine⟨n+1,O,Vg,?_,?_⟩
            .unfold np;rw[f8.a,pt,qZ];exact d0
            .exact(b2.a.alloc _ _).grown c6 WX (mW y.a)
         .have en:n=V:=O;subst en;have f6:Y (np J u3 (p++eH z wh fc b f (e+1)) wr):=X (by rw[T.a,<-qS];exact a.a);have k9:¬((n:Int)<n):=O;clear a T;go_wp2;go_roundg (f9-1)
          case measure=>omega
          case rel=>exact⟨e+1,O,Vg,f6.a,k.a⟩
     .have ee:e=64:=O;subst ee;have f7:Y (np J u3 (yE z wh fc b (d+1)) wr):=X (by rw[m0.a];exact a.a);clear a m0;go_wp2;go_roundg (d3-1)
      case measure=>omega
      case rel=>exact⟨d+1,O,Vg,f7.a,k.a⟩
   .have l4:¬vB (z f)=xK wh:=(by simpa using l3.a);have f5:Y (np J u3 (yE z wh fc b (d+1)) wb):=X (by rw[b1.a,qF l4,Yh];exact A.a);clear l4 l3 b1 A;go_wp2;go_roundg (d3-1)
    case measure=>omega
    case rel=>exact⟨d+1,O,Vg,f5.a,c4.a⟩
  .have ed:d=64:=O;subst ed;go_wp2;go_ret;exact⟨u3,R,qxn a.a (ZR b6.a),o_ b6.a k.a⟩
def bt{a:List Mv}(h:np base v a w):∃p cap,v=Zq p a.length cap/\a.length<=cap/\∀i (e:i<a.length),∃g,p=S ⟨g,0,N⟩/\w.cell? ⟨g,i*3,N⟩=(a[i].1:Int)/\w.cell? ⟨g,i*3+1,N⟩=(a[i].2.1:Int)/\w.cell? ⟨g,i*3+2,N⟩=I Zg (a[i].2.2.toNat:Int):=by
 obtain⟨rfl,j⟩|⟨g,cap,cur,rfl,q,m,o,u,l,d⟩:=h.2
 .have f:=j;exact⟨N,0,by rw[f],O,λi n=>w_ n O⟩
 refine⟨_,_,R,o,λi e=>⟨g,R,?_⟩⟩;have b:∀c,c<3->w.cell? ⟨g,i*3+c,N⟩=(pU a[i]).toList[c]?:=λc r=>by have k:i*3+c<a.length*3:=O;simp only[World.cell?];rw[m];show cur[i*3+c]?=_;rw[<-qO,<-Xi k,d,ut,show(i*3+c)/3=i from O,show(i*3+c)%3=c from O,Yf e];rfl
 exact⟨b 0 WW,b 1 WW,b 2 WW⟩
def ou(m:Int)(w:I6)(M:Ct m w)(a2:uV w):ZL 12 #[] w Zk:=by
 have D:∀n:Int,(n=1\/n=2)->∀W,Gr w W->i_ c_ 15 #[yT,n] W λe w'=>DQ kW 0 e w'/\Gr W w':=λn Q W E=>fK n Q m W (M.gr E) (a2.gr E);have G:∀(p1 p2:Option Addr)(c1 c2:Nat)(W:I6),El p1 kW W->El p2 kW W->ZL 27 #[Zq p1 kW.length c1,Zq p2 5 c2] W Zk:=λp1 p2 c1 c2 W a b=>qka kW WW p1 p2 c1 c2 W a b;unfold ZL;go_in;generalize a1:(⟨#[52,107,51,47,56,47,56,47,56,47,56,47,56,47,56,47,52,75,51,32,119,32,45,32,45,32,48,32,49]⟩:I4)=F;rw[show yT=F from a1]at D;go_upto_region 2 with(go_at_call 15;refine(D 1 (Zi R) _ ZO).mono ?_;rintro e w1 ⟨⟨p1,J,rfl,H,l⟩,x⟩);have g:El p1 kW w1:=l;go_upto_region 3 with(go_at_call 15;refine(D 2 (Zj R) _ x).mono ?_;rintro e v ⟨⟨p2,K,rfl,a5,o⟩,y⟩);have q:=o_ x y;have f:=g.gr y;have h:El p2 kW v:=o;go_upto_region 4 with fail;have a0:=ZQ v (Z #[Zb ⟨#[101,49,100,49]⟩,Zb ⟨#[101,49,100,50]⟩,Zb ⟨#[101,49,101,50]⟩,Zb ⟨#[101,49,102,49]⟩,Zb ⟨#[101,49,102,50]⟩] 9);have j:=(q_ v).alloc #[Zb ⟨#[101,49,100,49]⟩,Zb ⟨#[101,49,100,50]⟩,Zb ⟨#[101,49,101,50]⟩,Zb ⟨#[101,49,102,49]⟩,Zb ⟨#[101,49,102,50]⟩] 9;show n_ _ _ _ _ (v.alloc (Z #[Zb ⟨#[101,49,100,49]⟩,Zb ⟨#[101,49,100,50]⟩,Zb ⟨#[101,49,101,50]⟩,Zb ⟨#[101,49,102,49]⟩,Zb ⟨#[101,49,102,50]⟩] 9));have d:El (S ⟨v,0,N⟩) kW (v.alloc (Z #[Zb ⟨#[101,49,100,49]⟩,Zb ⟨#[101,49,100,50]⟩,Zb ⟨#[101,49,101,50]⟩,Zb ⟨#[101,49,102,49]⟩,Zb ⟨#[101,49,102,50]⟩] 9)):=λi P=>⟨_,R,by
  rw[qn a0];have a6:i<5:=P;have:i=0\/i=1\/i=2\/i=3\/i=4:=O
  rcases this with rfl|rfl|rfl|rfl|rfl<;>rfl⟩
 generalize v.alloc _=T at j d|-;generalize v.heap.size=a3 at d|-;have r:=o_ q j;have z:=f.gr j;have A:=h.gr j;go_upto_region 5 with(go_at_call 27;refine Z0 (G _ _ _ _ _ z d) λV k=>?_);have u:=o_ r k;have B:=A.gr k;have p:=d.gr k;go_upto_region 6 with(go_at_call 27;refine Z0 (G _ _ _ _ _ B p) λa4 C=>?_);have E:=o_ u C;go_wp2;go_ret;exact⟨R,E⟩
def dN(s:I4)(w:I6):ZL 118 #[s] w (Ze #[I Zg ((aw s).1.toNat:Int),(aw s).2]):=by
 by_cases h:0<s.size
 .have a:(aw s)=(s[0],Zm (0<=e_ uf s[0])):=by rw[aw,Wf h]
  have d:(s.toList==[])=Zl:=by
   rw[qM];intro e;have:s.toList.length=0:=Tg;have i:s.toList.length=s.size:=(by rw[Xl];exact ZX);omega
  rw[a];have b:=λW=>Tryz.strings_IndexByte ⟨#[113,114,98,110]⟩ (s[0].toNat:Int) W;have g:(0:Int)<(s.size:Int):=O;unfold ZL;go_in;go_upto_region 3 with fail;go_quiet((go_at_call 200;exact YT (b _)));all_goals
   go_wp2;go_ret2;exact⟨R,r_ (q_ w) _⟩
 have a:(aw s)=(0,Zk):=by rw[aw,dif_neg h]
 rw[a];have f:s=⟨#[]⟩:=by have:s.size=0:=O;exact ByteArray.size_eq_zero_iff.1 this
 subst f;unfold ZL;go_in;go_wp2;go_ret2;exact⟨R,ZO⟩
def z8(x:Nat×Nat×UInt8):I0:=#[I L (x.1:Int),I L (x.2.1:Int),I Zg (x.2.2.toNat:Int)]
def yy(s:I4):I7:=match yn s with
 | some x=>Ze #[Zc (z8 x),Za Zk]
 | none=>Ze #[Zc (z8 (0,0,0)),Za Zl]
def E7(s:I4):Int×Bool:=match uX s with|some n=>((n:Int),Zk)|none=>(0,Zl)
def xW:(c_.info? 87).map (·.size)=S 3:=WR
def eM(s:I4)(w:I6):ZL 117 #[s] w (Ze #[(E7 s).1,(E7 s).2]):=by
 unfold E7;cases h:uX s with
 | none=>exact(pl s h w).mono λe w' q=>⟨q.1,by rw[q.2];exact ZO⟩
 | some n=>exact qz7 s n h w
def mX(s:I4)(a5:s.size<4294967281)(w:I6):ZL 56 #[s] w (yy s):=by
 have g:=X ((q_ w).alloc #[I L 0,I L 0,I Zg 0] 87);have j:=X (λx W=>eM x W);have q:=X (λx W=>dN x W);by_cases d:s.size=4\/s.size=5
 .obtain⟨V,D⟩:=Zn (yy s);rw[D.a];have P:(4:Int)<=(s.size:Int)/\(s.size:Int)<=5:=O;obtain⟨a6,l5⟩:=P;unfold ZL;go_in;obtain⟨r,l⟩:=Zn (E7 (s.extract 0 2));obtain⟨u,m⟩:=Zn (E7 (s.extract 2 4));obtain⟨y,n⟩:=Zn (aw (s.extract 4 s.size));have b:Y (V=if r.2&&u.2&&y.2 then Ze #[Zc #[r.1,u.1,I Zg (y.1.toNat:Int)],Zk]else Ze #[Zc #[I L 0,I L 0,I Zg 0],Zl]):=X (by
   rw[<-D.a,<-l.a,<-m.a,<-n.a];unfold yy yn E7;rw[qI d];cases uX (s.extract 0 2)with
   | none=>rfl
   | some f=>
    cases uX (s.extract 2 4)with
    | none=>rfl
    | some t=>
     simp only;cases (aw (s.extract 4 s.size)).2<;>rfl)
  have G:Y (∀W,ZL 117 #[s.extract 0 2] W (Ze #[r.1,r.2])):=X (λW=>by rw[<-l.a];exact j _ W);have H:Y (∀W,ZL 117 #[s.extract 2 4] W (Ze #[u.1,u.2])):=X (λW=>by rw[<-m.a];exact j _ W);have C:Y (∀W,ZL 118 #[s.extract 4 s.size] W (Ze #[I Zg (y.1.toNat:Int),y.2])):=X (λW=>by rw[<-n.a];exact q _ W);have o:=X (Z7 w (Z #[I L 0,I L 0,I Zg 0] 87));have p:Y (w<(w.alloc (Z #[I L 0,I L 0,I Zg 0] 87)).heap.size):=X Vj;have a:=d;obtain⟨J,M⟩:=r;obtain⟨K,a4⟩:=u;obtain⟨a2,e⟩:=y;simp only at b G H C;generalize ((a2.toNat:Nat):Int)=u3 at b C;go_upto_region 1 with fail;generalize w.alloc _=a3 at g o p|-;go_cut [17]from 10 (λa1 a0=>a1=Zl/\a0=a3)
  .obtain h|h:=a
   .have v:((s.size:Int)!=4)=Zl:=Us;exact OZ
   have v:((s.size:Int)!=4)=Zk:=Us;have n2:((s.size:Int)!=5)=Zl:=Us;exact OZ
  obtain⟨rfl,F⟩:=hcut;subst F;go_upto_region 3 with fail;go_upto_region 4 with(go_at_call 117;refine Z0 (G _) λw1 z=>?_);go_upto_region 5 with(go_at_call 117;refine Z0 (H _) λw2 A=>?_);go_upto_region 6 with(go_at_call 118;refine Z0 (C _) λT B=>?_);have E:=o_ z (o_ A B);have k:=(Zz E p).trans o;have i:=X (o_ g E);cases M
  .exact WI
  cases a4
  .exact WI
  cases e
  .exact WI
  go_wp2_with(refine ZU R 87 _ _ R w #[J,K,I Zg u3] R R 87 #[I L 0,I L 0,I Zg 0] k xW R Vi ?_);exact ZS (v:=Ze #[Zc #[J,K,I Zg u3],Zk]) (qj results56 _ _ w 87 _ (0,0) _ R (Zt k) underlying87 rfl xW) R ⟨Tc,i.setRow _ Zy _⟩
 have Q:yy s=Ze #[z8 (0,0,0),Zl]:=by unfold yy yn;rw[qF d]
 rw[Q];have n4:((s.size:Int)!=4)=Zk:=V3;have n5:((s.size:Int)!=5)=Zk:=V3;unfold ZL;go_in;go_wp2;exact ZS (v:=Ze #[Zc #[I L 0,I L 0,I Zg 0],Zl]) (qj results56 _ _ w 87 _ (0,0) _ R (Z7 w _) underlying87 rfl xW) R ⟨R,g⟩
def zC:I0:=#[I L 0,I L 0,I Zg 0]
structure Tm(w W:I6):Prop where
 ps:W.heap[w.heap.size]?=S (Z b_ 70)
 mv:W.heap[w.heap.size+1]?=S (Z zC 87)
 lt:w.heap.size+1<W.heap.size
 gr:Gr w W
def Tm.next(h:Tm w W)(g:Gr W a):Tm w a:=⟨(Zz g (Nat.lt_of_succ_lt h.lt)).trans h.ps,(Zz g h.lt).trans h.mv,qN h.lt (ZR g),o_ h.gr g⟩
def Tm.start(w:I6):Tm w ((w.alloc (Z b_ 70)).alloc (Z zC 87)):=by obtain⟨a,b⟩:=x6 w (Z b_ 70) (Z zC 87);exact⟨a,b,UA,ZN.al⟩
def vP:zC.all (·.oneCell')=Zk:=by simp[zC,Value.oneCell']
def Tm.out(h:Tm w W)(A M:I0):((W.setRow w A).setRow (w+1) M).heap[w.heap.size]?=Z A 70/\((W.setRow w A).setRow (w+1) M).heap[w.heap.size+1]?=Z M 87/\Gr w ((W.setRow w A).setRow (w+1) M):=⟨by rw[Zu O];exact Zt h.ps,Zt (by rw[Zu O];exact h.mv),(h.gr.setRow _ Zy _).setRow _ O _⟩
def Tm.second(h:Tm w W)(A:I0):(W.setRow w A).heap[w.heap.size+1]?=Z zC 87:=by rw[Zu O];exact h.mv
structure T2(w:I6)(b1:Nat)(A:I0)(b2:Nat)(M:I0)(W:I6):Prop where
 tm:Tm w W
 p:W.heap[b1]?=S (Z A 70)
 lp:b1<W.heap.size
 m:W.heap[b2]?=S (Z M 87)
 lm:b2<W.heap.size
def T2.next{b:Nat}(h:T2 w b A d M W)(g:Gr W a):T2 w b A d M a:=⟨h.tm.next g,(Zz g h.lp).trans h.p,qN h.lp (ZR g),(Zz g h.lm).trans h.m,qN h.lm (ZR g)⟩
structure T3(w:I6)(b1:Nat)(A:I0)(b2:Nat)(M:I0)(W:I6):Prop where
 ps:∃R,R.size=72/\W.heap[w.heap.size]?=S (Z R 70)
 mv:∃R,R.size=3/\W.heap[w.heap.size+1]?=S (Z R 87)
 gr:Gr w W
 p:W.heap[b1]?=S (Z A 70)
 lp:b1<W.heap.size
 m:W.heap[b2]?=S (Z M 87)
 lm:b2<W.heap.size
 h1:w.heap.size+1<b1
 h2:w.heap.size+1<b2
def T3.of{a b:Nat}(h:T2 w a A b M W)(d:w+1<a)(e:w+1<b):T3 w a A b M W:=⟨⟨_,xF,h.tm.ps⟩,⟨_,R,h.tm.mv⟩,h.tm.gr,h.p,h.lp,h.m,h.lm,d,e⟩
def T3.c0{b a:Nat}{x:Nat×Nat×UInt8}(h:T3 w b A a (z8 x) W):W.cell? a=(x.1:Int):=VV
def T3.c1{b a:Nat}{x:Nat×Nat×UInt8}(h:T3 w b A a (z8 x) W):W.cell? ⟨a,1,N⟩=(x.2.1:Int):=VV
def T3.c2{b a:Nat}{x:Nat×Nat×UInt8}(h:T3 w b A a (z8 x) W):W.cell? ⟨a,2,N⟩=I Zg (x.2.2.toNat:Int):=VV
def T2.c0{b a:Nat}{x:Nat×Nat×UInt8}(h:T2 w b A a (z8 x) W):W.cell? a=(x.1:Int):=VV
def T2.c1{b a:Nat}{x:Nat×Nat×UInt8}(h:T2 w b A a (z8 x) W):W.cell? ⟨a,1,N⟩=(x.2.1:Int):=VV
def T2.c2{b a:Nat}{x:Nat×Nat×UInt8}(h:T2 w b A a (z8 x) W):W.cell? ⟨a,2,N⟩=I Zg (x.2.2.toNat:Int):=VV
def t7{p:pH}(h:xP p=Zk):0<=p.half/\p.half<=65535/\0<=p.full/\p.full<=65535:=by unfold xP k6 cK at h;simp only[qH]at h;obtain⟨_,⟨⟨⟨⟨_,_⟩,_⟩,_⟩,a⟩,_⟩:=h;unfold zP at a;simp only[qH,qG]at a;omega
def o8(x:I4):Zm (0<=dJ x)=(uX x).isSome:=by grind[dJ,uX,qJ]
def EA{s:I4}(h:s.size=4\/s.size=5):(yn s).isSome=(Zm (0<=dJ (s.extract 0 2))&&Zm (0<=dJ (s.extract 2 4))&&(aw (s.extract 4 s.size)).2):=by
 rw[o8,o8];rw[yn,qI h];cases uX (s.extract 0 2)with
 | none=>rfl
 | some f=>
  cases uX (s.extract 2 4)with
  | none=>rfl
  | some t=>
   simp only;cases (aw (s.extract 4 s.size)).2<;>rfl
def cY(s:I4)(w:I6):i_ c_ 103 #[s] w λe w'=>e=Zd ((yn s).isSome)/\w'=w:=by
 by_cases f:s.size=4\/s.size=5
 .have d:=EA f;generalize (yn s).isSome=V at d|-;have l:=λW=>zb (s.extract 0 2) W;have m:=λW=>zb (s.extract 2 4) W;generalize dJ (s.extract 0 2)=v at d l;generalize dJ (s.extract 2 4)=y at d m;obtain⟨q,j⟩:=Zo (Zm (0<=v));obtain⟨r,k⟩:=Zo (Zm (0<=y));rw[j,k]at d;obtain h|h:=f
  .rw[rc h]at d;have o:((s.size:Int)!=4)=Zl:=Us;have p:((s.size:Int)==4)=Zk:=Us;have A:(4:Int)<=(s.size:Int):=O;cases q<;>cases r <;>
    (go_in
     go_upto_region 4 with(go_at_call 104;refine Z1 (l _) ?_);go_upto_region 5 with(go_at_call 104;refine Z1 (m _) ?_);go_wp2;go_ret;exact⟨by rw[d];rfl,R⟩)
  have C:4<s.size:=O;rw[rZ h]at d;have n:=λW=>xa ⟨#[113,114,98,110]⟩ WS s[4] W;obtain⟨u,g⟩:=Zo (Zm (0<=e_ uf s[4]));rw[g]at d;have i:Zm ((0:Int)<=e_ (⟨#[113,114,98,110]⟩:I4).data.toList s[4])=u:=g;generalize e_ (⟨#[113,114,98,110]⟩:I4).data.toList s[4]=B at n i;have o:((s.size:Int)!=4)=Zk:=Us;have p:((s.size:Int)!=5)=Zl:=Us;have D:((s.size:Int)==4)=Zl:=Us;have A:(4:Int)<(s.size:Int):=O;cases q<;>cases r<;>cases u <;>
   (go_in
    go_upto_region 4 with(go_at_call 104;refine Z1 (l _) ?_);go_upto_region 5 with(go_at_call 104;refine Z1 (m _) ?_);go_wp2_with(go_at_call 111;refine Z1 (n _) ?_);go_ret;exact⟨by rw[d];rfl,R⟩)
 have z:yn s=N:=by rw[yn,qF f]
 rw[z];have o:((s.size:Int)!=4)=Zk:=V3;have p:((s.size:Int)!=5)=Zk:=V3;go_in;go_wp2;exact WB
def Cf(fc:I5)(f t n k:Nat):cM fc f t n k=kB fc f t n k:=by unfold cM kB toB E6 pP;simp only[lS];cases Zm ((f:Int)=xY k)<;>cases Zm ((f:Int)=zD k)<;>cases Zm ((t:Int)=xY k)<;>cases Zm ((t:Int)=zD k)<;>rfl
def Es(wh:Bool){g:Int}(a:g<=65535):Ce wh g=kj wh g:=by grind[Ce,kj,qJ,qR,qE]
def Er(z:I2)(b:Int)(f t:Nat)(a:h<=65535):Cd z b f t h=kK z f t h:=by grind[Cd,kK,iQ,uP,dR,vE,qJ,qE,qR]
def Ev{t:Nat}(a:j9 z wh fc b f t u=Zk):oA z wh f t=vK z f t:=by
 unfold oA vK oZ AW;rw[dR];by_cases c:vE (z f)=0
 .rw[qJ c,Xc,Xc];unfold j9 at a;rw[qH,qI c]at a;have a:=a.2;unfold BD at a;have h:uI f t=xK wh\/(uI f t=2*xK wh/\f%8=t%8):=by
   by_cases i:xS (zI z) 0 (xK wh) (f:Int) (t:Int)=Zk
   .exact Zi (lW i)
   rw[qF i]at a;unfold DC at a;simp only[qH,Ym,qG]at a;obtain⟨⟨j,_⟩,g|g⟩:=a
   .exact Zi g
   exact Zj ⟨g.1.1,j⟩
  obtain e|⟨e,k⟩:=h
  .rw[e];cases wh<;>rfl
  cases wh
  .have d:uI f t=-2:=e;rw[d];show(f:Int)+8*xK Zl=(((f+t)/2:Nat):Int);unfold uI at d;unfold xK;simp only[qR,YH];omega
  have d:uI f t=2:=e;rw[d];show(f:Int)+8*xK Zk=(((f+t)/2:Nat):Int);unfold uI at d;unfold xK;simp only[YS];omega
 rw[qE c];rfl
def vi:(c_.info? 125).map (·.size)=S 3:=WR
def Du(x:Nat×Nat×UInt8):(z8 x).all (·.oneCell')=Zk:=by simp[z8,Value.oneCell']
def aa:c_.built 125 []=zC:=WR
def qkx(f t:Int):c_.built 125 [(0,f),(1,t)]=S #[I L f,I L t,I Zg 0]:=WR
def qq2(tmps:I0)(w:I6)(g:Nat)(A M Q:I0)(n:tmps.getD 4 m_=ZI g)(h:tmps.getD 5 m_=ZI (g+1))(i:tmps.getD 6 m_=ZI (g+2))(j:w.heap[g]?=Z A 70) (k:w.heap[g+1]?=Z M 125) (l:w.heap[g+2]?=Z Q 70) (a:A.size=72) (m:M.size=3) (q:Q.size=72):(results Tryz.f51 tmps).run c_ w=.ok (Ze #[A,M,Q,tmps.getD 7 m_]) w:=by
 have e:tmps[4]?.getD m_=ZI g:=by simpa using n
 have b:tmps[5]?.getD m_=ZI (g+1):=Vq;have d:tmps[6]?.getD m_=ZI (g+2):=by simpa using i
 simp[results,results51,e,b,d,asAddr,run_loadVar_row w g _ 70 A _ _ j s_ rfl (by rw[a];exact q9),run_loadVar_row w (g+1) _ 125 M _ _ k underlying125 rfl (by rw[m];exact vi),run_loadVar_row w (g+2) _ 70 Q _ _ l s_ rfl (by rw[q];exact q9)]
def o7{s:I4}(h:uX s=n):n<64:=by grind[uX]
def AX:∀c:UInt8,0<=e_ uf c->c∈U5:=vg WS
def mV{t:I4}(h:yn t=S (f,d,u)):dJ (t.extract 0 2)=(f:Int)/\dJ (t.extract 2 4)=(d:Int)/\f<64/\d<64/\u∈U5/\((t.size=4/\u=0)\/(∃h:t.size=5,u=t[4])):=by
 unfold yn at h;split at h
 case isFalse=>cases h
 case isTrue h45=>
  split at h
  case h_2=>cases h
  case h_1 a b ea eb=>
   split at h
   case isFalse=>cases h
   case isTrue hd=>
    injection h with h;injection h with h1 h;injection h with h2 h3;subst h1 h2;refine⟨by rw[dJ,ea],by rw[dJ,eb],o7 ea,o7 eb,?_,?_⟩
    .obtain e|e:=h45
     .rw[rc e]at h3;rw[<-h3];decide
     rw[rZ e]at h3 hd;rw[<-h3];exact AX _ (q8 hd)
    obtain e|e:=h45
    .rw[rc e]at h3;exact Zi ⟨e,h3.symm⟩
    rw[rZ e]at h3;exact Zj ⟨e,h3.symm⟩
structure T4(w:I6)(b1:Nat)(A:I0)(W:I6):Prop where
 r1:∃R,R.size=72/\W.heap[w.heap.size]?=S (Z R 70)
 r2:∃R,R.size=3/\W.heap[w.heap.size+1]?=S (Z R 125)
 r3:∃R,R.size=72/\W.heap[w.heap.size+2]?=S (Z R 70)
 gr:Gr w W
 p:W.heap[b1]?=S (Z A 70)
 lo:w.heap.size+2<b1
def T4.next{b:Nat}(h:T4 w b A W)(g:Gr W a):T4 w b A a:=by obtain⟨i,l,d⟩:=h.r1;obtain⟨j,m,e⟩:=h.r2;obtain⟨k,n,f⟩:=h.r3;exact⟨⟨i,l,(Zz g (xe d)).trans d⟩,⟨j,m,(Zz g (xe e)).trans e⟩,⟨k,n,(Zz g (xe f)).trans f⟩,o_ h.gr g,(Zz g (xe h.p)).trans h.p,h.lo⟩
def T4.put1{a:Nat}(h:T4 w a A W)(o:I0)(k:o.size=72):T4 w a A (W.setRow w o):=by obtain⟨m,n,g⟩:=h.r1;obtain⟨b,e,i⟩:=h.r2;obtain⟨d,f,j⟩:=h.r3;have l:=h.lo;exact⟨⟨o,k,Zt g⟩,⟨b,e,Od⟩,⟨d,f,Oc⟩,h.gr.setRow _ Zy _,VJ,l⟩
def T4.put2{a:Nat}(h:T4 w a A W)(o:I0)(k:o.size=3):T4 w a A (W.setRow (w+1) o):=by obtain⟨b,e,g⟩:=h.r1;obtain⟨m,n,i⟩:=h.r2;obtain⟨d,f,j⟩:=h.r3;have l:=h.lo;exact⟨⟨b,e,by rw[Zu O];exact g⟩,⟨o,k,Zt i⟩,⟨d,f,Oc⟩,h.gr.setRow _ O _,VJ,l⟩
def T4.put3{a:Nat}(h:T4 w a A W)(o:I0)(k:o.size=72):T4 w a A (W.setRow (w+2) o):=by obtain⟨b,e,g⟩:=h.r1;obtain⟨d,f,i⟩:=h.r2;obtain⟨m,n,j⟩:=h.r3;have l:=h.lo;exact⟨⟨b,e,by rw[Zu O];exact g⟩,⟨d,f,Od⟩,⟨o,k,Zt j⟩,h.gr.setRow _ O _,VJ,l⟩
def T4.far{a:Nat}(h:T4 w a A W)(B:Nat)(o:I0)(m:w+2<B)(n:B≠a):T4 w a A (W.setRow B o):=by obtain⟨b,f,j⟩:=h.r1;obtain⟨d,g,k⟩:=h.r2;obtain⟨e,i,l⟩:=h.r3;exact⟨⟨b,f,Oc⟩,⟨d,g,by rw[Zu O];exact k⟩,⟨e,i,by rw[Zu O];exact l⟩,h.gr.setRow _ O _,VJ,h.lo⟩
structure T5(w:I6)(b1:Nat)(A:I0)(B:Nat)(M:I0)(W:I6):Prop where
 t:T4 w b1 A W
 m:W.heap[B]?=S (Z M 125)
 lm:w.heap.size+2<B
 ne:B≠b1
def T5.next{b:Nat}(h:T5 w b A B M W)(g:Gr W a):T5 w b A B M a:=⟨h.t.next g,(Zz g (xe h.m)).trans h.m,h.lm,h.ne⟩
def T5.put1{a:Nat}(h:T5 w a A B M W)(d:I0)(b:d.size=72):T5 w a A B M (W.setRow w d):=⟨h.t.put1 d b,UO,h.lm,h.ne⟩
def T5.put2{a:Nat}(h:T5 w a A B M W)(d:I0)(b:d.size=3):T5 w a A B M (W.setRow (w+1) d):=⟨h.t.put2 d b,UO,h.lm,h.ne⟩
def T5.put3{a:Nat}(h:T5 w a A B M W)(d:I0)(b:d.size=72):T5 w a A B M (W.setRow (w+2) d):=⟨h.t.put3 d b,UO,h.lm,h.ne⟩
def T5.new{a:Nat}(h:T4 w a A W):T5 w a A W M ((W.alloc (Z zC 125)).setRow W M):=by have:=xe h.p;have:=h.lo;exact⟨h.next (ZN.setRow _ Zy _),Zt Zv,O,O⟩
def T5.turn{b:Nat}(h:T5 w b A B (z8 (f,d,0)) W)(u:UInt8):T5 w b A B (z8 (f,d,u)) (W.setCell ⟨B,2,N⟩ (I Zg u.toNat)):=by have a:Fr (λk _=>k≠B) W (W.setCell ⟨B,2,N⟩ (I Zg u.toNat)):=ZP.setCell _ (λo _ q=>q R);obtain⟨e,j,r⟩:=h.t.r1;obtain⟨g,l,v⟩:=h.t.r2;obtain⟨i,n,x⟩:=h.t.r3;have y:=h.lm;have ne:=h.ne;refine⟨⟨⟨e,j,a.same _ _ r O⟩,⟨g,l,a.same _ _ v O⟩,⟨i,n,a.same _ _ x O⟩,Yr h.t.gr (show w<=B from O) _,a.same _ _ h.t.p O,h.t.lo⟩,qv h.m,y,ne⟩
def T5.c0{a:Nat}{x:Nat×Nat×UInt8}(h:T5 w a A B (z8 x) W):W.cell? B=(x.1:Int):=VV
def T5.c1{a:Nat}{x:Nat×Nat×UInt8}(h:T5 w a A B (z8 x) W):W.cell? ⟨B,1,N⟩=(x.2.1:Int):=VV
def T5.c2{a:Nat}{x:Nat×Nat×UInt8}(h:T5 w a A B (z8 x) W):W.cell? ⟨B,2,N⟩=I Zg (x.2.2.toNat:Int):=VV
def pJ(s t:I4)(e:Ending):Prop:=
 (∃k P M Q,k≠0/\iO s t k/\P.size=72/\M.size=3/\Q.size=72/\P.all (·.oneCell')=Zk/\M.all (·.oneCell')=Zk/\Q.all (·.oneCell')=Zk/\e=Zd (Ze #[Zc P,Zc M,Zc Q,I L k]))\/(∃p x Q,xG s=S p/\xP p=Zk/\yn t=S x/\x∈xC (xM p) p.white p.castle p.behind/\jE (zE (xM p) p.behind x) (!p.white) (kB p.castle x.1 x.2.1 4) (vK (xM p) x.1 x.2.1) (kK (xM p) x.1 x.2.1 p.half) (kj p.white p.full) Q/\e=Zd (Ze #[Zc (jV p),Zc (z8 x),Zc Q,I L 0]))
def bT{g:Int}(e:kJ z wh fc b)(n:h<=65535)(l:g<=65535){t:Nat}(j:f<64)(k:t<64)(q:u∈U5)(a:vo z wh fc b f t u=Zk){Q:I0}(r:jE (ua z wh fc b f t u) (!wh) (cM fc f t 4) (oA z wh f t) (Cd z b f t h) (Ce wh g) Q):jE (zE z b (f,t,u)) (!wh) (kB fc f t 4) (vK z f t) (kK z f t h) (kj wh g) Q:=by unfold vo at a;rw[qH]at a;obtain⟨i,o,m,p,d⟩:=(qjy e j k q).1 a.1;rw[pC e o j k m p d,Ev a.1,Er _ _ _ _ n,Es _ l]at r;exact jE.castle r λi _=>Cf _ _ _ _ _
def eh(s t:I4)(hs:s.size<4294967281)(w:I6):i_ c_ 51 #[Zb s,Zb t] w λe w'=>pJ s t e/\Gr w w':=by
 obtain⟨y1,y2,y3,y4⟩:=jG w (Z b_ 70) (Z zC 125) (Z b_ 70);have G:Gr w (((w.alloc (Z b_ 70)).alloc (Z zC 125)).alloc (Z b_ 70)):=ZN.al.al;have h1:Y (∀W,i_ c_ 53 #[Zb s] W λe w'=>zA s e/\Gr W w'):=X (λW=>qvq s hs W);have a4:=X (λW=>cY t W);obtain⟨p,hr,F,d0⟩|⟨k,hk,b0,d0⟩:=xy s
 .have h2:Y (∀W,ZL 53 #[Zb s] W (Ze #[Zc (jV p),I L 0])):=X (λW=>(h1.a W).mono λe w' h=>⟨d0 e h.1,h.2⟩);have y:=jo hr;have g:=y.size;have r:=X (qx y);obtain⟨hC,a0,a1⟩:=Fp hr F;obtain⟨c0,c1,c2,c3⟩:=t7 F;have a6:Y (∀(f b:Nat)(u:UInt8),f<64->b<64->u∈U5->∀W,ZL 105 #[Zc (jV p),Zc (ZJ f b u)] W (Za (vo (xM p) p.white p.castle p.behind f b u))):=X λf b u i v H W=>qjj y hC a0 a1 c0 c1 c2 c3 f b i v u H W;have V:Y (∀(f b:Nat)(u:UInt8),f<64->b<64->u∈U5->∀W,i_ c_ 106 #[Zc (jV p),Zc (ZJ f b u)] W λe w'=>∃Q,e=Zd (Zc Q)/\jE (ua (xM p) p.white p.castle p.behind f b u) (!p.white) (cM p.castle f b 4) (oA (xM p) p.white f b) (Cd (xM p) p.behind f b p.half) (Ce p.white p.full) Q/\Gr W w'):=X λf b u i v H W=>qxg y f b i v u H c0 c1 c2 c3 W;have J:Y (yn t=N->pJ s t (Zd (Ze #[Zc (jV p),Zc zC,Zc (jV p),I L 1]))):=X (λe=>Zi ⟨1,_,_,_,WW,Zj (Zi ⟨R,p,hr,F,e⟩),g,R,g,r.a,vP,r.a,R⟩);have d2:Y (∀f b u,yn t=S (f,b,u)->f<64->b<64->u∈U5->vo (xM p) p.white p.castle p.behind f b u=Zl->pJ s t (Zd (Ze #[Zc (jV p),Zc (z8 (f,b,u)),Zc (jV p),I L 4]))):=X (λf b u e i v H q=>Zi ⟨4,_,_,_,WW,Zj (Zj ⟨R,p,_,hr,F,e,λhx=>by
   rw[(C8 hC a0 a1 i v H).2 ((je hC a0 a1 _).2 hx)]at q;cases q⟩),g,R,g,r.a,Du _,r.a,R⟩)
  have d1:Y (∀f b u,yn t=S (f,b,u)->f<64->b<64->u∈U5->vo (xM p) p.white p.castle p.behind f b u=Zk->∀Q,jE (ua (xM p) p.white p.castle p.behind f b u) (!p.white) (cM p.castle f b 4) (oA (xM p) p.white f b) (Cd (xM p) p.behind f b p.half) (Ce p.white p.full) Q->pJ s t (Zd (Ze #[Zc (jV p),Zc (z8 (f,b,u)),Zc Q,I L 0]))):=X (λf b u e i v H q Q hQ=>Zj ⟨p,_,Q,hr,F,e,(je hC a0 a1 _).1 ((C8 hC a0 a1 i v H).1 q),bT hC c1 c3 i v H q hQ,R⟩);generalize jV p=A at h2 g r a6 V J d2 d1;go_in;go_upto_region 1 with fail;show n_ _ _ _ _ (((w.alloc (Z b_ 70)).alloc (Z zC 125)).alloc (Z b_ 70));generalize (((w.alloc (Z b_ 70)).alloc (Z zC 125)).alloc (Z b_ 70))=w0 at y1 y2 y3 y4 G|-;go_upto_region 4 with(first|(go_at_call 53;refine Z0 (h2.a _) λn a3=>?_)|(refine ZC n.heap.size A Zv g r.a ?_));have a2:Gr n ((n.alloc (Z b_ 70)).setRow n.heap.size A):=((q_ n).alloc b_ 70).setRow n.heap.size Zy A;have j:T4 w n.heap.size A ((n.alloc (Z b_ 70)).setRow n.heap.size A):=by have hg:=o_ a3 a2;have c4:=ZR a3;exact⟨⟨_,xF,(Zz hg (xe y1)).trans y1⟩,⟨_,R,(Zz hg (xe y2)).trans y2⟩,⟨_,xF,(Zz hg (xe y3)).trans y3⟩,o_ G hg,Zt (Z7 n _),O⟩
  show n_ _ _ _ _ ((n.alloc (Z b_ 70)).setRow n.heap.size A);generalize (n.alloc (Z b_ 70)).setRow n.heap.size A=w4 at j|-;generalize n.heap.size=D at j|-;cases hm:yn t with
  | none=>
   have z:=X (J.a hm);rw[hm]at a4;go_upto_region 6 with(go_at_call 103;refine Z1 (a4.a _) ?_);have d:T4 w D A _:=j.next ZO.drew;refine ZT (S:=T4 w D A) WR d (λa=>?_);refine ty 0 (Zc A) R (zy g Vb _ R D R (λ_ h=>qy h.p)) a ?_;refine ty 1 (Zc zC) R (BB Vb 125 #[] R zC (by simp only[List.map_toArray,Wi];exact aa)) a ?_;refine ty 2 (Zc A) R (zy g Vb _ R D R (λ_ h=>qy h.p)) a ?_;refine rd 3 λK hK=>?_
   rw[qI Vb];obtain⟨R1,r1,r2⟩:=a.r1;refine YQ 70 _ _ R w.heap.size A R R 70 R1 r2 V5 (by rw[g,r1]) r.a ?_;refine hK.out _ _ (a.put1 A g) λa=>?_
   try simp only[py]
   refine rd 4 λK hK=>?_
   rw[qI Vb];obtain⟨R2,r3,r4⟩:=a.r2;refine YQ 125 _ _ R (w.heap.size+1) zC R R 125 R2 r4 vi (by rw[r3];rfl) vP ?_;refine hK.out _ _ (a.put2 zC R) λa=>?_
   try simp only[py]
   refine rd 5 λK hK=>?_
   rw[qI Vb];obtain⟨R3,r5,r6⟩:=a.r3;refine YQ 70 _ _ R (w.heap.size+2) A R R 70 R3 r6 V5 (by rw[g,r5]) r.a ?_;refine hK.out _ _ (a.put3 A g) λa=>?_
   try simp only[py]
   refine rd 6 λK hK=>?_
   go_simp;refine hK.out _ _ (a) λa=>?_
   try simp only[py]
   refine ZZ WR ?_ _;have P:=X a.gr;go_wp2;exact ZS (v:=Ze #[Zc A,Zc zC,Zc A,I L 1]) (qq2 _ _ w.heap.size A zC A R R R VK Ue (Zt r6) g R g) R ⟨z.a,P.a⟩
  | some x=>
   obtain⟨f,b,u⟩:=x;obtain⟨e1,e2,i,v,H,b2⟩:=mV hm;have k1:Y (∀W,i_ c_ 104 #[Zb (t.extract 0 2)] W λe w'=>e=Zd (I L f)/\w'=W):=X (λW=>by rw[<-e1];exact zb _ W);have k2:Y (∀W,i_ c_ 104 #[Zb (t.extract 2 4)] W λe w'=>e=Zd (I L b)/\w'=W):=X (λW=>by rw[<-e2];exact zb _ W);have M:=X (a6.a f b u i v H);have a5:=X (V.a f b u i v H);have h4:=X (d2.a f b u hm i v H);have b1:=X (d1.a f b u hm i v H);rw[hm]at a4;have l4:(4:Int)<=(t.size:Int):=by rcases b2 with⟨e,_⟩|⟨e,_⟩<;>omega
   have E:=X b2;generalize vo (xM p) p.white p.castle p.behind f b u=LG at M h4 b1;go_upto_region 7 with(go_at_call 103;refine Z1 (a4.a _) ?_);go_cut [11]from 13 (λb3 wx=>∃B,b3=ZI B/\T5 w D A B (z8 (f,b,0)) wx)
   case first=>
    have T:T4 w D A w4.drew:=j.next ZO.drew;refine ZT (S:=T4 w D A) WR T (λa=>?_);refine tq 0 (Zb t) a ?_;refine ZB 1 (Zb (t.extract 0 2)) R (λw' o=>by go_simp;try(intro hx;omega)) a ?_;refine tq 3 (Zb t) a ?_;refine ZB 4 (Zb (t.extract 2 4)) R (λw' o=>by go_simp;try(intro hx;omega)) a ?_;refine Xk (rs:=[2,7]) WR WU ?_;refine Yc R (λK hK=>?_) (Yc R (λK hK=>?_) Xb)
    .go_simp;refine Z1 (k1.a _) ?_;refine hK.out _ _ a λa=>?_
     try simp only[py]
     refine Xk (rs:=[5,7]) WR WU ?_;refine Yc R (λK hK=>?_) (Yc R (λK hK=>?_) Xb)
     .go_simp;refine Z1 (k2.a _) ?_;refine hK.out _ _ a λa=>?_
      try simp only[py]
      refine ty 6 (Zc (z8 (f,b,0))) R (BB Vb 125 #[(0,.tmp 33),(1,.tmp 36)] R (z8 (f,b,0)) V6) a ?_;refine rd 7 λK hK=>?_
      go_simp;refine hK.out _ _ (a.next ZN) λa=>?_
      try simp only[py]
      refine rd 8 λK hK=>?_
      rw[qI Vb];refine YQ 125 _ _ R w4.heap.size (z8 (f,b,0)) R R 125 zC Zv vi R (Du _) ?_;refine hK.out _ _ (a.far w4.heap.size _ U7 (Nat.ne_of_gt (xe j.p))) λa=>?_
      try simp only[py]
      refine ZZ WR ?_ _;go_wp2;go_meet
      case rel=>exact⟨_,R,T5.new T⟩
     go_simp;refine hK.out _ _ (a.next ZN) λa=>?_
     try simp only[py]
     refine rd 5 λK hK=>?_
     go_simp;refine Z1 (k2.a _) ?_;refine hK.out _ _ a λa=>?_
     try simp only[py]
     refine ty 6 (Zc (z8 (f,b,0))) R (BB Vb 125 #[(0,.tmp 33),(1,.tmp 36)] R (z8 (f,b,0)) V6) a ?_;refine rd 8 λK hK=>?_
     rw[qI Vb];refine YQ 125 _ _ R w4.heap.size (z8 (f,b,0)) R R 125 zC Zv vi R (Du _) ?_;refine hK.out _ _ (a.far w4.heap.size _ U7 (Nat.ne_of_gt (xe j.p))) λa=>?_
     try simp only[py]
     refine ZZ WR ?_ _;go_wp2;go_meet
     case rel=>exact⟨_,R,T5.new T⟩
    go_simp;refine hK.out _ _ (a.next ZN) λa=>?_
    try simp only[py]
    refine rd 2 λK hK=>?_
    go_simp;refine Z1 (k1.a _) ?_;refine hK.out _ _ a λa=>?_
    try simp only[py]
    refine rd 5 λK hK=>?_
    go_simp;refine Z1 (k2.a _) ?_;refine hK.out _ _ a λa=>?_
    try simp only[py]
    refine ty 6 (Zc (z8 (f,b,0))) R (BB Vb 125 #[(0,.tmp 33),(1,.tmp 36)] R (z8 (f,b,0)) V6) a ?_;refine rd 8 λK hK=>?_
    rw[qI Vb];refine YQ 125 _ _ R w4.heap.size (z8 (f,b,0)) R R 125 zC Zv vi R (Du _) ?_;refine hK.out _ _ (a.far w4.heap.size _ U7 (Nat.ne_of_gt (xe j.p))) λa=>?_
    try simp only[py]
    refine ZZ WR ?_ _;go_wp2;go_meet
    case rel=>exact⟨_,R,T5.new T⟩
   case rest=>
    obtain⟨B,rfl,l⟩:=hcut;obtain⟨q5,a7⟩:=Zo ((t.size:Int)==5);go_upto_if 40 with fail;go_cut [11]from 41 to 43 (λb3 wx=>b3=ZI B/\T5 w D A B (z8 (f,b,u)) wx)
    case first=>
     cases q5
     .have a9:u=0:=by
       obtain⟨e,H⟩|⟨e,H⟩:=E.a
       .exact H
       rw[e]at a7;cases a7
      subst a9;have b4:=X l;go_wp2;go_meet
      case rel=>exact⟨R,b4.a⟩
     have c5:4<t.size:=(by have:=q8 a7;omega);have a9:u=t[4]:=by
      obtain⟨e,H⟩|⟨e,H⟩:=E.a
      .omega
      exact H
     have c2:=l.c2;have c6:_:=xr (i:=2) l.m;have l5:(4:Int)<(t.size:Int):=O
     have hn:=X (l.turn u);rw[a9]at hn;go_wp2;go_meet
     case rel=>exact⟨R,by rw[a9];exact hn.a⟩
    case rest=>
     obtain⟨rfl,l⟩:=hcut;have c0:=l.c0;have c1:=l.c1;have c2:=l.c2;have y:=X (vF l.t.p)
     go_upto_region 11 with(first|(go_at_call 105;refine Z0 (M.a _) λw8 b5=>?_)|(refine ql Vb _ R D R g y.a ?_));have l:=l.next b5;cases LG
     .have z:=X (h4.a R);go_upto_region 12 with fail;have d:T5 w D A B (z8 (f,b,u)) _:=l.next ZO.drew;refine ZT (S:=T5 w D A B (z8 (f,b,u))) WR d (λa=>?_);refine ty 0 (Zc A) R (zy g Vb _ R D R (λ_ h=>qy h.t.p)) a ?_;refine ZB 1 (Zc (z8 (f,b,u))) R (λw' o=>V1) a ?_;refine ty 2 (Zc A) R (zy g Vb _ R D R (λ_ h=>qy h.t.p)) a ?_;refine rd 3 λK hK=>?_
      rw[qI Vb];obtain⟨R1,r1,r2⟩:=a.t.r1;refine YQ 70 _ _ R w.heap.size A R R 70 R1 r2 V5 (by rw[g,r1]) r.a ?_;refine hK.out _ _ (a.put1 A g) λa=>?_
      try simp only[py]
      refine rd 4 λK hK=>?_
      rw[qI Vb];obtain⟨R2,r3,r4⟩:=a.t.r2;refine YQ 125 _ _ R (w.heap.size+1) (z8 (f,b,u)) R R 125 R2 r4 vi (by rw[r3];rfl) (Du _) ?_;refine hK.out _ _ (a.put2 (z8 (f,b,u)) R) λa=>?_
      try simp only[py]
      refine rd 5 λK hK=>?_
      rw[qI Vb];obtain⟨R3,r5,r6⟩:=a.t.r3;refine YQ 70 _ _ R (w.heap.size+2) A R R 70 R3 r6 V5 (by rw[g,r5]) r.a ?_;refine hK.out _ _ (a.put3 A g) λa=>?_
      try simp only[py]
      refine rd 6 λK hK=>?_
      go_simp;refine hK.out _ _ (a) λa=>?_
      try simp only[py]
      refine ZZ WR ?_ _;have P:=X a.t.gr;go_wp2;exact ZS (v:=Ze #[Zc A,Zc (z8 (f,b,u)),Zc A,I L 4]) (qq2 _ _ w.heap.size A (z8 (f,b,u)) A R R R VK Ue (Zt r6) g R g) R ⟨z.a,P.a⟩
     have h0:=X (b1.a R);go_upto_region 13 with fail;have d:T5 w D A B (z8 (f,b,u)) _:=l.next ZO.drew;refine ZT (S:=T5 w D A B (z8 (f,b,u))) WR d (λa=>?_);refine ty 0 (Zc A) R (zy g Vb _ R D R (λ_ h=>qy h.t.p)) a ?_;refine ZB 1 (Zc (z8 (f,b,u))) R (λw' o=>V1) a ?_;refine ty 2 (Zc A) R (zy g Vb _ R D R (λ_ h=>qy h.t.p)) a ?_;refine ZB 3 (Zc (z8 (f,b,u))) R (λw' o=>V1) a ?_;refine rd 4 λK hK=>?_
     go_simp;refine(a5.a _).mono ?_;rintro e wb ⟨Q,rfl,hQ,b6⟩;have a8:=hQ.size;have b7:=qx hQ;have z:=X (h0.a Q hQ);refine hK.out _ _ (a.next b6) λa=>?_
     try simp only[py]
     refine rd 5 λK hK=>?_
     rw[qI Vb];obtain⟨R1,r1,r2⟩:=a.t.r1;refine YQ 70 _ _ R w.heap.size A R R 70 R1 r2 V5 (by rw[g,r1]) r.a ?_;refine hK.out _ _ (a.put1 A g) λa=>?_
     try simp only[py]
     refine rd 6 λK hK=>?_
     rw[qI Vb];obtain⟨R2,r3,r4⟩:=a.t.r2;refine YQ 125 _ _ R (w.heap.size+1) (z8 (f,b,u)) R R 125 R2 r4 vi (by rw[r3];rfl) (Du _) ?_;refine hK.out _ _ (a.put2 (z8 (f,b,u)) R) λa=>?_
     try simp only[py]
     refine rd 7 λK hK=>?_
     rw[qI Vb];obtain⟨R3,r5,r6⟩:=a.t.r3;refine YQ 70 _ _ R (w.heap.size+2) Q R R 70 R3 r6 (by rw[a8];exact q9) (by rw[a8,r5]) b7 ?_;refine hK.out _ _ (a.put3 Q a8) λa=>?_
     try simp only[py]
     refine rd 8 λK hK=>?_
     go_simp;refine hK.out _ _ (a) λa=>?_
     try simp only[py]
     refine ZZ WR ?_ _;have P:=X a.t.gr;go_wp2;exact ZS (v:=Ze #[Zc A,Zc (z8 (f,b,u)),Zc Q,I L 0]) (qq2 _ _ w.heap.size A (z8 (f,b,u)) Q R R R VK Ue (Zt r6) g R a8) R ⟨z.a,P.a⟩
 have h2:Y (∀W,ZL 53 #[Zb s] W (Ze #[Zc b_,I L k])):=X (λW=>(h1.a W).mono λe w' h=>⟨d0 e h.1,h.2⟩);have z:Y (pJ s t (Zd (Ze #[Zc b_,Zc zC,Zc b_,I L k]))):=X (Zi ⟨k,_,_,_,hk,Zi b0,xF,R,xF,xH,vP,xH,R⟩);have k2:(k !=0)=Zk:=Oo;go_in;go_upto_region 1 with fail;show n_ _ _ _ _ (((w.alloc (Z b_ 70)).alloc (Z zC 125)).alloc (Z b_ 70));generalize (((w.alloc (Z b_ 70)).alloc (Z zC 125)).alloc (Z b_ 70))=w0 at y1 y2 y3 y4 G|-;go_upto_region 3 with(first|(go_at_call 53;refine Z0 (h2.a _) λn a3=>?_)|(refine ZC n.heap.size b_ Zv xF xH ?_));have a2:Gr n ((n.alloc (Z b_ 70)).setRow n.heap.size b_):=((q_ n).alloc b_ 70).setRow n.heap.size Zy _;have j:T4 w n.heap.size b_ ((n.alloc (Z b_ 70)).setRow n.heap.size b_):=by have hg:=o_ a3 a2;have c4:=ZR a3;exact⟨⟨_,xF,(Zz hg (xe y1)).trans y1⟩,⟨_,R,(Zz hg (xe y2)).trans y2⟩,⟨_,xF,(Zz hg (xe y3)).trans y3⟩,o_ G hg,Zt (Z7 n _),O⟩
 show n_ _ _ _ _ ((n.alloc (Z b_ 70)).setRow n.heap.size b_);generalize (n.alloc (Z b_ 70)).setRow n.heap.size b_=w4 at j|-;generalize n.heap.size=D at j|-;have g:=xF;have d:T4 w D b_ _:=j.next ZO.drew;refine ZT (S:=T4 w D b_) WR d (λa=>?_);refine ty 0 (Zc b_) R (zy g Vb _ R D R (λ_ h=>qy h.p)) a ?_;refine ty 1 (Zc zC) R (BB Vb 125 #[] R zC (by simp only[List.map_toArray,Wi];exact aa)) a ?_;refine ty 2 (Zc b_) R (zy g Vb _ R D R (λ_ h=>qy h.p)) a ?_;refine tq 3 (I L k) a ?_;refine rd 4 λK hK=>?_;rw[qI Vb];obtain⟨R1,r1,r2⟩:=a.r1;refine YQ 70 _ _ R w.heap.size b_ rfl R 70 R1 r2 V5 (by rw[g,r1]) xH ?_;refine hK.out _ _ (a.put1 b_ g) λa=>?_;try simp only[py]
 refine rd 5 λK hK=>?_;rw[qI Vb];obtain⟨R2,r3,r4⟩:=a.r2;refine YQ 125 _ _ R (w.heap.size+1) zC R R 125 R2 r4 vi (by rw[r3];rfl) vP ?_;refine hK.out _ _ (a.put2 zC R) λa=>?_;try simp only[py]
 refine rd 6 λK hK=>?_;rw[qI Vb];obtain⟨R3,r5,r6⟩:=a.r3;refine YQ 70 _ _ R (w.heap.size+2) b_ rfl R 70 R3 r6 V5 (by rw[g,r5]) xH ?_;refine hK.out _ _ (a.put3 b_ g) λa=>?_;try simp only[py]
 refine rd 7 λK hK=>?_;go_simp;refine hK.out _ _ (a) λa=>?_;try simp only[py]
 refine ZZ WR ?_ _;have P:=X a.gr;go_wp2;exact ZS (v:=Ze #[Zc b_,Zc zC,Zc b_,I L k]) (qq2 _ _ w.heap.size b_ zC b_ rfl R R VK Ue (Zt r6) g R g) R ⟨z.a,P.a⟩
def GK:∀c:UInt8,vG c=(Zm (vE c=1)||decide (vE c=2)):=vg WS
def fO(c:UInt8):Bool:=Zm (vE c=0)||decide (vE c=3)||decide (vE c=4)
def rT:∀c:UInt8,ew c=Zk->(yB c||vG c)=!fO c:=vg WS
def GQ(c:UInt8):vE c=-1\/vE c=0\/vE c=1\/vE c=2\/vE c=3\/vE c=4\/vE c=5:=by have:=rn c;unfold vE;split<;>omega
def lK(z:I2)(k:Nat):Nat:=((h_ k).filter λi=>fO (z i)).length
def sy(z:I2)(k:Nat):lK z (k+1)=lK z k+if fO (z k)then 1 else 0:=by unfold lK;rw[YI,YJ,qZ];cases h:fO (z k)<;>simp[h]
def Ec(z:I2)(k:Nat):lK z k<=k:=by have:=Y8 (λi=>fO (z i)) (h_ k);unfold lK;exact OY
def tS(b:xO z=Zk):uw z=(Zm (((lK z 64:Nat):Int)=0)&&Zm (((ws z 64:Nat):Int)<=1)):=by
 by_cases h:∀j,j<64->(yB (z j)||vG (z j))=Zk
 .have f:lK z 64=0:=by rw[lK,Yz,X1];intro i d;have d:=qK.1 d;have:=rT (z i) (ji b d);rw[h i d]at this;intro e;rw[e]at this;cases this
  rw[tU h,qJ (show((lK z 64:Nat):Int)=0 from O)];rfl
 have:∃j,j<64/\(yB (z j)||vG (z j))=Zl:=by
  refine Xd λg=>h λj a=>?_;cases e:(yB (z j)||vG (z j))with
  | true=>rfl
  | false=>exact w_ ⟨j,a,e⟩ g
 obtain⟨j,a,e⟩:=this;have l:lK z 64≠0:=by
  unfold lK;intro f;rw[Yz,X1]at f;have:=rT (z j) (ji b a);rw[e]at this;apply f j (qK.2 a);cases k:fO (z j)with
  | true=>rfl
  | false=>rw[k]at this;cases this
 rw[tT a e,qE (show ¬((lK z 64:Nat):Int)=0 from O)];rfl
def CP(a:xO z=Zk)(d:0<=xR z wh)(e:xR z wh<=63):kz z wh=zM z (xR z wh) (!wh):=by grind[xR,kz,xu]
structure Ss(w:I6)(PA:I0)(n:Int)(W:I6):Prop where
 pa:W.heap[w.heap.size]?=S (Z PA 70)
 rs:W.heap[w.heap.size+1]?=S (Z (xB Zl 0 0) 186)
 st:∃c,W.heap[w.heap.size+2]?=S (Z (xB c n 0) 186)
 gr:Gr w W
def Ss.next{n:Int}(h:Ss w PA n W)(g:Gr W a):Ss w PA n a:=by obtain⟨c,b⟩:=h.st;exact⟨ZE g h.pa,ZE g h.rs,⟨c,ZE g b⟩,o_ h.gr g⟩
def Ss.set{n:Int}(h:Ss w PA n W)(v:Bool):Ss w PA n (W.setCell ⟨w+2,0,N⟩ v):=by obtain⟨c,b⟩:=h.st;have a:Fr (λk _=>k≠w.heap.size+2) W (W.setCell ⟨w+2,0,N⟩ v):=ZP.setCell _ (λo _ q=>q R);exact⟨a.same _ _ h.pa O,a.same _ _ h.rs O,⟨v,qv b⟩,Yr h.gr (show w<=w.heap.size+2 from O) _⟩
def oy(w:I6)(PA:I0):Ss w PA 0 ((((w.alloc (Z PA 70)).alloc (Z (xB Zl 0 0) 186)).alloc (Z (xB Zl 0 0) 186)).setRow (w+2) (xB Zl 0 0)):=by obtain⟨a,b,d,e⟩:=jG w (Z PA 70) (Z (xB Zl 0 0) 186) (Z (xB Zl 0 0) 186);exact⟨by rw[Zu O];exact a,by rw[Zu O];exact b,⟨Zl,Zt d⟩,ZN.al.al.setRow _ O _⟩
def Ss.num(h:Ss w PA 0 W)(n:Int):Ss w PA n (W.setCell ⟨w+2,1,N⟩ n):=by obtain⟨c,b⟩:=h.st;have a:Fr (λk _=>k≠w.heap.size+2) W (W.setCell ⟨w+2,1,N⟩ n):=ZP.setCell _ (λo _ q=>q R);exact⟨a.same _ _ h.pa O,a.same _ _ h.rs O,⟨c,qv b⟩,Yr h.gr (show w<=w.heap.size+2 from O) _⟩
def eL{g:Int}(r:jE z wh fc b h g PA)(hC:kJ z wh fc b)(g4:-1<=b)(g5:b<=63)(h0:0<=h)(h1:h<=65535)(g0:0<=g)(g1:g<=65535)(k0:0<=xR z wh)(k1:xR z wh<=63)(w:I6):ZL 112 #[PA] w (bx z wh fc b):=by
 have hz:=r.size;have a2:=X (λW=>Dv r W);obtain⟨qs,qA⟩:=FN r;have D:Y (∀W:I6,i_ c_ 54 #[PA] W λe w'=>∃v,e=Zd v/\np W v (yY z wh fc b) w'/\Gr W w'):=X λW=>ai r hC g4 g5 h0 h1 g0 g1 W;have A:(yY z wh fc b).length=(xC z wh fc b).length:=by rw[qk3 hC g4 g5];exact(xq _).length_eq
 have P:(xC z wh fc b).length<=20480:=by rw[<-A];exact iW _ _ _ _ 64
 have g3:Y (∀W:I6,ZL 193 #[(PA.toList.take 64).toArray,xK wh] W (xR z wh)):=X λW=>qzo _ _ qA wh W;have f8:Y (∀W:I6,ZL 192 #[(PA.toList.take 64).toArray,xR z wh,xK (!wh)] W (kz z wh)):=X λW=>by rw[CP hC.ok k0 k1];exact ju _ _ qs qA _ k0 k1 (!wh) W
 have b4:Y (a_ L (-(xK wh))=xK (!wh)):=X Vn;have p:Y (bx z wh fc b=xB (kz z wh) ((xC z wh fc b).length:Int) (yO z (kz z wh) ((xC z wh fc b).length:Int))):=X R;have a:=X (tS hC.ok);have b5:=X (λi hi=>r.sq i hi);have J:=oy w PA;rw[<-A]at p P;generalize bx z wh fc b=V at p|-;generalize xR z wh=y at g3 f8 k0 k1;generalize kz z wh=f at f8 p;generalize yY z wh fc b=ys at D A p P;clear r hC g4 g5 h0 h1 g0 g1 qs qA A;unfold ZL;go_in;go_upto_region 2 with(refine ZU R 186 _ _ R (w+2) (xB Zl 0 0) R R 186 (xB Zl 0 0) (jG w _ _ _).2.2.1 vI R (xw _ _ _) ?_);show n_ _ _ _ _ ((((w.alloc (Z PA 70)).alloc (Z (xB Zl 0 0) 186)).alloc (Z (xB Zl 0 0) 186)).setRow (w+2) (xB Zl 0 0));generalize ((((w.alloc (Z PA 70)).alloc (Z (xB Zl 0 0) 186)).alloc (Z (xB Zl 0 0) 186)).setRow (w+2) (xB Zl 0 0))=w2 at J|-;have Q:=X (qy J.pa);go_upto_region 3 with(first|(go_at_call 54;refine(D.a _).mono ?_;rintro e w3 ⟨v,rfl,b3,a4⟩;obtain⟨pp,cap,rfl,f0,d5⟩:=bt b3;clear d5 b3)|(refine ql Vb _ R w R hz Q.a ?_));have T:=J.next a4;obtain⟨c3,g6⟩:=T.st;have d1:w3.cell? ⟨w+2,1,N⟩=I L 0:=by rw[qn g6];rfl
 have d2:w3.frozen? ⟨w+2,1,N⟩=Zl:=xr g6;have f9:=T.num ((ys.length:Nat):Int);clear J a4 Q D T g6;go_upto_region 4 with fail;generalize w3.setCell ⟨w+2,1,N⟩ ((ys.length:Nat))=w4 at f9|-;clear d1 d2;generalize ((ys.length:Nat):Int)=n at f9 p;have x:=f9.next ZO.drew;refine ZT (S:=Ss w PA n) WR x (λj=>?_);clear x f9;refine tq 0 (ZI w) j ?_;refine ty 1 ((PA.toList.take 64).toArray) R (DB hz Vb _ R w R (λ_ h=>qy h.pa)) j ?_;refine tq 2 (ZI w) j ?_;refine ty 3 ((PA.toList.take 64).toArray) R (DB hz Vb _ R w R (λ_ h=>qy h.pa)) j ?_;refine ty 4 PA R (zy hz Vb _ R w R (λ_ h=>qy h.pa)) j ?_;refine ty 7 PA R (zy hz Vb _ R w R (λ_ h=>qy h.pa)) j ?_;refine rd 5 λK hK=>?_;go_simp;refine Z0 (a2.a _) λf5 a5=>?_;refine hK.out _ _ (j.next a5) λj=>?_;clear hK K;try simp only[py]
 refine rd 6 λK hK=>?_;go_simp;refine Z0 (g3.a _) λf6 a6=>?_;refine hK.out _ _ (j.next a6) λj=>?_;clear hK K;try simp only[py]
 refine rd 8 λK hK=>?_;go_simp;refine Z0 (a2.a _) λf7 a7=>?_;refine hK.out _ _ (j.next a7) λj=>?_;clear hK K;try simp only[py]
 refine ZB 9 (xK (!wh)) R (λw _=>by go_simp;exact b4.a) j ?_;refine rd 10 λK hK=>?_;go_simp;refine Z0 (f8.a _) λg2 a8=>?_;refine hK.out _ _ (j.next a8) λj=>?_;clear hK K;try simp only[py]
 refine tq 11 (ZI (w+2)) j ?_;refine rd 12 λK hK=>?_;obtain⟨c,hc⟩:=j.st;have d0:g2.cell? ⟨w+2,0,N⟩=Za c:=by rw[qn hc];rfl
 have d1:g2.frozen? ⟨w+2,0,N⟩=Zl:=xr hc;go_simp;refine hK.out _ _ (j.set f) λj=>?_;clear hK K;try simp only[py]
 refine ZZ WR ?_ _;have d:(g2.setCell ⟨w+2,0,N⟩ f).heap[w.heap.size+2]?=Z (xB f n 0) 186:=qv hc;have u:=j;clear j d0 d1 hc a2 g3 f8 b4 k0 k1;generalize g2.setCell ⟨w+2,0,N⟩ f=H at d u|-;have a3:Y (∀k,k<64->H.cell? ⟨w,k,N⟩=I Zg (z k).toNat):=X λk hk=>by rw[qn u.pa];exact b5.a k hk
 have c0:H.cell? ⟨w+2,0,N⟩=Za f:=by rw[qn d];rfl
 have c1:H.cell? ⟨w+2,1,N⟩=I L n:=by rw[qn d];rfl
 have c2:H.cell? ⟨w+2,2,N⟩=I L 0:=by rw[qn d];rfl
 have f2:H.frozen? ⟨w+2,2,N⟩=Zl:=xr d;have F:=X d;have B:=X u.rs;have g7:=X u.gr;have G:Y (∀o:Int,(H.setCell ⟨w+2,2,N⟩ o).heap[w.heap.size+2]?=Z (xB f n o) 186):=X λo=>qv d;have m:Y (∀o:Int,(H.setCell ⟨w+2,2,N⟩ o).heap[w.heap.size+1]?=Z (xB Zl 0 0) 186):=X λo=>by have fs:Fr (λk _=>k≠w.heap.size+2) H (H.setCell ⟨w+2,2,N⟩ o):=ZP.setCell _ (λo _ q=>q R);exact fs.same _ _ u.rs O
 have E:Y (∀o:Int,Gr w (H.setCell ⟨w+2,2,N⟩ o)):=X λo=>Yr u.gr (show w<=w.heap.size+2 from O) _;clear u d b5;go_wp2;go_loopg [5,6,7] 64 (λg l hv i wr=>∃k:Nat,k+g=64/\i=k/\l=(ws z k:Nat)/\hv=(lK z k:Nat)/\wr=H)
 case atStart=>exact⟨0,R,R,R,R,R⟩
 case round=>
  obtain⟨k,k1,rfl,rfl,rfl,b6⟩:=hrel;have b7:=b6.symm;subst b7;clear b6;by_cases b0:k<64
  .have f1:=a3.a k b0;have f3:0<=(k:Int):=O;have f4:(k:Int)<64:=O;have b1:=EH z k;have b2:=Ec z k;have hl:=sU z k;have hh:=sy z k;have a9:=X (λW=>zp (z k) W);rw[GK]at hl;unfold fO at hh;rcases GQ (z k)with e|e|e|e|e|e|e;all_goals
    rw[e]at hl hh a9;simp at hl hh;have d3:=X hl;have c6:=X hh;clear hl hh e p a c0 c1 c2 f2;go_wp2_with(go_at_call 107;refine Z0 (a9.a _) λw' hw=>?_;have d4:=hw.symm;subst d4;clear hw);go_roundg (gk-1)
    case measure=>omega
    case rel=>exact⟨k+1,O,Vg,by rw[d3.a]<;>go_num,by rw[c6.a]<;>go_num,R⟩
  .have ek:k=64:=O;subst ek;clear b0 a3;obtain⟨x1,c4⟩:=Zo (((lK z 64:Nat):Int)==0);obtain⟨x2,c5⟩:=Zo (Zm (((ws z 64:Nat):Int)<=1));obtain⟨n0,a1⟩:=Zo (n==0);have a0:Y (uw z=(x1&&x2)):=X (by rw[a.a,c5,<-c4];rfl);cases n0
   .have en:Y (¬n=0):=X (by intro h;rw[h]at a1;cases a1);cases x1
    .exact WK
    .cases x2
     .exact WK
     .skip;have M:Y (V=xB f n 3):=X Uj;clear p a;go_wp2_with(first|(refine ZV R 186 _ R (w+2) R 186 (xB f n 3) (0,0) _ (G.a 3) underlying186 rfl vI ?_)|(refine ZU R 186 _ _ R (w+1) (xB f n 3) R R 186 (xB Zl 0 0) (m.a 3) vI R (xw _ _ _) ?_));exact ZS (v:=(xB f n 3)) (Yp results112 _ _ (w+1) 186 (xB f n 3) (0,0) _ R (Zt (m.a 3)) underlying186 rfl vI) R ⟨by rw[M.a],Gr.setRow (E.a 3) _ O _⟩
   .have en:Y (n=0):=X (by simpa using a1);clear c4 c5;cases f
    .skip;have M:Y (V=xB Zl n 2):=X (by rw[p.a];unfold yO;rw[qI en.a];rfl);clear p a;go_wp2_with(first|(refine ZV R 186 _ R (w+2) R 186 (xB Zl n 2) (0,0) _ (G.a 2) underlying186 rfl vI ?_)|(refine ZU R 186 _ _ R (w+1) (xB Zl n 2) R R 186 (xB Zl 0 0) (m.a 2) vI R (xw _ _ _) ?_));exact ZS (v:=(xB Zl n 2)) (Yp results112 _ _ (w+1) 186 (xB Zl n 2) (0,0) _ R (Zt (m.a 2)) underlying186 rfl vI) R ⟨by rw[M.a],Gr.setRow (E.a 2) _ O _⟩
    .skip;have M:Y (V=xB Zk n 1):=X (by rw[p.a];unfold yO;rw[qI en.a];rfl);clear p a;go_wp2_with(first|(refine ZV R 186 _ R (w+2) R 186 (xB Zk n 1) (0,0) _ (G.a 1) underlying186 rfl vI ?_)|(refine ZU R 186 _ _ R (w+1) (xB Zk n 1) R R 186 (xB Zl 0 0) (m.a 1) vI R (xw _ _ _) ?_));exact ZS (v:=(xB Zk n 1)) (Yp results112 _ _ (w+1) 186 (xB Zk n 1) (0,0) _ R (Zt (m.a 1)) underlying186 rfl vI) R ⟨by rw[M.a],Gr.setRow (E.a 1) _ O _⟩
def qA(A:I0)(d n:Int):I0:=A++#[I L d,I L n]
def F_(g n:Nat):I7:=Zq (S g) n n
structure Mq(g n:Nat)(Q:I0)(b2 b3:Nat)(w W:I6):Prop where
 m:W.heap[b2]?=S (Z #[F_ g n] 56)
 q:W.heap[b3]?=S (Z Q 117)
 gr:Gr w W
def Mq.next{Q:I0}{b:Nat}(h:Mq g n Q b d w W)(k:Gr W a):Mq g n Q b d w a:=⟨(Zz k (xe h.m)).trans h.m,(Zz k (xe h.q)).trans h.q,o_ h.gr k⟩
def Mq.c{Q:I0}{a b:Nat}(h:Mq g n Q a b w W):W.cell? a=F_ g n:=by rw[qn h.m];rfl
structure Ms(g n:Nat)(Q S:I0)(b2 b3:Nat)(w W:I6):Prop where
 mq:Mq g n Q b2 b3 w W
 s:W.heap[g]?=some (Z S 168)
def Ms.next{Q S:I0}{b:Nat}(h:Ms g n Q S b d w W)(k:Gr W a):Ms g n Q S b d w a:=⟨h.mq.next k,(Zz k (xe h.s)).trans h.s⟩
def Ms.put{Q S:I0}{a b:Nat}(h:Ms g n Q S a b w W)(e:B≠g)(f:B≠a)(i:B≠b)(d:w<=B)(j:I0):Ms g n Q S a b w (W.setRow B j):=⟨⟨by rw[Zu O];exact h.mq.m,by rw[Zu O];exact h.mq.q,h.mq.gr.setRow _ d _⟩,by rw[Zu O];exact h.s⟩
def xA(f:Nat):UInt8:=j_ (97+f%8)
def xI(f:Nat):UInt8:=j_ (49+f/8)
theorem zF(f:Nat):xQ f=[xA f,xI f]:=R
def vz(c:UInt8):UInt8:=if 97<=c/\c<=122 then c-32 else c
def kX(i:Nat):UInt8:=[80,78,66,82,81,75].getD i 0
def jX(M:List Mv)(z:I2)(f t:Nat):List Mv:=M.filter λy=>Zm (y.2.1=t)&&!decide (y.1=f)&&Zm (z y.1=z f)
def iT(L:List Mv)(f:Nat):I1:=if L.isEmpty=Zk then[]else if L.all (λy=>!decide (y.1%8=f%8))=Zk then[xA f]else if L.all (λy=>!decide (y.1/8=f/8))=Zk then[xI f]else xQ f
def z7(f t:Nat)(u:UInt8):I1:=(if f%8=t%8 then[]else[xA f,120])++xQ t++(if u=0 then[]else[61,vz u])
def zQ(M:List Mv)(z:I2)(f t:Nat):I1:=vz (z f)::(iT (jX M z f t) f++(if z t=46 then[]else[120])++xQ t)
def jR(M:List Mv)(z:I2)(x:Mv):I1:=
 if jA (z x.1)=Zk/\x.2.1=x.1+2 then[79,45,79]else if jA (z x.1)=Zk/\x.2.1+2=x.1 then[79,45,79,45,79]
 else if jD (z x.1)=Zk then z7 x.1 x.2.1 x.2.2 else zQ M z x.1 x.2.1
def oQ:∀c:UInt8,Lib.upperB c=vz c:=by have:∀n,n<256->Lib.upperB (j_ n)=vz (j_ n):=WS;intro c;have:=this c.toNat (by have:=c.toNat_lt;omega);rwa[UInt8.ofNat_toNat]at this
def gV(c:UInt8)(l:c.toNat<128)(w:I6):ZL 202 #[I Zg c.toNat] w (xJ [vz c]):=by
 have a:=qq4 (w.alloc (Z #[I Zg c.toNat] 5)) ⟨w,0,N⟩ 1 [c] (by
  intro i n;rw[X2,Z2,Z8 _ _ _ _ R];have:i=0:=by simp at n;omega
  subst this;rfl)
 have g:(convert 145 9 (Zq (S w) 1 1)).run c_ (w.alloc (Z #[I Zg c.toNat] 5))=.ok (Zb ⟨#[c]⟩) (w.alloc (Z #[I Zg c.toNat] 5)):=a;have f:∀W,ZL 250 #[Zb ⟨#[c]⟩] W (xJ [vz c]):=λW=>(Tryz.strings_ToUpper_ascii ⟨#[c]⟩ W (by show 1<=_;decide) (by
  intro j b h;have o:j=0:=by have:=(Z5.1 h).1;simp at this;omega
  subst o;have:c=b:=qP h;rw[<-this];exact l)).mono λe w' k=>⟨by rw[k.1];show Zd (Zb ⟨[Lib.upperB c].toArray⟩)=_;rw[oQ];rfl,k.2⟩
 have d:=(q_ w).alloc #[I Zg c.toNat] 5;unfold ZL;go_in;go_wp2_with(go_at_call 250;refine Z0 (f _) λw' m=>?_);go_ret;exact⟨R,o_ d m⟩
def qxp(n:Nat)(h:n<64)(w:I6):ZL 69 #[n] w (xJ [xA n,xI n]):=(gI n h w).mono λ_ _ k=>⟨k.1,k.2.gr⟩
def xb(x y:I1)(h:x.length+y.length<=100)(W:I6):(k_ .add (xJ x) (xJ y)).run c_ W=.ok (xJ (x++y)) W:=by
 rw[<-F6];exact Xy W _ _ (by
  have a:(xJ x).size=x.length:=by show x.toArray.size=_;simp
  have b:(xJ y).size=y.length:=by show y.toArray.size=_;simp
  rw[a,b];exact q7 h WW)
def dS(f t:Nat)(V:f<64)(a9:t<64)(u:UInt8)(b0:u.toNat<128)(w:I6):ZL 122 #[ZJ f t u] w (xJ (z7 f t u)):=by
 have m:=X (λW=>qxp f V W);have v:=X (λW=>qxp t a9 W);have r:=X (λW=>gV u b0 W);have k:Y (∀w',Gr (w.alloc (Z (ZJ f t u) 87)) w'->_):=X (λw' g=>(sO g).2);have z:=X ((q_ w).alloc (ZJ f t u) 87);unfold ZL;go_in;go_upto_region 1 with fail;generalize w.alloc (Z (ZJ f t u) 87)=w1 at k z|-;obtain⟨c0,c1,c2⟩:=k.a _ ZO;go_upto_region 2 with(go_at_call 69;refine Z0 (v.a _) λw2 n=>?_);obtain⟨d0,d1,d2⟩:=k.a _ n;have i:=X (o_ z.a n);have o:=X n;have J:=X (λW=>xb [xA f] [120] WU W);have B:=X (λW=>xb ([xA f]++[120]) [xA t,xI t] WU W);have K:=X (λW=>xb [61] [vz u] WU W);have C:=X (λW=>xb [xA t,xI t] ([61]++[vz u]) WU W);have D:=X (λW=>xb ([xA f]++[120]++[xA t,xI t]) ([61]++[vz u]) WU W);have Q:(xJ [xA f,xI f]).extract 0 1=xJ [xA f]:=R;have sz:(xJ [xA f,xI f]).size=2:=R;have E:Y (f%8=t%8->u=0->xJ (z7 f t u)=xJ [xA t,xI t]):=X (λa b=>by unfold z7;rw[qI a,qI b];rfl);have F:Y (f%8=t%8->u≠0->xJ (z7 f t u)=xJ ([xA t,xI t]++([61]++[vz u]))):=X (λa b=>by unfold z7;rw[qI a,qF b];rfl);have G:Y (f%8≠t%8->u=0->xJ (z7 f t u)=xJ ([xA f]++[120]++[xA t,xI t])):=X (λa b=>by unfold z7;rw[qF a,qI b];rfl);have H:Y (f%8≠t%8->u≠0->xJ (z7 f t u)=xJ ([xA f]++[120]++[xA t,xI t]++([61]++[vz u]))):=X (λa b=>by unfold z7;rw[qF a,qF b];rfl);generalize xJ ([xA f]++[120]++[xA t,xI t]++([61]++[vz u]))=S5 at D H;generalize xJ ([xA f]++[120]++[xA t,xI t])=P at B D G;generalize xJ ([xA t,xI t]++([61]++[vz u]))=b1 at C F;generalize xJ ([xA f]++[120])=a6 at J B;generalize xJ ([61]++[vz u])=a5 at K C D;generalize xJ [vz u]=T at K r;generalize xJ [xA f,xI f]=NF at Q sz m;generalize xJ [xA f]=a8 at Q J;generalize xJ [xA t,xI t]=a7 at B C E v|-;have b2:∀W,(k_ .add a8 ⟨#[120]⟩).run c_ W=.ok a6 W:=J.a;have a0:∀W,(k_ .add a6 a7).run c_ W=.ok P W:=B.a;have a1:∀W,(k_ .add ⟨#[61]⟩ T).run c_ W=.ok a5 W:=K.a;have a2:∀W,(k_ .add a7 a5).run c_ W=.ok b1 W:=C.a;have a3:∀W,(k_ .add P a5).run c_ W=.ok S5 W:=D.a;have A:u=0\/((u.toNat:Int)!=0)=Zk:=by
  by_cases e:u=0
  .exact Zi e
  exact Zj (qU.2 (λq=>e (q6.1 Ul)))
 by_cases a4:f%8=t%8
 .have M:(f:Int)%8=t%8:=O;obtain d|d:=A
  .have h:=X (E a4 d);subst d;go_wp2;go_ret;exact⟨by rw[h.a];rfl,i⟩
  have l:u≠0:=λq=>by rw[q]at d;cases d
  have h:=X (F a4 l);go_upto_region 6 with(go_at_call 202;refine Z0 (r _) λw4 j=>?_);have y:=X (o_ i.a j);go_wp2;go_ret;exact⟨by rw[h.a];rfl,y.a⟩
 have M:¬(f:Int)%8=t%8:=O;go_upto_region 4 with(go_at_call 69;refine Z0 (m _) λw3 x=>?_);obtain⟨k0,k1,k2⟩:=k _ (o_ o x);have p:=X (o_ i.a x);obtain d|d:=A
 .have h:=X (G.a a4 d);subst d;go_wp2;go_ret;exact⟨by rw[h.a];rfl,p.a⟩
 have l:u≠0:=λq=>by rw[q]at d;cases d
 have h:=X (H a4 l);go_upto_region 6 with(go_at_call 202;refine Z0 (r.a _) λw4 j=>?_);have y:=X (o_ p.a j);go_wp2;go_ret;exact⟨by rw[h.a];rfl,y.a⟩
def bS{P:Program}{row:String}{args:I0}{R:I7->I6->Prop}(h:Rows P row args w R):RowsIn Fence.wide n P row args w R:=λc cs _=>
 let ⟨v,w',r,s⟩:=h c cs
 ⟨v,w',r,stepsIn_wide.2 s⟩
def li{P:Program}{b:Array Oper}{Q:Exit->Act->I6->Prop}{K j:Act->I6->Prop}{a:Act}(q:¬LetsOut Q)(u:∀o c,b[i]?=S o->o.op≠.defer c)(hK:∀a w,K a w->j a w)(h:wpOp P b Q i K a w):wpOpIn (Fence.wide.inRound l) n P b Q i j a w:=by
 unfold wpOp at h;unfold wpOpIn;cases k:b[i]? with
 | none=>rw[k]at h;exact hK _ _ h
 | some o=>
  rw[k]at h;simp only at h|-;split
  .rename_i m;simp only[m,YS]at h;obtain h|⟨_,h⟩:=h
   case inr=>exact w_ h q
   refine⟨λ_ _=>x_,?_⟩;show Oper.uponIn (Fence.wide.inRound l) n P o a j Q (Sem.run P (Oper.semAt (S l) a.eval o) w);rw[Oper.semAt_some l _ o (λc=>u o c k)];unfold Oper.wp at h;generalize (execOp _ _).run _ _=r at h;cases r with
   | ok x w'=>
    cases x<;>simp only[Oper.upon]at h
    case value v=>exact hK _ _ h
    case skip=>exact hK _ _ h
    case defer d=>exact hK _ _ h
    case enter f args=>
     refine⟨λh=>Ub,Xe l (ZY.2 (i_.mono h λe p g=>?_))⟩;cases e with
     | returned v=>exact hK _ _ g
     | panicked c=>exact g
     | outgrown=>exact g
    case row row args=>exact⟨λh=>Ub,bS (Rows.mono h λv p g=>hK _ _ g)⟩
   | halt x w'=>
    cases x<;>simp only[Oper.upon]at h
    case panic v=>exact h
  rename_i m;simp only[m]at h;exact⟨λ_ _=>x_,hK _ _ h⟩
theorem qz4{P:Program}{e:Array Oper}{Q:Exit->Act->I6->Prop}{j:Region.Mode}(f:¬LetsOut Q)(g:∀(i:Nat)(o:Oper)(c:Call),e[i]?=o->o.op≠.defer c):∀(b:Nat)(d:Array Bool)(a:Act)(w:I6),wpAny P j e Q b d a w->wpAnyIn (Fence.wide.inRound l) n P j e Q b d a w
 | 0,_,_,_,h=>h
 | b+1,_,_,_,h=>⟨h.1,λi k=>li f (g i) (qz4 f g b _) (h.2 i k)⟩
def iz(o:Oper):Bool:=match o.op with
 | .defer _=>Zl
 | _=>Zk
def jf{P:Program}{b:Array Oper}{Q:Exit->Act->I6->Prop}{S:I6->Prop}{m:Nat}{a:Act}(j:P.follows .mixedOrders=Zk)(d:¬LetsOut Q)(g:b.toList.all iz=Zk)(e:S w.drew)(h:S w.drew->wpAnyH P .any b Q S b.size (Array.replicate b.size Zl) a w.drew):(Code.region m b Zk).wpIn (Fence.wide.inRound l) n P Q a w:=by refine wpIn_region_any j (qz4 d (λi o c k f=>?_) _ _ _ _ (wpAny_of_held _ _ _ _ (h e)));have:=qW.1 g o (by have:=Wm (show b.toList[i]?=some o by rw[qO];exact k);exact this);rw[iz,f]at this;cases this
def wh3(a c d:Bool)(f:Nat):I1:=if a=Zl then[]else if c=Zl then[xA f]else if d=Zl then[xI f]else[xA f,xI f]
def C0(L:List Mv)(f:Nat):iT L f=wh3 (!L.isEmpty) (L.any λy=>Zm (y.1%8=f%8)) (L.any λy=>Zm (y.1/8=f/8)) f:=by
 have h:∀p:Mv->Bool,(L.all (λy=>!p y)=Zk)↔(L.any p=Zl):=λp=>by rw[qW,XD];simp
 unfold iT wh3;simp only[h,Bool.not_eq_false'];rfl
def eo{a:List Mv}{t:Nat}{y:Mv}(h:¬(y.2.1=t/\y.1≠f/\z y.1=z f)):jX (a++[y]) z f t=jX a z f t:=by grind[jX]
def BL{a:List Mv}{t:Nat}{y:Mv}(h:y.2.1=t/\y.1≠f/\z y.1=z f):jX (a++[y]) z f t=jX a z f t++[y]:=by grind[jX]
structure W4(Bx b0 y1 y2 f t:Nat)(Z1 Zf:Int)(W:I6):Prop where
 a0:W.cell? Bx=S (I L y1)
 a1:W.cell? ⟨Bx,1,N⟩=S (I L y2)
 m0:W.cell? ⟨b0+1+1,0,N⟩=S (I L f)
 m1:W.cell? ⟨b0+1+1,1,N⟩=S (I L t)
 q1:W.cell? ⟨b0+1,y1,N⟩=S (I Zg Z1)
 q2:W.cell? ⟨b0+1,f,N⟩=S (I Zg Zf)
structure Wq(w:I6)(S0 b0:Nat)(PA M:I0)(a c d:Bool)(V:I6):Prop where
 pa:V.heap[b0+1]?=S (Z PA 70)
 mv:V.heap[b0+1+1]?=S (Z M 87)
 o:V.heap[b0+1+1+1]?=S (Z #[Za a] 4)
 fl:V.heap[b0+1+1+1+1]?=S (Z #[Za c] 4)
 rk:V.heap[b0+1+1+1+1+1]?=S (Z #[Za d] 4)
 gr:Gr w V
 sz:S0<=V.heap.size
def Wq.same{a c d:Bool}{V':I6}(h:Wq w f e PA M a c d V)(g:Gr w V')(i:V<=V'.heap.size)(b:∀k o,k<e+6->V.heap[k]?=S o->V'.heap[k]?=S o):Wq w f e PA M a c d V':=⟨b _ _ O h.pa,b _ _ O h.mv,b _ _ O h.o,b _ _ O h.fl,b _ _ O h.rk,g,q7 h.sz i⟩
def Wq.drew{b:Nat}{a c d:Bool}(h:Wq w b e PA M a c d V):Wq w b e PA M a c d V.drew:=⟨h.pa,h.mv,h.o,h.fl,h.rk,h.gr.drew,h.sz⟩
def Wq.setO{b:Nat}{a c d:Bool}(f:b=w)(h:Wq w e b PA M a c d V)(v:Bool):Wq w e b PA M v c d (V.setCell ⟨b+1+1+1,0,N⟩ v):=by
 refine⟨?_,?_,jm h.o,?_,?_,Yr h.gr (show w<=b+1+1+1 from O) _,U3⟩;all_goals rw[Yg _ _ _ _ U4]
 .exact h.pa
 .exact h.mv
 .exact h.fl
 exact h.rk
def Wq.setF{b:Nat}{a c d:Bool}(f:b=w)(h:Wq w e b PA M a c d V)(v:Bool):Wq w e b PA M a v d (V.setCell ⟨b+1+1+1+1,0,N⟩ v):=by
 refine⟨?_,?_,?_,jm h.fl,?_,Yr h.gr (show w<=b+1+1+1+1 from O) _,U3⟩;all_goals rw[Yg _ _ _ _ U4]
 .exact h.pa
 .exact h.mv
 .exact h.o
 exact h.rk
def Wq.setR{b:Nat}{a c d:Bool}(f:b=w)(h:Wq w e b PA M a c d V)(v:Bool):Wq w e b PA M a c v (V.setCell ⟨b+1+1+1+1+1,0,N⟩ v):=by
 refine⟨?_,?_,?_,?_,jm h.rk,Yr h.gr (show w<=b+1+1+1+1+1 from O) _,U3⟩;all_goals rw[Yg _ _ _ _ U4]
 .exact h.pa
 .exact h.mv
 .exact h.o
 exact h.fl
def oK(w:I6)(PA M:I0):Wq w 0 w PA M Zl Zl Zl ((((((w.alloc (Z jP 74)).alloc (Z PA 70)).alloc (Z M 87)).alloc (Z #[Zl] 4)).alloc (Z #[Zl] 4)).alloc (Z #[Zl] 4)):=by have g:Gr w ((((((w.alloc (Z jP 74)).alloc (Z PA 70)).alloc (Z M 87)).alloc (Z #[Zl] 4)).alloc (Z #[Zl] 4)).alloc (Z #[Zl] 4)):=ZN.al.al.al.al.al;refine⟨?_,?_,?_,?_,?_,g,Nat.zero_le _⟩<;>(simp only[World.alloc,Array.getElem?_push,Array.size_push];simp)
def lj{g:Int}(r:jE z wh fc b h g PA)(k9:xO z=Zk)(h8:-1<=b)(h9:b<=63)(f t:Nat)(hf:f<64)(u:UInt8)(w:I6)(hT:jF w)(hC:jQ w):ZL 203 #[jP,PA,ZJ f t u] w (xJ (iT (jX (xC z wh fc b) z f t) f)):=by
 rw[C0];obtain⟨va,b7⟩:=Zn (!(jX (xC z wh fc b) z f t).isEmpty);obtain⟨vc,c4⟩:=Zn ((jX (xC z wh fc b) z f t).any λy=>Zm (y.1%8=f%8));obtain⟨vd,c5⟩:=Zn ((jX (xC z wh fc b) z f t).any λy=>Zm (y.1/8=f/8));rw[b7.a,c4.a,c5.a];have d3:=zg z wh fc b;have a6:=X (oK w PA (ZJ f t u));have a7:Y (((((((w.alloc (Z jP 74)).alloc (Z PA 70)).alloc (Z (ZJ f t u) 87)).alloc (Z #[Zl] 4)).alloc (Z #[Zl] 4)).alloc (Z #[Zl] 4)).heap.size=w.heap.size+6):=X WU;have a8:Y (((((((w.alloc (Z jP 74)).alloc (Z PA 70)).alloc (Z (ZJ f t u) 87)).alloc (Z #[Zl] 4)).alloc (Z #[Zl] 4)).alloc (Z #[Zl] 4)).cell? ⟨w,1,N⟩=S (.func (.func 61) #[] #[])):=X (by have g1:Gr (w.alloc (Z jP 74)) ((((((w.alloc (Z jP 74)).alloc (Z PA 70)).alloc (Z (ZJ f t u) 87)).alloc (Z #[Zl] 4)).alloc (Z #[Zl] 4)).alloc (Z #[Zl] 4)):=ZN.al.al.al.al;have e1:=(YG g1 w Vj).trans (ZQ w _);rw[Zs e1];rfl);have l0:=r.size;have d2:(c_.info? 70).map (·.size)=S PA.toList.length:=by rw[ZX,l0];exact jJ
 refine(ZY (n:=9)).1 ?_;refine callsIn_of_wp_marks func203 rfl x_ ?_ R;simp only[ntmps203,Nat.reduceAdd,Nat.reduceSub,Zr];apply Z9.2;go_upto_region 2 with fail;generalize ((((((w.alloc (Z jP 74)).alloc (Z PA 70)).alloc (Z (ZJ f t u) 87)).alloc (Z #[Zl] 4)).alloc (Z #[Zl] 4)).alloc (Z #[Zl] 4))=w0 at a6 a7 a8|-;have c1:=a8.a;have f8:=a6.a.gr;have l2:=a7.a;go_wp2_with(first|(go_at_call 61;refine(zk PA _).mono ?_;rintro e a0 ⟨rfl,b6,b4⟩)|(refine ZV R 70 _ R (w+1) R 70 PA (0,0) _ a6.a.pa s_ rfl (by rw[ZX]at d2;exact d2) ?_));have a5:=o_ f8 b4;have b5:=qxq r k9 h8 h9 w0 (λ_=>False) (λ_ q=>q.elim) a0 b6 (hT.gr a5) (hC.gr a5);have h0:=ZR b4;have k0:=(qB.1 b6).1;have d4:Wq w a0 w PA (ZJ f t u) Zl Zl Zl a0:=by have q:=a6.a.same (V':=a0) a5 h0 (λk o hk ho=>(ZE b4 ho));exact⟨q.pa,q.mv,q.o,q.fl,q.rk,q.gr,Zy⟩
 have n2:=hT.2;have n1:=hC.2;rw[l2]at b6 h0 k0 b5;refine Z9.1 (xj (n:=9) (gf:=128) (lb:=#[ZI (w+6)]) R (YC func128 WR R) b5 (λ_ h=>h.elim) (by rintro k (rfl|rfl|rfl)<;>omega) ZP (λ_=>R)
  (λH V=>Wq w a0 w PA (ZJ f t u) (!(jX H z f t).isEmpty) ((jX H z f t).any λy=>Zm (y.1%8=f%8)) ((jX H z f t).any λy=>Zm (y.1/8=f/8)) V)
  (λ_ _ _=>False)
  ?sI (λ_ _ _ _ h _=>h) d4 ?rnd ?done (λ_ _ _ _ _ _ h _=>h.elim))
 case sI=>exact λs A A' h q=>h.same (u_ h.gr (q.below (n:=w) (ZR h.gr) (λk o hk=>Zi O))) q.size (λk o hk ho=>q.same _ _ ho (Zi O))
 case done=>
  rintro D V hD hV hK;have l:=(qi hV.o).1;have a2:=(qi hV.fl).1;have a3:=(qi hV.rk).1;obtain⟨x0,x1,x2⟩:=qm hV.mv;have k5:=X hV.gr;rw[b7.a]at l;rw[c4.a]at a2;rw[c5.a]at a3;have sz:(xJ [xA f,xI f]).size=2:=R;have m6:(xJ [xA f,xI f]).extract 0 1=xJ [xA f]:=R;have n0:(xJ [xA f,xI f]).extract 1 2=xJ [xI f]:=R;have hN:=X (λW=>qxp f hf W);have f5:Y (∀W,Gr V W->W.heap[D]?=S (.deferred (S []))/\Gr w W):=X λW gW=>⟨ZE gW hK,o_ k5.a gW⟩;go_upto_region 9 with(go_at_call 69;refine Z0 (hN.a _) λw5 a4=>?_);obtain⟨n4,d1⟩:=f5.a _ a4;have b1:=(ZW a4 (Zx l)).trans l;have b2:=(ZW a4 (Zx a2)).trans a2;have b3:=(ZW a4 (Zx a3)).trans a3;have m1:=X d1;cases va with
  | false=>
   go_wp2;refine⟨WU,Zi ⟨_,_,R,YU n4,?_⟩⟩;exact⟨_,Wh R _ _ _,R,u_ m1.a (XZ (w:=a0) (n₀:=w) O _ D _ _ hD n4 R R)⟩
  | true=>
   cases vc with
   | false=>
    go_wp2;refine⟨WU,Zi ⟨_,_,R,YU n4,?_⟩⟩;exact⟨_,Wh R _ _ _,R,u_ m1.a (XZ (w:=a0) (n₀:=w) O _ D _ _ hD n4 R R)⟩
   | true=>
    cases vd with
    | false=>
     go_wp2;refine⟨WU,Zi ⟨_,_,R,YU n4,?_⟩⟩;exact⟨_,Wh R _ _ _,R,u_ m1.a (XZ (w:=a0) (n₀:=w) O _ D _ _ hD n4 R R)⟩
    | true=>
     go_wp2;refine⟨WU,Zi ⟨_,_,R,YU n4,?_⟩⟩;exact⟨_,Wh R _ _ _,R,u_ m1.a (XZ (w:=a0) (n₀:=w) O _ D _ _ hD n4 R R)⟩
 case rnd=>
  rintro l1 H ⟨G,K,a1⟩ V l4 hx hV hl;have k8:l1<V:=hl.elim λr hr=>(qB.1 hr).1;simp only[vr,gJ];gi_wp2;refine⟨ZP.alloc _,?_⟩;intro J f2 Q n3;have kx:J.heap[V.heap.size]?=Z (ZJ G K a1) 87:=f2.same _ _ (ZQ V _) O;have h4:=hV.sz;generalize V.heap.size=M at kx k8 h4|-;have f9:=d3 _ (hx.subset (List.mem_append_right _ (qT.2 R)));have h1:G<64:=f9.1;have P:Y (W4 M w G K f t ((z G).toNat:Int) ((z f).toNat:Int) J.drew):=X ⟨(qm (show J.drew.heap[M]?=_ from kx)).1,(qm (show J.drew.heap[M]?=_ from kx)).2.1,(qm (show J.drew.heap[w.heap.size+1+1]?=_ from Q.mv)).1,(qm (show J.drew.heap[w.heap.size+1+1]?=_ from Q.mv)).2.1,by rw[Zs (show J.drew.heap[w.heap.size+1]?=_ from Q.pa)];exact r.sq G h1,by rw[Zs (show J.drew.heap[w.heap.size+1]?=_ from Q.pa)];exact r.sq f hf⟩;have n5:z G=z f↔((z G).toNat:Int)=((z f).toNat:Int):=⟨λq=>by rw[q],λq=>q6.1 O⟩;have m1:Y (∀W a c d,Wq w a0 w PA (ZJ f t u) a c d W->Fr (λk _=>k≠w.heap.size+1+1+1/\k≠w.heap.size+1+1+1+1/\k≠w.heap.size+1+1+1+1+1) J W->a=(!(jX (H++[(G,K,a1)]) z f t).isEmpty)->c=((jX (H++[(G,K,a1)]) z f t).any λy=>Zm (y.1%8=f%8))->d=((jX (H++[(G,K,a1)]) z f t).any λy=>Zm (y.1/8=f/8))->Fr (jM a0 (λ_=>False) (λk=>k=w.heap.size+6\/k=2\/k=3)) J W/\Wq w a0 w PA (ZJ f t u) (!(jX (H++[(G,K,a1)]) z f t).isEmpty) ((jX (H++[(G,K,a1)]) z f t).any λy=>Zm (y.1%8=f%8)) ((jX (H++[(G,K,a1)]) z f t).any λy=>Zm (y.1/8=f/8)) W):=X (λW a c d hW hF e1 e2 e3=>by
   subst e1 e2 e3;refine⟨hF.mono ?_,hW⟩;rintro k o-(q|q)
   .rcases q with q|q|q<;>omega
   have:=q.1;omega)
  have a9:=X Q;have l5:¬(64<=(G:Int)):=O;have m2:¬(64<=(f:Int)):=O;obtain⟨oc,f3⟩:=Zn ((jX H z f t).any λy=>Zm (y.1%8=f%8));obtain⟨od,f4⟩:=Zn ((jX H z f t).any λy=>Zm (y.1/8=f/8));obtain⟨T,f0⟩:=Zn (oc||decide (G%8=f%8));obtain⟨nd,f1⟩:=Zn (od||decide (G/8=f/8));have b0:Wq w a0 w PA (ZJ f t u) (!(jX H z f t).isEmpty) oc od J.drew:=by rw[<-f3.a,<-f4.a];exact Q.drew
  have n7:=b0.setO R Zk;have p0:=n7.setF R T;have f7:=X (p0.setR R nd);have k3:(J.drew.setCell ⟨w+1+1+1,0,N⟩ Zk).heap[M]?=Z (ZJ G K a1) 87:=by rw[Yg _ _ _ _ WX];exact kx
  have k4:((J.drew.setCell ⟨w+1+1+1,0,N⟩ Zk).setCell ⟨w+1+1+1+1,0,N⟩ T).heap[M]?=Z (ZJ G K a1) 87:=by rw[Yg _ _ _ _ WX];exact k3
  obtain⟨oa,g9⟩:∃oa,J.drew.cell? ⟨w+1+1+1,0,N⟩=Za oa:=⟨_,(qi b0.o).1⟩;have g0:J.drew.frozen? ⟨w+1+1+1,0,N⟩=Zl:=(qi b0.o).2;have g1:((J.setCell ⟨w+1+1+1,0,N⟩ Zk).drew).cell? ⟨w+1+1+1+1,0,N⟩=Za oc:=(qi n7.fl).1;have g2:((J.setCell ⟨w+1+1+1,0,N⟩ Zk).drew).frozen? ⟨w+1+1+1+1,0,N⟩=Zl:=(qi n7.fl).2;have g3:(((J.setCell ⟨w+1+1+1,0,N⟩ Zk).setCell ⟨w+1+1+1+1,0,N⟩ T).drew).cell? ⟨w+1+1+1+1+1,0,N⟩=Za od:=(qi p0.rk).1;have g4:(((J.setCell ⟨w+1+1+1,0,N⟩ Zk).setCell ⟨w+1+1+1+1,0,N⟩ T).drew).frozen? ⟨w+1+1+1+1+1,0,N⟩=Zl:=(qi p0.rk).2;have g5:((J.setCell ⟨w+1+1+1,0,N⟩ Zk).drew).cell? M=I L G:=(qm k3).1;have g6:(((J.setCell ⟨w+1+1+1,0,N⟩ Zk).setCell ⟨w+1+1+1+1,0,N⟩ T).drew).cell? M=I L G:=(qm k4).1;have g7:((J.setCell ⟨w+1+1+1,0,N⟩ Zk).drew).cell? ⟨w+1+1,0,N⟩=I L f:=(qm n7.mv).1;have g8:(((J.setCell ⟨w+1+1+1,0,N⟩ Zk).setCell ⟨w+1+1+1+1,0,N⟩ T).drew).cell? ⟨w+1+1,0,N⟩=I L f:=(qm p0.mv).1;have d0:Y (Wq w a0 w PA (ZJ f t u) Zk T nd ((((J.setCell ⟨w+1+1+1,0,N⟩ Zk).setCell ⟨w+1+1+1+1,0,N⟩ T).setCell ⟨w+1+1+1+1+1,0,N⟩ nd).drew)):=X (show Wq w a0 w PA (ZJ f t u) Zk T nd (((J.drew.setCell ⟨w+1+1+1,0,N⟩ Zk).setCell ⟨w+1+1+1+1,0,N⟩ T).setCell ⟨w+1+1+1+1+1,0,N⟩ nd)from f7.a);have f6:Y (Fr (λk _=>k≠w.heap.size+1+1+1/\k≠w.heap.size+1+1+1+1/\k≠w.heap.size+1+1+1+1+1) J ((((J.setCell ⟨w+1+1+1,0,N⟩ Zk).setCell ⟨w+1+1+1+1,0,N⟩ T).setCell ⟨w+1+1+1+1+1,0,N⟩ nd).drew)):=X (Fr.drew ((((Fr.refl _ J).setCell _ (λo _ q=>q.1 R)).setCell _ (λo _ q=>q.2.1 R)).setCell _ (λo _ q=>q.2.2 R)));have l3:∀n:Nat,a_ L (n:Int)=a_ L (n:Int):=λ_=>R;generalize h6:((z G).toNat:Int)=Z1 at P n5;generalize h7:((z f).toNat:Int)=Zf at P n5;by_cases hA:K=t
  .have h2:(K:Int)=t:=O;by_cases hB:G=f
   .have h3:(G:Int)=f:=O;have m0:Y (jX (H++[(G,K,a1)]) z f t=jX H z f t):=X (eo λq=>q.2.1 hB);gi_wp2;refine jf (S:=W4 M w G K f t Z1 Zf) WR (λ⟨_,_,h⟩=>h) WR P.a (λj=>?_);refine ZB 0 (.pointer (S ⟨M,1,N⟩)) R (λw i=>WV) j ?_;refine ZB 1 K R (λw i=>WV) j ?_;refine ZB 2 (.pointer (S ⟨w+1+1,1,N⟩)) R (λw i=>WV) j ?_;refine ZB 3 t R (λw i=>WV) j ?_;refine ZB 4 Zk R (λw i=>WV) j ?_;refine ZB 5 Zk R (λw i=>WV) j ?_;refine ZB 6 (ZI M) R (λw i=>WV) j ?_;refine ZB 7 G R (λw i=>WV) j ?_;refine ZB 8 (ZI (w+1+1)) R (λw i=>WV) j ?_;refine ZB 9 f R (λw i=>WV) j ?_;refine ZB 10 Zl R (λw i=>WV) j ?_;exact WL
   have h3:¬(G:Int)=f:=O;by_cases hZ:z G=z f
   .have h5:=n5.1 hZ;have c6:Y (jX (H++[(G,K,a1)]) z f t=jX H z f t++[(G,K,a1)]):=X (BL ⟨hA,hB,hZ⟩);gi_wp2;refine jf (S:=W4 M w G K f t Z1 Zf) WR (λ⟨_,_,h⟩=>h) WR P.a (λj=>?_);refine ZB 0 (.pointer (S ⟨M,1,N⟩)) R (λw i=>WV) j ?_;refine ZB 1 K R (λw i=>WV) j ?_;refine ZB 2 (.pointer (S ⟨w+1+1,1,N⟩)) R (λw i=>WV) j ?_;refine ZB 3 t R (λw i=>WV) j ?_;refine ZB 4 Zk R (λw i=>WV) j ?_;refine ZB 5 Zk R (λw i=>WV) j ?_;refine ZB 6 (ZI M) R (λw i=>WV) j ?_;refine ZB 7 G R (λw i=>WV) j ?_;refine ZB 8 (ZI (w+1+1)) R (λw i=>WV) j ?_;refine ZB 9 f R (λw i=>WV) j ?_;refine ZB 10 Zk R (λw i=>WV) j ?_;refine ZB 11 Zk R (λw i=>WV) j ?_;refine ZB 12 Zk R (λw i=>WV) j ?_;refine ZB 13 (ZI M) R (λw i=>WV) j ?_;refine ZB 14 G R (λw i=>WV) j ?_;refine ZB 15 (ZI (w+1)) R (λw i=>WV) j ?_;refine ZB 16 (.pointer (S ⟨w+1,G,N⟩)) R (λw i=>WV) j ?_;refine ZB 17 (I Zg Z1) R (λw i=>WV) j ?_;refine ZB 18 (ZI (w+1+1)) R (λw i=>WV) j ?_;refine ZB 19 f R (λw i=>WV) j ?_;refine ZB 20 (ZI (w+1)) R (λw i=>WV) j ?_;refine ZB 21 (.pointer (S ⟨w+1,f,N⟩)) R (λw i=>WV) j ?_;refine ZB 22 (I Zg Zf) R (λw i=>WV) j ?_;refine ZB 23 Zk R (λw i=>WV) j ?_;refine ZB 24 Zk R (λw i=>WV) j ?_;refine ZZ WR ?_ _;have k1:(oc=Zk/\T=Zk)\/(oc=Zl/\((G:Int)%8==(f:Int)%8)=Zk/\T=Zk)\/(oc=Zl/\((G:Int)%8==(f:Int)%8)=Zl/\T=Zl):=by
     have:=f0.a;cases oc
     .by_cases q:G%8=f%8
      .exact Zj (Zi ⟨R,UP,Tr⟩)
      exact Zj (Zj ⟨R,Vp,Tr⟩)
     exact Zi ⟨R,by rw[<-this];rfl⟩
    have k2:(od=Zk/\nd=Zk)\/(od=Zl/\((G:Int)/8==(f:Int)/8)=Zk/\nd=Zk)\/(od=Zl/\((G:Int)/8==(f:Int)/8)=Zl/\nd=Zl):=by
     have:=f1.a;cases od
     .by_cases q:G/8=f/8
      .exact Zj (Zi ⟨R,UP,Tr⟩)
      exact Zj (Zj ⟨R,Vp,Tr⟩)
     exact Zi ⟨R,by rw[<-this];rfl⟩
    have d5:=X (m1.a _ _ _ _ d0.a f6.a (by rw[c6.a];cases jX H z f t<;>rfl) (by rw[c6.a,List.any_append,f3.a,<-f0.a];simp) (by rw[c6.a,List.any_append,f4.a,<-f1.a];simp));rcases k1 with⟨rfl,rfl⟩|⟨rfl,e6,rfl⟩|⟨rfl,e6,rfl⟩<;>obtain⟨rfl,rfl⟩|⟨rfl,e7,rfl⟩|⟨rfl,e7,rfl⟩:=k2;all_goals
     gi_wp2;exact d5.a
   have h5:¬Z1=Zf:=λq=>hZ (n5.2 q);have m0:Y (jX (H++[(G,K,a1)]) z f t=jX H z f t):=X (eo λq=>hZ q.2.2);gi_wp2;refine jf (S:=W4 M w G K f t Z1 Zf) WR (λ⟨_,_,h⟩=>h) WR P.a (λj=>?_);refine ZB 0 (.pointer (S ⟨M,1,N⟩)) R (λw i=>WV) j ?_;refine ZB 1 K R (λw i=>WV) j ?_;refine ZB 2 (.pointer (S ⟨w+1+1,1,N⟩)) R (λw i=>WV) j ?_;refine ZB 3 t R (λw i=>WV) j ?_;refine ZB 4 Zk R (λw i=>WV) j ?_;refine ZB 5 Zk R (λw i=>WV) j ?_;refine ZB 6 (ZI M) R (λw i=>WV) j ?_;refine ZB 7 G R (λw i=>WV) j ?_;refine ZB 8 (ZI (w+1+1)) R (λw i=>WV) j ?_;refine ZB 9 f R (λw i=>WV) j ?_;refine ZB 10 Zk R (λw i=>WV) j ?_;refine ZB 11 Zk R (λw i=>WV) j ?_;refine ZB 12 Zk R (λw i=>WV) j ?_;refine ZB 13 (ZI M) R (λw i=>WV) j ?_;refine ZB 14 G R (λw i=>WV) j ?_;refine ZB 15 (ZI (w+1)) R (λw i=>WV) j ?_;refine ZB 16 (.pointer (S ⟨w+1,G,N⟩)) R (λw i=>WV) j ?_;refine ZB 17 (I Zg Z1) R (λw i=>WV) j ?_;refine ZB 18 (ZI (w+1+1)) R (λw i=>WV) j ?_;refine ZB 19 f R (λw i=>WV) j ?_;refine ZB 20 (ZI (w+1)) R (λw i=>WV) j ?_;refine ZB 21 (.pointer (S ⟨w+1,f,N⟩)) R (λw i=>WV) j ?_;refine ZB 22 (I Zg Zf) R (λw i=>WV) j ?_;refine ZB 23 Zl R (λw i=>WV) j ?_;refine ZB 24 Zl R (λw i=>WV) j ?_;refine ZZ WR ?_ _;gi_wp2;exact m1.a _ _ _ _ a9.a.drew (Fr.drew ZP) Ud Ud Ud
  have m0:Y (jX (H++[(G,K,a1)]) z f t=jX H z f t):=X (eo λq=>hA q.1);have h2:¬((K:Int)=t):=O;gi_wp2;refine jf (S:=W4 M w G K f t Z1 Zf) WR (λ⟨_,_,h⟩=>h) WR P.a (λj=>?_);refine ZB 0 (.pointer (S ⟨M,1,N⟩)) R (λw i=>WV) j ?_;refine ZB 1 K R (λw i=>WV) j ?_;refine ZB 2 (.pointer (S ⟨w+1+1,1,N⟩)) R (λw i=>WV) j ?_;refine ZB 3 t R (λw i=>WV) j ?_;refine ZB 4 Zl R (λw i=>WV) j ?_;refine ZB 5 Zl R (λw i=>WV) j ?_;refine ZA 6 j ?_;refine ZA 7 j ?_;refine ZA 8 j ?_;refine ZA 9 j ?_;refine ZA 10 j ?_;exact WL
structure pZ(z:I2)(wh:Bool)(fc:I5)(b:Int)(f t:Nat)(u:UInt8)(i:Nat):Prop where
 hf:f<64
 ht:t<64
 hu:u∈U5
 hi:i<6
 hc:jB (z f)=((bg wh+i:Nat):Int)
 go:j9 z wh fc b f t u=Zk
 tu:(f,t,u)∈xT (Zm (i=0)) f t
def um(d:kJ z wh fc b)(m:-1<=b)(n:b<=63){t:Nat}(r:(f,t,u)∈xC z wh fc b):∃i,pZ z wh fc b f t u i:=by
 have o:=(qV.1 ((je d m n _).2 r)).1;obtain⟨i,w,x,y,e,k,j,l,h,p,g⟩:=(Ay d).1 o;injection e with e1 e;injection e with e2 e3;subst e1 e2 e3;obtain⟨v,e,_,q⟩:=wX g;injection e with _ e;injection e with _ e;have a:u∈U5:=by rw[e];rcases q with rfl|rfl|rfl|rfl|rfl<;>decide
 exact⟨i,j,l,a,k,h,(qjy d j l a).2 ⟨i,k,h,p,g⟩,g⟩
def pZ.u0{t:Nat}(h:pZ z wh fc b f t u i)(a:i≠0):u=0:=by obtain⟨v,e,d,_⟩:=wX h.tu;injection e with _ e;injection e with _ e;rw[e];exact d VS
def oR:∀p,p<12->vz (yQ p)=kX (p%6):=WS
def pZ.cap{t:Nat}(h:pZ z wh fc b f t u i):vz (z f)=kX i:=by have d:=h.hi;have a:bg wh=0\/bg wh=6:=UM;rw[jn (p:=bg wh+i) O h.hc,oR _ O];congr 1;omega
theorem F4(M:List Mv){t:Nat}(h:pZ z wh fc b f t u i):(i=5/\t=f+2/\jR M z (f,t,u)=[79,45,79])\/(i=5/\t+2=f/\jR M z (f,t,u)=[79,45,79,45,79])\/(i=0/\jR M z (f,t,u)=z7 f t u)\/(i≠0/\jR M z (f,t,u)=zQ M z f t):=by
 obtain⟨j,k⟩:=zj h.hi h.hc;unfold jR;simp only[j,k,qG];by_cases a:i=5
 .by_cases e:t=f+2
  .exact Zi ⟨a,e,by rw[qI ⟨a,e⟩]⟩
  by_cases g:t+2=f
  .exact Zj (Zi ⟨a,g,by rw[qF (λq=>e q.2),qI ⟨a,g⟩]⟩)
  exact Zj (Zj (Zj ⟨O,by rw[qF (λq=>e q.2),qF (λq=>g q.2),qF O]⟩))
 by_cases d:i=0
 .exact Zj (Zj (Zi ⟨d,by rw[qF (λq=>a q.1),qF (λq=>a q.1),qI d]⟩))
 exact Zj (Zj (Zj ⟨d,by rw[qF (λq=>a q.1),qF (λq=>a q.1),qF d]⟩))
def tM:∀a,a<8->∀b,b<8->j_ (97+a)=j_ (97+b)->a=b:=WS
def ri:∀a,a<8->∀b,b<8->j_ (49+a)=j_ (49+b)->a=b:=WS
def gY:∀a,a<8->∀b,b<8->j_ (97+a)≠j_ (49+b):=WS
def FR:∀a,a<8->∀i,i<6->j_ (97+a)≠kX i/\j_ (97+a)≠79:=WS
def dO:∀a,a<8->j_ (49+a)≠120/\j_ (49+a)≠43/\j_ (49+a)≠35:=WS
def E9:∀i,i<6->kX i≠79:=WS
def CV:∀i,i<6->∀j,j<6->kX i=kX j->i=j:=WS
def FZ:∀u∈U5,∀v∈U5,u≠0->v≠0->vz u=vz v->u=v:=WS
def oS:∀u∈U5,vz u≠43/\vz u≠35:=WS
def gZ(h:xA f=xA g):f%8=g%8:=tM _ O _ O h
def mL(a:f<64)(b:g<64)(h:xI f=xI g):f/8=g/8:=ri _ O _ O h
def jw(f t:Nat)(u:UInt8):∃g l,z7 f t u=xA g::l:=by
 unfold z7;split
 .exact⟨t,_,R⟩
 exact⟨f,_,R⟩
def pZ.pawn{t:Nat}(g:kJ z wh fc b)(h:pZ z wh fc b f t u 0):(f%8≠t%8->((t/8:Nat):Int)-((f/8:Nat):Int)=xK wh)/\(f%8=t%8->oB z wh f t):=by
 have k:=g.pw wh f h.hf (by simpa using h.hc);have i:vE (z f)=0:=by simpa using ro h.hi h.hc
 have e:=h.go;unfold j9 at e;rw[qH,qI i]at e;have a:=e.2;unfold BD at a;cases d:xS (zI z) 0 (xK wh) (f:Int) (t:Int)with
 | true=>
  refine⟨λ_=>?_,λq=>?_⟩
  .have:=gE d;omega
  exact w_ (show(t:Int)%8=f%8 from O) (qze d)
 | false=>
  rw[d]at a;simp only[qR,YH]at a;have j:=(ir h.hf h.ht k).1 a;rw[qH,qH,qG]at a;exact⟨λq=>w_ a.1.1 q,λ_=>j⟩
def lI(h:jB (z n)=((bg wh+i:Nat):Int)):z n≠46:=λe=>by
 rw[e,xp]at h;omega
def r9{t:Nat}(e:kJ z wh fc b)(h:pZ z wh fc b f t u 0)(i:pZ z wh fc b g t u 0)(p:f%8=g%8):f=g:=by
 have q:=h.hf;have r:=i.hf;have v:=e.pw wh f h.hf (by simpa using h.hc);have w:=e.pw wh g i.hf (by simpa using i.hc);by_cases l:f%8=t%8
 .have a:=(h.pawn e).2 l;have d:=(i.pawn e).2 O;have nx:=lI h.hc;have m:=lI i.hc;unfold oB fw vQ at a d;cases wh
  .simp only[qR,YH,qG]at a d;rcases a with⟨k,j⟩|⟨n,k,j,o⟩<;>obtain⟨c1,c2⟩|⟨c0,c1,c2,c3⟩:=d
   .omega
   .exact w_ (by rw[show f=g-8*1 from O];exact c2) nx
   .exact w_ (by rw[show g=f-8*1 from O];exact j) m
   omega
  simp only[YS,qG]at a d;rcases a with⟨k,j⟩|⟨n,k,j,o⟩<;>obtain⟨c1,c2⟩|⟨c0,c1,c2,c3⟩:=d
  .omega
  .exact w_ (by rw[show f=g+8*1 from O];exact c2) nx
  .exact w_ (by rw[show g=f+8*1 from O];exact j) m
  omega
 have a:=(h.pawn e).1 l;have d:=(i.pawn e).1 O;omega
def mQ{t s:Nat}{v:UInt8}(j:t<64)(i:s<64)(k:u∈U5)(l:v∈U5)(h:z7 f t u=z7 g s v):f%8=g%8/\t=s/\u=v:=by
 have b:∀{t s:Nat}{u v:UInt8},t<64->s<64->u∈U5->v∈U5->xQ t++(if u=0 then[]else[61,vz u])=xQ s++(if v=0 then[]else[61,vz v])->t=s/\u=v:=by
  intro t s u v j i k l h;rw[zF,zF]at h;simp only[YA,Wj,X7]at h;obtain⟨n,o,d⟩:=h;refine⟨Fm _ j _ i (by rw[zF,zF,n,o]),?_⟩;by_cases a:u=0<;>by_cases c:v=0
  .rw[a,c]
  .rw[qI a,qF c]at d;cases d
  .rw[qF a,qI c]at d;cases d
  rw[qF a,qF c]at d;simp only[X7,and_true,true_and]at d;exact FZ u k v l a c d
 unfold z7 at h;rw[qS,qS]at h;by_cases a:f%8=t%8<;>by_cases c:g%8=s%8
 .rw[qI a,qI c]at h;obtain⟨e,m⟩:=b j i k l h;exact⟨by rw[a,c,e],e,m⟩
 .rw[qI a,qF c,zF t]at h;simp only[YA,Wj,X7]at h;exact w_ h.2.1 (dO (t/8) O).1
 .rw[qF a,qI c,zF s]at h;simp only[YA,Wj,X7]at h;exact w_ h.2.1.symm (dO (s/8) O).1
 rw[qF a,qF c]at h;simp only[YA,Wj,X7,true_and]at h;obtain⟨e,m⟩:=b j i k l h.2;exact⟨gZ h.1,e,m⟩
def lk{L L':List Mv}{x y:Mv}(i:f<64)(j:g<64)(r:x.1=f)(k:y.1=g)(b:y∈L)(d:x∈L')(h:iT L f=iT L' g):f=g:=by
 have n:¬L.isEmpty=Zk:=by cases L with|nil=>cases b|cons a l=>simp
 have o:¬L'.isEmpty=Zk:=by cases L' with|nil=>cases d|cons a l=>simp
 unfold iT at h;rw[qF n,qF o]at h;have m:L.all (λy=>!decide (y.1%8=f%8))=Zk->g%8≠f%8:=λq=>by have:=qW.1 q y b;simpa[k]using this
 have p:L.all (λy=>!decide (y.1/8=f/8))=Zk->g/8≠f/8:=λq=>by have:=qW.1 q y b;simpa[k]using this
 split at h
 .rename_i q;have e:=m q;split at h
  .injection h with h _;exact w_ (gZ h).symm e
  split at h
  .injection h with h _;exact w_ h (gY (f%8) O (g/8) O)
  exact O7
 split at h
 .rename_i q;have e:=p q;split at h
  .injection h with h _;exact w_ h.symm (gY (g%8) O (f/8) O)
  split at h
  .injection h with h _;exact w_ (mL i j h).symm e
  exact O7
 split at h
 .exact O7
 split at h
 .exact O7
 exact Fm _ i _ j h
def CI{a c:I1}{t s:Nat}(d:t<64)(b:s<64)(h:a++xQ t=c++xQ s):a=c/\t=s:=by have:=XR h (by rw[zF,zF];rfl);exact⟨this.1,Fm _ d _ b this.2⟩
def wF(r:kJ z wh fc b)(H:-1<=b)(p:b<=63){x y:Mv}(J:x∈xC z wh fc b)(K:y∈xC z wh fc b)(h:jR (xC z wh fc b) z x=jR (xC z wh fc b) z y):x=y:=by
 obtain⟨f,t,u⟩:=x;obtain⟨g,s,v⟩:=y;obtain⟨i,d⟩:=um r H p J;obtain⟨j,k⟩:=um r H p K;have B:i=5->j=5->f=g:=λa c=>FO (r.k1 wh) d.hf k.hf (by rw[<-a];exact d.hc) (by rw[<-c];exact k.hc);have F:=d.u0;have G:=k.u0;have w:=d.hi;have A:=k.hi;rcases F4 (xC z wh fc b) d with⟨m,a1,o⟩|⟨m,a1,o⟩|⟨m,o⟩|⟨m,o⟩<;>rcases F4 (xC z wh fc b) k with⟨c1,c2,c3⟩|⟨c1,c2,c3⟩|⟨c1,c3⟩|⟨c1,c3⟩<;>rw[o,c3]at h
 .rw[B m c1,show t=s by have:=B m c1;omega,F O,G O]
 .cases h
 .exact Ih
 .exact IA
 .cases h
 .rw[B m c1,show t=s by have:=B m c1;omega,F O,G O]
 .exact Ih
 .exact IA
 .exact Im
 .exact Im
 .obtain⟨V,P,Q⟩:=mQ d.ht k.ht d.hu k.hu h;subst m c1 P Q;rw[r9 r d k V]
 .obtain⟨q,l,e⟩:=jw f t u;unfold zQ at h;rw[e,k.cap]at h;injection h with h _;exact w_ h (FR (q%8) O j A).1
 .exact IF
 .exact IF
 .obtain⟨q,l,e⟩:=jw g s v;unfold zQ at h;rw[e,d.cap]at h;injection h with h _;exact w_ h.symm (FR (q%8) O i w).1
 unfold zQ at h;injection h with ha C;rw[d.cap,k.cap]at ha;have E:=CV i w j A ha;obtain⟨C,e⟩:=CI d.ht k.ht C;subst E e;have D:=(XR C R).1;have M:z f=z g:=by have T:bg wh=0\/bg wh=6:=UM;rw[jn (p:=bg wh+i) O d.hc,jn (p:=bg wh+i) O k.hc]
 have W:=F m;have a0:=G m;subst W a0;by_cases n:f=g
 .rw[n]
 have:=lk (x:=(f,t,0)) (y:=(g,t,0)) d.hf k.hf R R (L:=jX (xC z wh fc b) z f t) (L':=jX (xC z wh fc b) z g t)
  (qV.2 ⟨K,by simp[M,Ne.symm n]⟩) (qV.2 ⟨J,by simp[M,n]⟩) D
 exact w_ this n
def gl(M:List Mv){t:Nat}(h:pZ z wh fc b f t u i):∃l c,jR M z (f,t,u)=l++[c]/\c≠43/\c≠35:=by
 have j:=h.ht;have d:∀a:I1,∃l c,a++xQ t=l++[c]/\c≠43/\c≠35:=λa=>⟨a++[xA t],xI t,by rw[zF,qS];rfl,(dO (t/8) O).2⟩;rcases F4 M h with⟨_,_,e⟩|⟨_,_,e⟩|⟨_,e⟩|⟨_,e⟩<;>rw[e]
 .exact⟨[79,45],79,R,WW,WW⟩
 .exact⟨[79,45,79,45],79,R,WW,WW⟩
 .unfold z7;by_cases g:u=0
  .rw[qI g,Yh];exact d _
  rw[qF g];exact⟨_,vz u,by rw[show([61,vz u]:I1)=[61]++[vz u]from R,<-qS],oS u h.hu⟩
 rw[zQ,<-YA];exact d _
def mC(p:kJ z wh fc b)(n:-1<=b)(o:b<=63){x y:Mv}(w:x∈xC z wh fc b)(A:y∈xC z wh fc b){g k:I1}(q:g=[]\/g=[43]\/g=[35])(r:k=[]\/k=[43]\/k=[35])(h:jR (xC z wh fc b) z x++g=jR (xC z wh fc b) z y++k):x=y:=by
 obtain⟨i,F⟩:=um (f:=x.1) (t:=x.2.1) (u:=x.2.2) p n o w;obtain⟨j,G⟩:=um (f:=y.1) (t:=y.2.1) (u:=y.2.2) p n o A;obtain⟨l,c,D,c1,c2⟩:=gl (xC z wh fc b) F;obtain⟨m,d,E,B,C⟩:=gl (xC z wh fc b) G;have v:jR (xC z wh fc b) z x=jR (xC z wh fc b) z y:=by
  have a:=D;have e:=E;rcases q with rfl|rfl|rfl<;>obtain rfl|rfl|rfl:=r
  .simpa using h
  .rw[a,Yh]at h;exact w_ (List.singleton_inj.1 (XR h R).2) c1
  .rw[a,Yh]at h;exact w_ (List.singleton_inj.1 (XR h R).2) c2
  .rw[e,Yh]at h;exact w_ (List.singleton_inj.1 (XR h R).2).symm B
  .exact(XR h R).1
  .exact(XR h R).1
  .rw[e,Yh]at h;exact w_ (List.singleton_inj.1 (XR h R).2).symm C
  .exact(XR h R).1
  exact(XR h R).1
 exact wF p n o w A v
structure Bq(w:I6)(PA:I0)(W:I6):Prop where
 c0:W.cell? w.heap.size=S (.func (.func 60) #[] #[])
 c1:W.cell? ⟨w.heap.size,1,N⟩=S (.func (.func 61) #[] #[])
 pa:W.heap[w.heap.size+1]?=S (Z PA 70)
 gr:Gr w W
def Bq.next(h:Bq w PA W)(g:Gr W a):Bq w PA a:=⟨(ZW g (Ye W _ h.c0)).trans h.c0,(ZW g (Ye W _ h.c1)).trans h.c1,ZE g h.pa,o_ h.gr g⟩
def ac(w:I6)(PA:I0):Bq w PA ((w.alloc (Z jP 74)).alloc (Z PA 70)):=by obtain⟨a,b⟩:=x6 w (Z jP 74) (Z PA 70);exact⟨by rw[Zs a];rfl,by rw[Zs a];rfl,b,ZN.al⟩
def aZ{g:Int}(r:jE z wh fc b h g PA)(y:xO z=Zk)(B:-1<=b)(D:b<=63)(w:I6)(G:jF w)(F:jQ w):ZL 125 #[jP,PA] w (!(xC z wh fc b).isEmpty):=by
 have l:=mkS r y B D w G F;have v:(c_.info? 70).map (·.size)=S PA.size:=VU;have m:=ac w PA;obtain⟨⟨f,t,u⟩,p⟩:=Zn ((xC z wh fc b).headD (0,0,0));have a:∀(lb:I0)(C:Nat->Prop)(W:I6),(∀k,C k->k<W.heap.size)->It c_ 128 lb vr (λ_=>False) C (xC z wh fc b) W->ZL 66 #[.func (.func 128) #[] lb] W (Ze #[ZJ f t u,!(xC z wh fc b).isEmpty]):=λlb C W d i=>(qzv i l.ei d).mono λe w' k=>⟨by rw[k.1,p.a];rfl,k.2⟩;generalize (!(xC z wh fc b).isEmpty)=K at a|-;simp only[jP,zG]at m|-;unfold ZL;go_in;go_upto_region 1 with fail;show n_ _ _ _ _ ((w.alloc (Z #[.func (.func 60) #[] #[],.func (.func 61) #[] #[]] 74)).alloc (Z PA 70));generalize (w.alloc _).alloc _=M at m|-;have c1:=m.c1;have A:=m.pa;have j:=m.gr;go_upto_region 2 with(first|(go_at_call 61;refine(l.go (λ_=>False) (λ_ q=>q.elim) _ j).mono ?_;rintro e J ⟨lb,C,rfl,n,d,i⟩)|(go_at_call 66;refine Z0 (a lb C _ d i) λH o=>?_)|(refine ZV R 70 _ R (w+1) R 70 PA (0,0) _ A s_ rfl v ?_));have E:=o_ (o_ (o_ j n) o) ((q_ H).alloc (ZJ f t u) 87);go_wp2;go_ret;exact⟨R,E⟩
def fe(c n:Bool):I1:=if c=Zl then[]else if n=Zk then[43]else[35]
def fZ{g:Int}(r:jE z wh fc b h g PA)(o:xO z=Zk)(p:-1<=b)(q:b<=63)(y:0<=xR z wh)(A:xR z wh<=63)(w:I6)(x:jF w)(v:jQ w):ZL 59 #[jP,PA] w (xJ (fe (kz z wh) (!(xC z wh fc b).isEmpty))):=by
 have a:=λW=>fp r o y A W;have d:=λW (u:Gr w W)=>aZ r o p q W (x.gr u) (v.gr u);have j:(c_.info? 70).map (·.size)=S PA.size:=VU;have k:=ac w PA;generalize (!(xC z wh fc b).isEmpty)=e at d|-;generalize kz _ _=c at a|-;simp only[jP,zG]at k a d|-;cases c with
 | false=>
  unfold ZL;go_in;go_upto_region 1 with fail;show n_ _ _ _ _ ((w.alloc (Z #[.func (.func 60) #[] #[],.func (.func 61) #[] #[]] 74)).alloc (Z PA 70));generalize (w.alloc _).alloc _=B at k|-;have c0:=k.c0;have c1:=k.c1;have f:=k.pa
  go_wp2_with(first|(go_at_call 124;refine Z0 (a _) λC l=>?_)|(refine ZV R 70 _ R (w+1) R 70 PA (0,0) _ f s_ rfl j ?_));have m:=o_ k.gr l;go_ret;exact⟨R,m⟩
 | true=>
  unfold ZL;go_in;go_upto_region 1 with fail;show n_ _ _ _ _ ((w.alloc (Z #[.func (.func 60) #[] #[],.func (.func 61) #[] #[]] 74)).alloc (Z PA 70));generalize (w.alloc _).alloc _=B at k|-;have c0:=k.c0;have c1:=k.c1;have f:=k.pa
  go_upto_region 3 with(first|(go_at_call 124;refine Z0 (a _) λC l=>?_)|(refine ZV R 70 _ R (w+1) R 70 PA (0,0) _ f s_ rfl j ?_));have i:=k.next l;have c0:=i.c0;have c1:=i.c1;have f:=i.pa;cases e with
  | false=>
   go_wp2_with(first|(go_at_call 125;refine Z0 (d _ i.gr) λD n=>?_)|(refine ZV R 70 _ R (w+1) R 70 PA (0,0) _ f s_ rfl j ?_));have m:=o_ i.gr n;go_ret;exact⟨R,m⟩
  | true=>
   go_wp2_with(first|(go_at_call 125;refine Z0 (d _ i.gr) λD n=>?_)|(refine ZV R 70 _ R (w+1) R 70 PA (0,0) _ f s_ rfl j ?_));have m:=o_ i.gr n;go_ret;exact⟨R,m⟩
theorem gz(L:List Mv)(f:Nat):(iT L f).length<=2:=by
 unfold iT;by_cases a:L.isEmpty=Zk
 .rw[qI a];simp
 rw[qF a];by_cases b:L.all (λy=>!decide (y.1%8=f%8))=Zk
 .rw[qI b];simp
 rw[qF b];by_cases d:L.all (λy=>!decide (y.1/8=f/8))=Zk
 .rw[qI d];simp
 rw[qF d,zF];simp
structure Bm(w:I6)(PA M:I0)(W:I6):Prop where
 c0:W.cell? w.heap.size=S (.func (.func 60) #[] #[])
 c1:W.cell? ⟨w.heap.size,1,N⟩=S (.func (.func 61) #[] #[])
 pa:W.heap[w.heap.size+1]?=S (Z PA 70)
 mv:W.heap[w.heap.size+1+1]?=S (Z M 87)
 gr:Gr w W
def Bm.next(h:Bm w PA M W)(g:Gr W a):Bm w PA M a:=⟨(ZW g (Ye W _ h.c0)).trans h.c0,(ZW g (Ye W _ h.c1)).trans h.c1,ZE g h.pa,ZE g h.mv,o_ h.gr g⟩
def Bm.start(w:I6)(PA M:I0):Bm w PA M (((w.alloc (Z jP 74)).alloc (Z PA 70)).alloc (Z M 87)):=by have e:Gr (w.alloc (Z jP 74)) (((w.alloc (Z jP 74)).alloc (Z PA 70)).alloc (Z M 87)):=ZN.al;have a:=(YG e w Vj).trans (ZQ w _);obtain⟨b,d⟩:=x6 (w.alloc (Z jP 74)) (Z PA 70) (Z M 87);rw[Z3]at b d;exact⟨by rw[Zs a];rfl,by rw[Zs a];rfl,b,d,o_ ZN e⟩
def Bm.cells{g:Int}{t:Nat}(a:f<64)(d:t<64)(r:jE z wh fc b h g PA)(q:Bm w PA (ZJ f t u) W):W.cell? w=S (.func (.func 60) #[] #[])/\W.cell? ⟨w,1,N⟩=S (.func (.func 61) #[] #[])/\W.heap[w.heap.size+1]?=Z PA 70/\W.cell? ⟨w+1+1,0,N⟩=I L f/\W.cell? ⟨w+1+1,1,N⟩=I L t/\W.cell? ⟨w+1+1,2,N⟩=I Zg u.toNat/\W.cell? ⟨w+1,f,N⟩=I Zg (z f).toNat/\W.cell? ⟨w+1,t,N⟩=I Zg (z t).toNat:=by obtain⟨e,i,j⟩:=qm q.mv;exact⟨q.c0,q.c1,q.pa,e,i,j,by rw[Zs q.pa];exact r.sq f a,by rw[Zs q.pa];exact r.sq t d⟩
def qke{g:Int}(r:jE z wh fc b h g PA)(L:xO z=Zk)(F:-1<=b)(G:b<=63)(f t:Nat)(l:f<64)(m:t<64)(u:UInt8)(hz:(z f).toNat<128)(w:I6)(hT:jF w)(hC:jQ w):ZL 123 #[jP,PA,ZJ f t u] w (xJ (zQ (xC z wh fc b) z f t)):=by
 have H:=X (λW=>gV (z f) hz W);have n:=X (λW (gW:Gr w W)=>lj r L F G f t l u W (hT.gr gW) (hC.gr gW));have hN:=X (λW=>qxp t m W);have b2:(c_.info? 70).map (·.size)=S PA.toList.length:=U1;have a9:=Bm.start w PA (ZJ f t u);have J:(iT (jX (xC z wh fc b) z f t) f).length<=2:=gz _ _;have b1:(z t=46/\((z t).toNat:Int)=46)\/(z t≠46/\((z t).toNat:Int)≠46):=by
  by_cases e:z t=46
  .exact Zi ⟨e,Tg⟩
  exact Zj ⟨e,λq=>e (q6.1 (by have:(46:UInt8).toNat=46:=R;omega))⟩
 unfold zQ;generalize iT (jX (xC z wh fc b) z f t) f=wt at n J|-;have M:=X (λW=>xb [vz (z f)] wt WX W);have T:=X (λW=>xb ([vz (z f)]++wt) [120] WX W);have a7:=X (λW=>xb ([vz (z f)]++wt) [xA t,xI t] WX W);have a6:=X (λW=>xb ([vz (z f)]++wt++[120]) [xA t,xI t] WX W);have P:Y (z t=46->xJ (vz (z f)::(wt++(if z t=46 then[]else[120])++xQ t))=xJ ([vz (z f)]++wt++[xA t,xI t])):=X (λa=>by rw[qI a,Yh];rfl);have Q:Y (z t≠46->xJ (vz (z f)::(wt++(if z t=46 then[]else[120])++xQ t))=xJ ([vz (z f)]++wt++[120]++[xA t,xI t])):=X (λa=>by rw[qF a];rfl);obtain⟨RS,E⟩:=Zn (xJ (vz (z f)::(wt++(if z t=46 then[]else[120])++xQ t)));rw[E.a]at P Q|-;generalize xJ ([vz (z f)]++wt++[120]++[xA t,xI t])=S4 at a6 Q;generalize xJ ([vz (z f)]++wt++[xA t,xI t])=S3 at a7 P;generalize xJ ([vz (z f)]++wt++[120])=S2 at T a6;generalize xJ ([vz (z f)]++wt)=a8 at M T a7;generalize xJ [vz (z f)]=UC at M H;generalize xJ wt=WT at M n;generalize xJ [xA t,xI t]=b0 at a7 a6 hN;have a1:∀W,(k_ .add UC WT).run c_ W=.ok a8 W:=M.a;have a2:∀W,(k_ .add a8 ⟨#[120]⟩).run c_ W=.ok S2 W:=T.a;have a3:∀W,(k_ .add a8 b0).run c_ W=.ok S3 W:=a7.a;have a4:∀W,(k_ .add S2 b0).run c_ W=.ok S4 W:=a6.a;have a0:¬(64<=(f:Int)):=O;have a5:¬(64<=(t:Int)):=O;simp only[jP,zG]at a9 n|-;unfold ZL;go_in;go_upto_region 1 with fail;show n_ _ _ _ _ (((w.alloc (Z #[.func (.func 60) #[] #[],.func (.func 61) #[] #[]] 74)).alloc (Z PA 70)).alloc (Z (ZJ f t u) 87));generalize (((w.alloc (Z #[.func (.func 60) #[] #[],.func (.func 61) #[] #[]] 74)).alloc (Z PA 70)).alloc (Z (ZJ f t u) 87))=wA at a9|-;refine ZT (S:=Bm w PA (ZJ f t u)) WR (a9.next ZO.drew) (λd=>?_);refine ZB 0 (ZI (w+1+1)) R (λw i=>Vm) d ?_;refine ZB 1 (I .i64 f) R (λw i=>Vm) d ?_;refine ZB 2 (ZI (w+1)) R (λw i=>Vm) d ?_;refine ZB 3 (.pointer (S ⟨w+1,f,N⟩)) R (λw i=>Vm) d ?_;refine ZB 4 (I Zg (z f).toNat) R (λw i=>Vm) d ?_;refine ZB 6 (Zc #[.func (.func 60) #[] #[],.func (.func 61) #[] #[]]) R (λw i=>Vm) d ?_;refine ty 7 PA R (wY b2 Vb _ R (w+1) R (λ_ h=>h.pa)) d ?_;refine ZB 8 (ZJ f t u) R (λw i=>Vm) d ?_;refine rd 5 λK hK=>?_;go_simp;refine Z0 (H.a _) λwc k=>?_;refine hK.out _ _ (d.next k) λd=>?_;try simp only[py]
 refine rd 9 λK hK=>?_;go_simp;refine Z0 (n.a _ d.gr) λwc k=>?_;refine hK.out _ _ (d.next k) λd=>?_;try simp only[py]
 refine ZB 10 a8 R (λw i=>Vm) d ?_;refine rd 11 λK hK=>?_;go_simp;refine hK.out _ _ d λd=>?_;try simp only[py]
 refine ZZ WR ?_ _;obtain⟨c0,c1,A,p,v,y,cf,o⟩:=Bm.cells l m r d;obtain⟨V,e2⟩|⟨V,e2⟩:=b1
 .have D:=X (P.a V);exact O0
 have D:=X (Q.a V);exact O0
def cm{g:Int}(r:jE z wh fc b h g PA)(E:xO z=Zk)(C:-1<=b)(D:b<=63)(f t:Nat)(a0:f<64)(M:t<64)(u:UInt8)(a5:u.toNat<128)(hz:(z f).toNat<128)(w:I6)(a2:jF w)(a1:jQ w):ZL 58 #[jP,PA,ZJ f t u] w (xJ (jR (xC z wh fc b) z (f,t,u))):=by
 have j:=X (λW=>qjk (z f) W);have n:=X (λW=>xz (z f) W);have B:=X (λW=>dS f t a0 M u a5 W);have y:=X (λW (Q:Gr w W)=>qke r E C D f t a0 M u hz W (a2.gr Q) (a1.gr Q));have A:(c_.info? 70).map (·.size)=S PA.size:=VU;have H:=X (Bm.start w PA (ZJ f t u));have v:Y (jA (z f)=Zk->t=f+2->xJ (jR (xC z wh fc b) z (f,t,u))=⟨#[79,45,79]⟩):=X (λa c=>by unfold jR;rw[qI ⟨a,c⟩];rfl);have x:Y (jA (z f)=Zk->t≠f+2->t+2=f->xJ (jR (xC z wh fc b) z (f,t,u))=⟨#[79,45,79,45,79]⟩):=X (λa c d=>by unfold jR;rw[qF (λq=>c q.2),qI ⟨a,d⟩];rfl);have l:Y (¬(jA (z f)=Zk/\t=f+2)->¬(jA (z f)=Zk/\t+2=f)->jD (z f)=Zk->xJ (jR (xC z wh fc b) z (f,t,u))=xJ (z7 f t u)):=X (λa c d=>by unfold jR;rw[qF a,qF c,qI d]);have m:Y (¬(jA (z f)=Zk/\t=f+2)->¬(jA (z f)=Zk/\t+2=f)->jD (z f)=Zl->xJ (jR (xC z wh fc b) z (f,t,u))=xJ (zQ (xC z wh fc b) z f t)):=X (λa c d=>by unfold jR;rw[qF a,qF c,qF Oi]);have a6:¬(64<=(f:Int)):=O;have w2:a_ L ((f:Int)+2)=(f:Int)+2:=Vc;have w3:a_ L ((f:Int)-2)=(f:Int)-2:=Vc;generalize xJ (jR (xC z wh fc b) z (f,t,u))=RS at v x l m|-;generalize xJ (z7 f t u)=PW at B l;generalize xJ (zQ (xC z wh fc b) z f t)=PC at y m;generalize jA (z f)=kv at j v x l m;generalize jD (z f)=V at n l m;simp only[jP,zG]at H y|-;unfold ZL;go_in;go_upto_region 1 with fail;show n_ _ _ _ _ (((w.alloc (Z #[.func (.func 60) #[] #[],.func (.func 61) #[] #[]] 74)).alloc (Z PA 70)).alloc (Z (ZJ f t u) 87));generalize (((w.alloc (Z #[.func (.func 60) #[] #[],.func (.func 61) #[] #[]] 74)).alloc (Z PA 70)).alloc (Z (ZJ f t u) 87))=wA at H|-;obtain⟨c0,c1,T,m0,m1,m2,cf,a3⟩:=Bm.cells a0 M r H.a;have F:=X T;have i:=X H.a.gr;go_upto_region 2 with fail;have a7:Y (∀(P:Prop),P->P):=X λ_ p=>p;cases kv with
 | true=>
  by_cases G:t=f+2
  .have a4:(t:Int)=f+2:=O
   have o:=X (v R G);go_wp2_with(go_at_call 120;apply Z1 (j _));go_ret;exact⟨Un,i⟩
  have a4:¬(t:Int)=f+2:=O
  by_cases J:t+2=f
  .have K:(t:Int)=f-2:=O
   have o:=X (x R G J);go_wp2_with(go_at_call 120;apply Z1 (j _));go_ret;exact⟨Un,i⟩
  have K:¬(t:Int)=f-2:=O
  cases V with
  | true=>
   have o:=X (l (λq=>G q.2) (λq=>J q.2) R)
   go_wp2_with(first|(go_at_call 120;apply Z1 (j _))|(go_at_call 121;apply Z1 (n _))|(go_at_call 122;refine Z0 (B _) λe k=>?_));go_ret;exact⟨Un,o_ i k⟩
  | false=>
   have o:=X (m (λq=>G q.2) (λq=>J q.2) R)
   go_wp2_with(first|(go_at_call 120;apply Z1 (j _))|(go_at_call 121;apply Z1 (n _))|(go_at_call 123;refine Z0 (y _ i) λe k=>?_)|(refine ZV R 70 _ R (w+1) R 70 PA (0,0) _ F.a s_ rfl A ?_));go_ret;exact⟨Un,o_ i k⟩
 | false=>
  cases V with
  | true=>
   have o:=X (l (λq=>by cases q.1) (λq=>by cases q.1) R)
   go_wp2_with(first|(go_at_call 120;apply Z1 (j _))|(go_at_call 121;apply Z1 (n _))|(go_at_call 122;refine Z0 (B _) λe k=>?_));go_ret;exact⟨Un,o_ i k⟩
  | false=>
   have o:=X (m (λq=>by cases q.1) (λq=>by cases q.1) R)
   go_wp2_with(first|(go_at_call 120;apply Z1 (j _))|(go_at_call 121;apply Z1 (n _))|(go_at_call 123;refine Z0 (y _ i) λe k=>?_)|(refine ZV R 70 _ R (w+1) R 70 PA (0,0) _ F.a s_ rfl A ?_));go_ret;exact⟨Un,o_ i k⟩
def pX(z:I2)(wh:Bool)(fc:I5)(b:Int)(x:Mv):I1:=fe (kz (zE z b x) (!wh)) (!(xC (zE z b x) (!wh) (kB fc x.1 x.2.1 4) (vK z x.1 x.2.1)).isEmpty)
def uj(z:I2)(wh:Bool)(fc:I5)(b:Int)(x:Mv):I1:=jR (xC z wh fc b) z x++pX z wh fc b x
def d6(c n:Bool):fe c n=[]\/fe c n=[43]\/fe c n=[35]:=by cases c<;>cases n<;>simp[fe]
def De{g:Int}(o:Ok z wh fc b h g){x y:Mv}(a:x∈xC z wh fc b)(d:y∈xC z wh fc b)(e:uj z wh fc b x=uj z wh fc b y):x=y:=mC o.good o.b0 o.b1 a d (d6 _ _) (d6 _ _) e
def Ok.king{g:Int}(o:Ok z wh fc b h g):0<=xR z wh/\xR z wh<=63:=by obtain⟨y,a,_,e⟩:=js (o.good.k1 wh);omega
def ae(M:List Mv){t:Nat}(h:pZ z wh fc b f t u i):(jR M z (f,t,u)).length<=10:=by grind[F4,z7,qZ,zF,zQ,gz,jX]
def fE:∀p,p<12->(yQ p).toNat<128:=WS
def oW:∀u∈U5,u.toNat<128:=WS
def pZ.small{t:Nat}(h:pZ z wh fc b f t u i):(z f).toNat<128:=by have d:=h.hi;have a:bg wh=0\/bg wh=6:=UM;rw[jn (p:=bg wh+i) O h.hc];exact fE _ O
def pe{g:Int}(r:jE z wh fc b h g PA)(o:Ok z wh fc b h g)(f t:Nat)(u:UInt8)(B:(f,t,u)∈xC z wh fc b)(w:I6)(a0:jF w)(H:jQ w)(a5:vJ w):ZL 32 #[jP,PA,ZJ f t u] w (xJ (uj z wh fc b (f,t,u))):=by
 obtain⟨i,a1⟩:=um o.good o.b0 o.b1 B;have o':=o.next B;obtain⟨p,q,hu,v,x⟩:=o.mv B;obtain⟨P,a3,T,V⟩:=o.clk;have m:=λW (l:Gr w W)=>cm r o.lay o.b0 o.b1 f t p q u (oW u hu) a1.small W (a0.gr l) (H.gr l);have J:=λW (l:Gr w W)=>iJ r f t u p q v x P a3 T V W (a5.gr l);have n:∀(Q:I0) W,Gr w W->jE (zE z b (f,t,u)) (!wh) (kB fc f t 4) (vK z f t) (kK z f t h) (kj wh g) Q->ZL 59 #[jP,Q] W (xJ (pX z wh fc b (f,t,u))):=λQ W l rQ=>fZ rQ o'.lay o'.b0 o'.b1 o'.king.1 o'.king.2 W (a0.gr l) (H.gr l);have k:(c_.info? 70).map (·.size)=S PA.toList.length:=U1;have M:=Bm.start w PA (ZJ f t u);have a7:(pX z wh fc b (f,t,u)).length<=1:=by unfold pX;rcases d6 (kz (zE z b (f,t,u)) (!wh)) (!(xC (zE z b (f,t,u)) (!wh) (kB fc f t 4) (vK z f t)).isEmpty)with e|e|e<;>(rw[e];simp)
 have y:=λW=>xb (jR (xC z wh fc b) z (f,t,u)) (pX z wh fc b (f,t,u)) (by have:=ae (xC z wh fc b) a1;omega) W;unfold uj;generalize xJ (jR (xC z wh fc b) z (f,t,u)++pX z wh fc b (f,t,u))=a2 at y|-;generalize xJ _=a6 at y m;generalize xJ _=a8 at y n;have a4:=y;simp only[jP,zG]at M m n|-;unfold ZL;go_in;go_upto_region 1 with fail;show n_ _ _ _ _ (((w.alloc (Z #[.func (.func 60) #[] #[],.func (.func 61) #[] #[]] 74)).alloc (Z PA 70)).alloc (Z (ZJ f t u) 87));generalize ((w.alloc (Z #[.func (.func 60) #[] #[],.func (.func 61) #[] #[]] 74)).alloc (Z PA 70)).alloc _=wA at M|-;refine ZT (S:=Bm w PA (ZJ f t u)) WR (M.next ZO.drew) (λa=>?_);apply ZB 0 _ R (λw j=>Vv) a;apply ty 1 _ R (wY k Vb _ R (w+1) R (λ_ h=>h.pa)) a;apply ZB 2 _ R (λw j=>Vv) a;apply ZB 4 _ R (λw j=>Vv) a;apply ty 5 _ R (wY k Vb _ R (w+1) R (λ_ h=>h.pa)) a;apply ZB 6 _ R (λw j=>Vv) a;refine rd 3 λK hK=>?_;go_simp;refine Z0 (m _ a.gr) λwc d=>?_;refine hK.out _ _ (a.next d) λa=>?_;try simp only[py]
 refine rd 7 λK hK=>?_;go_simp;refine(J _ a.gr).mono ?_;rintro e wc ⟨Q,rfl,hQ,d⟩;refine hK.out _ _ (a.next d) λa=>?_;try simp only[py]
 refine rd 8 λK hK=>?_;go_simp;refine Z0 (n _ _ a.gr hQ) λwc d=>?_;refine hK.out _ _ (a.next d) λa=>?_;try simp only[py]
 apply ZB 9 _ R (λw j=>Vv) a;refine rd 10 λK hK=>?_;exact IU
def cN(a c:I4):(a.toList==c.toList)=Zm (a=c):=by
 by_cases e:a=c
 .subst e;simp
 rw[qE e,qM];intro q;rw[Xl,Xl]at q;exact e (bytes_inj q)
structure Rf(w:I6)(Bx B1 B2 B3:Nat)(PA M:I0)(tx:I4)(W:I6):Prop where
 q:W.heap[B1]?=S (Z jP 74)
 pa:W.heap[B2]?=S (Z PA 70)
 s:W.heap[B3]?=S (Z #[Zb tx] 9)
 mv:W.heap[Bx]?=S (Z M 87)
 gr:Gr w W
def Rf.next{f:I6}{a b:Nat}{i:I4}(h:Rf w e a b d PA M i W)(g:Gr W f):Rf w e a b d PA M i f:=⟨ZE g h.q,ZE g h.pa,ZE g h.s,ZE g h.mv,o_ h.gr g⟩
def Rf.cells{b:Nat}{g:I4}{a c d:I7}(h:Rf w b e i f PA #[a,c,d] g W):W.cell? e=S (.func (.func 60) #[] #[])/\W.cell? ⟨e,1,N⟩=S (.func (.func 61) #[] #[])/\W.cell? b=a/\W.cell? ⟨b,1,N⟩=c/\W.cell? ⟨b,2,N⟩=d/\W.cell? f=Zb g:=by obtain⟨j,k,l⟩:=qm h.mv;exact⟨by rw[Zs h.q];rfl,by rw[Zs h.q];rfl,j,k,l,(qi h.s).1⟩
def mH{g:Int}(r:jE z wh fc b h g PA)(o:Ok z wh fc b h g)(i:I4)(f t:Nat)(u:UInt8)(G:(f,t,u)∈xC z wh fc b)(p j q:Nat)(w:I6)(x:w.heap[p]?=Z jP 74)(y:w.heap[j]?=Z PA 70)(A:w.heap[q]?=Z #[i] 9)(E:jF w)(B:jQ w)(D:vJ w):ZL 68 #[ZJ f t u,ZI p,ZI j,ZI q] w (Zm (xJ (uj z wh fc b (f,t,u))=i)):=by
 have d:=λW (v:Gr w W)=>pe r o f t u G W (E.gr v) (B.gr v) (D.gr v);have m:(c_.info? 70).map (·.size)=S PA.toList.length:=U1;have k:Gr w (w.alloc (Z (ZJ f t u) 87)):=ZN;have F:Rf w w p j q PA (ZJ f t u) i (w.alloc (Z (ZJ f t u) 87)):=⟨ZE k x,ZE k y,ZE k A,ZQ w _,k⟩;generalize xJ _=P at d|-;rw[<-cN];simp only[jP,zG]at d;unfold ZL;go_in;go_upto_region 1 with fail;show n_ _ _ _ _ (w.alloc (Z (ZJ f t u) 87));generalize w.alloc _=M at F|-;refine ZT (S:=Rf w w p j q PA (ZJ f t u) i) WR (F.next ZO.drew) (λa=>?_);apply ZB 0 _ R (λw n=>Uv) a;apply ty 1 _ R (wY m Vb _ R j R (λ_ h=>h.pa)) a;apply ZB 2 _ R (λw n=>Uv) a;apply ZB 4 i R (λw n=>Uv) a;refine rd 3 λK hK=>?_;go_simp;refine Z0 (d _ a.gr) λwc l=>?_;refine hK.out _ _ (a.next l) λa=>?_;try simp only[py]
 apply tq 5 _ a;refine rd 6 λK hK=>?_;exact IU
def cU(z:I2)(wh:Bool)(fc:I5)(b:Int)(tx:I4):List Mv:=(xC z wh fc b).filter λx=>Zm (xJ (uj z wh fc b x)=tx)
structure E0(w:I6)(PA:I0)(tx:I4)(W:I6):Prop where
 q:W.heap[w.heap.size]?=S (Z jP 74)
 pa:W.heap[w.heap.size+1]?=S (Z PA 70)
 s:W.heap[w.heap.size+1+1]?=S (Z #[Zb tx] 9)
 mv:W.heap[w.heap.size+1+1+1]?=S (Z #[I L 0,I L 0,I Zg 0] 87)
 gr:Gr w W
def E0.next{b:I4}(h:E0 w PA b W)(g:Gr W a):E0 w PA b a:=⟨ZE g h.q,ZE g h.pa,ZE g h.s,ZE g h.mv,o_ h.gr g⟩
def E0.start(w:I6)(PA:I0)(a:I4):E0 w PA a ((((w.alloc (Z jP 74)).alloc (Z PA 70)).alloc (Z #[a] 9)).alloc (Z #[I L 0,I L 0,I Zg 0] 87)):=by have g:Gr w ((((w.alloc (Z jP 74)).alloc (Z PA 70)).alloc (Z #[a] 9)).alloc (Z #[I L 0,I L 0,I Zg 0] 87)):=ZN.al.al.al;refine⟨?_,?_,?_,?_,g⟩<;>(simp only[World.alloc,Array.getElem?_push,Array.size_push];first|(simp;done)|(simp;repeat(rw[qF O])))
def nM{g:Int}(r:jE z wh fc b h g PA)(o:Ok z wh fc b h g)(a:I4)(w:I6)(Z:jF w)(v:jQ w)(a1:vJ w):ZL 37 #[jP,PA,a] w (Ze #[gJ ((cU z wh fc b a).headD (0,0,0)),!(cU z wh fc b a).isEmpty]):=by
 have a0:=qmf;have C:(c_.info? 70).map (·.size)=S PA.size:=VU;have H:=E0.start w PA a;obtain⟨⟨f,t,u⟩,n⟩:=Zn ((cU z wh fc b a).headD (0,0,0));have i:∀(Bp J Bf:Nat)(W:I6),E0 w PA a W->W.heap[Bp]?=S (.cells PA 70)->W.heap[J]?=S (.cells #[.func (.func 128) #[] #[ZI Bp]] 141)->W.heap[Bf]?=S (.cells #[.func (.func 68) #[] #[ZI w,ZI (w+1),ZI (w+1+1)]] 143)->ZL 66 #[.func (.func 155) #[] #[ZI J,ZI Bf]] W (Ze #[ZJ f t u,!(cU z wh fc b a).isEmpty]):=λBp J Bf W d hp ht hf=>by
  have m:=Z.gr d.gr;have l:=v.gr d.gr;have A:=a1.gr d.gr;have D:=qxq r o.lay o.b0 o.b1 Bp (λ_=>False) (λ_ q=>q.elim) W hp m l;have E:=D.mono (C':=λk=>(k=Bp\/k=2\/k=3)\/k=w.heap.size\/k=w.heap.size+1\/k=w.heap.size+1+1\/k=1) (λk q=>Zi q)
  have j:∀k,((k=Bp\/k=2\/k=3)\/k=w.heap.size\/k=w.heap.size+1\/k=w.heap.size+1+1\/k=1)->k<W.heap.size:=by
   rintro k ((rfl|rfl|rfl)|rfl|rfl|rfl|rfl)
   .exact(qB.1 hp).1
   .exact m.2
   .exact l.2
   .exact(qB.1 d.q).1
   .exact(qB.1 d.pa).1
   .exact(qB.1 d.s).1
   exact A.2
  have F:=qkg E (YC func128 WR R) (YC func68 WR R) (λ_ q=>q.elim) (λ_ _ q=>q) j J Bf (λx=>Zm (xJ (uj z wh fc b x)=a)) ht hf (by rintro⟨f',t',u'⟩ hx V y;exact mH r o a f' t' u' hx w (w+1) (w+1+1) V (y.same _ _ d.q (Zj (Zi R))) (y.same _ _ d.pa (Zj (Zj (Zi R)))) (y.same _ _ d.s (Zj (Zj (Zj (Zi R))))) (m.fr y (λ_=>Zi (Zj (Zi R)))) (l.fr y (λ_=>Zi (Zj (Zj R)))) (A.fr y (λ_=>Zj (Zj (Zj (Zj R))))))
  refine(qzv F (YC func155 WR R) (by
   rintro k (q|rfl|rfl)
   .exact j k q
   .exact(qB.1 ht).1
   exact(qB.1 hf).1)).mono λe w' k=>⟨?_,k.2⟩
  have:=n;unfold cU at this;rw[k.1,this];rfl
 rw[n.a];generalize (!(cU z wh fc b a).isEmpty)=a4 at i|-;simp only[jP,zG,gJ]at H|-;unfold ZL;go_in;go_upto_region 1 with fail;show n_ _ _ _ _ ((((w.alloc (.cells #[.func (.func 60) #[] #[],.func (.func 61) #[] #[]] 74)).alloc (.cells PA 70)).alloc (.cells #[a] 9)).alloc (.cells #[I L 0,I L 0,I Zg 0] 87));generalize (((w.alloc (.cells #[.func (.func 60) #[] #[],.func (.func 61) #[] #[]] 74)).alloc (.cells PA 70)).alloc (.cells #[a] 9)).alloc _=w0 at H|-;have c1:w0.cell? ⟨w,1,N⟩=S (.func (.func 61) #[] #[]):=by rw[Zs H.q];rfl
 have Q:=H.pa;have a7:=λW=>zk PA W;have a3:=λg gf lb lf W=>dV g gf lb lf W;go_wp2_with(first|(go_at_call 61;refine Z0 (a7 _) λw2⟨G,a5⟩=>?_)|(go_at_call 67;refine Z0 (a3 _ _ _ _ _) λw3⟨a6,K,B⟩=>?_;have a2:=H.next (o_ a5 B);have P:=(ZE B G))|(go_at_call 66;refine Z0 (i _ _ _ _ a2 P a6 K) λw4 M=>?_;have p:=a2.next M)|(refine ZU R 87 _ _ R (w+1+1+1) (ZJ f t u) R R 87 #[I L 0,I L 0,I Zg 0] p.mv xW R Vi ?_)|(refine ZV R 70 _ R (w+1) R 70 PA (0,0) _ Q s_ rfl C ?_));exact ZS (v:=Ze #[ZJ f t u,a4]) (qj results37 _ _ (w+1+1+1) 87 (ZJ f t u) (0,0) _ R (Zt p.mv) underlying87 rfl xW) R ⟨R,p.gr.setRow _ O _⟩
structure AC(w:I6)(b1:Nat)(A:I0)(W:I6):Prop where
 pa:W.heap[b1]?=S (Z A 70)
 gr:Gr w W
def AC.next{b:Nat}(h:AC w b A W)(g:Gr W a):AC w b A a:=⟨ZE g h.pa,o_ h.gr g⟩
def AC.put{a:Nat}(h:AC w a A W)(B:Nat)(M:I0)(d:w<=B)(b:a≠B):AC w a A (W.setRow B M):=⟨by rw[Zu b];exact h.pa,h.gr.setRow _ d _⟩
def vU(s t:I4)(e:Ending):Prop:=
 (∃k,iP s k/\e=Zd (Ze #[Zb ⟨#[]⟩,I L k]))\/(∃p,xG s=S p/\xP p=Zk/\cU (xM p) p.white (yC p.castle) p.behind t=[]/\e=Zd (Ze #[Zb ⟨#[]⟩,I L 4]))\/(∃p x,xG s=S p/\xP p=Zk/\x∈cU (xM p) p.white (yC p.castle) p.behind t/\e=Zd (Ze #[Zb (xJ (yJ x)),I L 0]))
def AA(z:I2)(wh:Bool)(fc:I5)(b:Int)(f t n:Nat):Bool:=!decide (n=f)&&Zm (z n=z f)&&vo z wh fc b n t 0
def kI(z:I2)(wh:Bool)(fc:I5)(b:Int)(f t k:Nat):List Nat:=(h_ k).filter (AA z wh fc b f t)
def iH(L:List Nat)(f:Nat):Nat:=(L.filter λn=>Zm (n%8=f%8)).length
def iG(L:List Nat)(f:Nat):Nat:=(L.filter λn=>Zm (n/8=f/8)).length
def Ew{t:Nat}(h:AA z wh fc b f t k=Zl):kI z wh fc b f t (k+1)=kI z wh fc b f t k:=by unfold kI;rw[YI,YJ,List.filter_cons_of_neg (by rw[h];simp),List.filter_nil,Yh]
def Cn{t:Nat}(h:AA z wh fc b f t k=Zk):kI z wh fc b f t (k+1)=kI z wh fc b f t k++[k]:=by unfold kI;rw[YI,YJ,List.filter_cons_of_pos h,List.filter_nil]
def lZ(z:I2)(wh:Bool)(fc:I5)(b:Int)(f t k:Nat):(kI z wh fc b f t k).length<=k:=by unfold kI;exact q7 (Y8 _ _) (by rw[List.length_range];exact Zy)
def wO(L:List Nat)(f k:Nat):iH (L++[k]) f=iH L f+(if k%8=f%8 then 1 else 0):=by unfold iH;rw[YJ,qZ];by_cases h:k%8=f%8<;>simp[h]
def wN(L:List Nat)(f k:Nat):iG (L++[k]) f=iG L f+(if k/8=f/8 then 1 else 0):=by unfold iG;rw[YJ,qZ];by_cases h:k/8=f/8<;>simp[h]
structure Rm(w:I6)(PA M:I0)(W:I6):Prop where
 pa:W.heap[w.heap.size]?=S (Z PA 70)
 mv:W.heap[w.heap.size+1]?=S (Z M 125)
 gr:Gr w W
def Rm.next(h:Rm w PA M W)(g:Gr W a):Rm w PA M a:=⟨ZE g h.pa,ZE g h.mv,o_ h.gr g⟩
def Rm.start(w:I6)(PA M:I0):Rm w PA M ((w.alloc (Z PA 70)).alloc (Z M 125)):=by obtain⟨a,b⟩:=x6 w (Z PA 70) (Z M 125);exact⟨a,b,ZN.al⟩
def Rm.cells{g:Int}{t:Nat}(a:f<64)(d:k<64)(r:jE z wh fc b h g PA)(q:Rm w PA (ZJ f t u) W):W.cell? ⟨w+1,0,N⟩=I L f/\W.cell? ⟨w+1,1,N⟩=I L t/\W.cell? ⟨w+1,2,N⟩=I Zg u.toNat/\W.cell? ⟨w,f,N⟩=I Zg (z f).toNat/\W.cell? ⟨w,k,N⟩=I Zg (z k).toNat:=by obtain⟨e,i,j⟩:=qm q.mv;exact⟨e,i,j,by rw[Zs q.pa];exact r.sq f a,by rw[Zs q.pa];exact r.sq k d⟩
def nL(k t:Int):c_.built 125 [(0,k),(1,t)]=S #[I L k,I L t,I Zg 0]:=WR
def iF{g:Int}(r:jE z wh fc b h g PA)(hC:kJ z wh fc b)(b0:-1<=b)(b1:b<=63)(h0:0<=h)(h1:h<=65535)(g0:0<=g)(g1:g<=65535)(f t:Nat)(p:f<64)(ht:t<64)(u:UInt8)(w:I6):ZL 109 #[PA,ZJ f t u] w (xJ (wh3 (!(kI z wh fc b f t 64).isEmpty) (Zm (iH (kI z wh fc b f t 64) f≠0)) (Zm (iG (kI z wh fc b f t 64) f≠0)) f)):=by
 have d5:Y (∀k:Nat,k<64->∀W,ZL 105 #[PA,Zc #[k,t,I Zg 0]] W (vo z wh fc b k t 0)):=X (λk hk W=>qjj r hC b0 b1 h0 h1 g0 g1 k t hk ht 0 WW W);obtain⟨va,a0⟩:=Zn (!(kI z wh fc b f t 64).isEmpty);obtain⟨vc,a1⟩:=Zn (Zm (iH (kI z wh fc b f t 64) f≠0));obtain⟨vd,a2⟩:=Zn (Zm (iG (kI z wh fc b f t 64) f≠0));rw[a0.a,a1.a,a2.a];have hN:=X (λW=>qxo f p W);have b3:(c_.info? 70).map (·.size)=S PA.size:=VU;have hq:=X (Rm.start w PA (ZJ f t u));have c6:¬(64<=(f:Int)):=O;have sz:(⟨(xQ f).toArray⟩:I4).size=2:=R;have b5:(⟨(xQ f).toArray⟩:I4).extract 0 1=xJ [xA f]:=R;have b6:(⟨(xQ f).toArray⟩:I4).extract 1 2=xJ [xI f]:=R;have a6:Y ((⟨(xQ f).toArray⟩:I4)=xJ [xA f,xI f]):=X R;generalize (⟨(xQ f).toArray⟩:I4)=NF at hN sz b5 b6 a6;unfold ZL;go_in;go_upto_region 1 with fail;show n_ _ _ _ _ ((w.alloc (Z PA 70)).alloc (Z (ZJ f t u) 125));generalize ((w.alloc (Z PA 70)).alloc (Z (ZJ f t u) 125))=w0 at hq|-;go_wp2;go_loopg [5,6,7,8,9] 64 (λgk a c d n _ wr=>∃k:Nat,k+gk=64/\n=k/\a=((kI z wh fc b f t k).length:Int)/\c=(iH (kI z wh fc b f t k) f:Int)/\d=(iG (kI z wh fc b f t k) f:Int)/\Rm w PA (ZJ f t u) wr)
 .exact⟨0,O,R,R,R,R,hq.a⟩
 obtain⟨k,k1,rfl,rfl,rfl,rfl,hR⟩:=hrel;by_cases c5:k<64
 .have i:k<64:=c5;have d1:0<=(k:Int):=O;have kl:(k:Int)<64:=O;have d0:¬(64<=(k:Int)):=O;have D:=lZ z wh fc b f t k;have P:iH (kI z wh fc b f t k) f<=k:=q7 (Y8 _ _) D;have Q:iG (kI z wh fc b f t k) f<=k:=q7 (Y8 _ _) D;have wk:a_ L ((k:Int)+1)=(k:Int)+1:=Vc;obtain⟨d4,T⟩:=Zn ((kI z wh fc b f t k).length);obtain⟨of,f1⟩:=Zn (iH (kI z wh fc b f t k) f);obtain⟨E,V⟩:=Zn (iG (kI z wh fc b f t k) f);rw[T.a]at D|-;rw[f1.a]at P|-;rw[V.a]at Q|-;have G:Y (AA z wh fc b f t k=Zl->(kI z wh fc b f t (k+1)).length=d4/\iH (kI z wh fc b f t (k+1)) f=of/\iG (kI z wh fc b f t (k+1)) f=E):=X λq=>by rw[Ew q];exact⟨T.a,f1.a,V.a⟩
  have K:Y (AA z wh fc b f t k=Zk->(kI z wh fc b f t (k+1)).length=d4+1/\iH (kI z wh fc b f t (k+1)) f=of+(if k%8=f%8 then 1 else 0)/\iG (kI z wh fc b f t (k+1)) f=E+(if k/8=f/8 then 1 else 0)):=X λq=>by rw[Cn q,wO,wN,qZ,T.a,f1.a,V.a];exact⟨R,R,R⟩
  have wo:a_ L ((d4:Int)+1)=(d4:Int)+1:=Vc;have wf:a_ L ((of:Int)+1)=(of:Int)+1:=Vc;have d2:a_ L ((E:Int)+1)=(E:Int)+1:=Vc;by_cases hA:k=f
  .have b7:(k:Int)=f:=O;obtain⟨e,M,d3⟩:=G.a (by unfold AA;simp[hA]);have m:=X (YB e (YB M d3));go_upto_region 7 with fail;refine ZT (S:=Rm w PA (ZJ f t u)) WR (hR.next ZO.drew) (λl=>?_);refine ZB 0 k R (λw j=>WZ) l ?_;refine ZB 1 (ZI (w+1)) R (λw j=>WZ) l ?_;refine ZB 2 f R (λw j=>WZ) l ?_;refine ZB 3 Zk R (λw j=>WZ) l ?_;refine ZB 4 Zk R (λw j=>WZ) l ?_;refine ZA 5 l ?_;refine ZA 6 l ?_;refine ZA 7 l ?_;refine ZA 8 l ?_;refine ZA 9 l ?_;refine ZA 10 l ?_;refine ZA 11 l ?_;refine ZA 12 l ?_;refine ZA 13 l ?_;refine ZA 14 l ?_;exact OI
  have b7:¬(k:Int)=f:=O;by_cases hB:z k=z f
  .have a7:((z k).toNat:Int)=((z f).toNat:Int):=(by rw[hB]);have c4:(((z k).toNat:Int)!=((z f).toNat:Int))=Zl:=(by rw[hB];simp);have f3:=X (λW=>d5.a k i W);obtain⟨lv,J⟩:=Zn (vo z wh fc b k t 0);rw[J.a]at f3;go_upto_region 7 with fail;refine ZT (S:=Rm w PA (ZJ f t u)) WR (hR.next ZO.drew) (λl=>?_);refine ZB 0 k R (λw j=>WZ) l ?_;refine ZB 1 (ZI (w+1)) R (λw j=>WZ) l ?_;refine ZB 2 f R (λw j=>WZ) l ?_;refine ZB 3 Zl R (λw j=>WZ) l ?_;refine ZB 4 Zl R (λw j=>WZ) l ?_;refine ZB 5 k R (λw j=>WZ) l ?_;refine ZB 6 (ZI w) R (λw j=>WZ) l ?_;refine ZB 7 (.pointer (S ⟨w,k,N⟩)) R (λw j=>WZ) l ?_;refine ZB 8 (I Zg (z k).toNat) R (λw j=>WZ) l ?_;refine ZB 9 (ZI (w+1)) R (λw j=>WZ) l ?_;refine ZB 10 f R (λw j=>WZ) l ?_;refine ZB 11 (ZI w) R (λw j=>WZ) l ?_;refine ZB 12 (.pointer (S ⟨w,f,N⟩)) R (λw j=>WZ) l ?_;refine ZB 13 (I Zg (z f).toNat) R (λw j=>WZ) l ?_;refine ZB 14 Zl R (λw j=>WZ) l ?_;refine ZB 15 Zl R (λw j=>WZ) l ?_;refine ZZ WR ?_ _;obtain⟨A,y,x,cf,o⟩:=Rm.cells p i r l;have b4:=X l.pa;have B:=X l;go_upto_region 9 with(first|(go_at_call 105;refine Z0 (f3.a _) λw5 b2=>?_)|(refine ZV R 70 _ R w R 70 PA (0,0) _ b4.a s_ rfl b3 ?_)|(refine qqq R 125 _ R #[k,t,I Zg 0] ?_ ?_;focus (go_simp;exact nL _ _)));have f2:=B.a.next b2;obtain⟨A,y,x,cf,o⟩:=Rm.cells p i r f2;have H:=X f2;cases lv with
   | false=>
    obtain⟨e,M,d3⟩:=G.a (by unfold AA;rw[J.a];simp);have m:=X (YB e (YB M d3));go_wp2;go_roundg (gk-1)
    .exact⟨k+1,O,Vg,by rw[m.a.1],by rw[m.a.2.1],by rw[m.a.2.2],H.a⟩
    omega
   | true=>
    obtain⟨e,M,d3⟩:=K.a (by unfold AA;rw[J.a];simp[hA,hB]);have m:=X (YB e (YB M d3));by_cases hF:k%8=f%8<;>by_cases hG:k/8=f/8
    .exact w_ (show k=f from O) hA
    .rw[qI hF,qF hG]at m;have a8:(k:Int)%8=f%8:=O
     have a9:¬(k:Int)/8=f/8:=O
     go_wp2;go_roundg (gk-1)
     .exact⟨k+1,O,Vg,by rw[m.a.1];rfl,by rw[m.a.2.1];rfl,by rw[m.a.2.2];rfl,H.a⟩
     omega
    .rw[qF hF,qI hG]at m;have a8:¬(k:Int)%8=f%8:=O
     have a9:(k:Int)/8=f/8:=O
     go_wp2;go_roundg (gk-1)
     .exact⟨k+1,O,Vg,by rw[m.a.1];rfl,by rw[m.a.2.1];rfl,by rw[m.a.2.2];rfl,H.a⟩
     omega
    rw[qF hF,qF hG]at m;have a8:¬(k:Int)%8=f%8:=O
    have a9:¬(k:Int)/8=f/8:=O
    go_wp2;go_roundg (gk-1)
    .exact⟨k+1,O,Vg,by rw[m.a.1];rfl,by rw[m.a.2.1];rfl,by rw[m.a.2.2];rfl,H.a⟩
    omega
  have a7:¬((z k).toNat:Int)=((z f).toNat:Int):=λq=>hB (q6.1 O);have c4:(((z k).toNat:Int)!=((z f).toNat:Int))=Zk:=qU.2 a7;obtain⟨e,M,d3⟩:=G.a (by unfold AA;simp[hB]);have m:=X (YB e (YB M d3));go_upto_region 7 with fail;refine ZT (S:=Rm w PA (ZJ f t u)) WR (hR.next ZO.drew) (λl=>?_);refine ZB 0 k R (λw j=>WZ) l ?_;refine ZB 1 (ZI (w+1)) R (λw j=>WZ) l ?_;refine ZB 2 f R (λw j=>WZ) l ?_;refine ZB 3 Zl R (λw j=>WZ) l ?_;refine ZB 4 Zl R (λw j=>WZ) l ?_;refine ZB 5 k R (λw j=>WZ) l ?_;refine ZB 6 (ZI w) R (λw j=>WZ) l ?_;refine ZB 7 (.pointer (S ⟨w,k,N⟩)) R (λw j=>WZ) l ?_;refine ZB 8 (I Zg (z k).toNat) R (λw j=>WZ) l ?_;refine ZB 9 (ZI (w+1)) R (λw j=>WZ) l ?_;refine ZB 10 f R (λw j=>WZ) l ?_;refine ZB 11 (ZI w) R (λw j=>WZ) l ?_;refine ZB 12 (.pointer (S ⟨w,f,N⟩)) R (λw j=>WZ) l ?_;refine ZB 13 (I Zg (z f).toNat) R (λw j=>WZ) l ?_;refine ZB 14 Zk R (λw j=>WZ) l ?_;exact OI
 have ek:k=64:=O;subst ek;obtain⟨A,y,x,cf,o⟩:=Rm.cells p p r hR;have f0:=X hR.gr;have D:=lZ z wh fc b f t 64;have P:iH (kI z wh fc b f t 64) f<=64:=q7 (Y8 _ _) D;have Q:iG (kI z wh fc b f t 64) f<=64:=q7 (Y8 _ _) D;have a3:Y ((kI z wh fc b f t 64).length=0↔va=Zl):=X (by rw[<-a0.a];cases kI z wh fc b f t 64<;>simp);have a4:Y (iH (kI z wh fc b f t 64) f=0↔vc=Zl):=X (by rw[<-a1.a];simp);have a5:Y (iG (kI z wh fc b f t 64) f=0↔vd=Zl):=X (by rw[<-a2.a];simp);generalize (kI z wh fc b f t 64).length=d4 at D a3|-;generalize iH (kI z wh fc b f t 64) f=of at P a4|-;generalize iG (kI z wh fc b f t 64) f=E at Q a5|-;cases va with
 | false=>
  have e0:(d4:Int)=0:=by have:=a3.a.2 R;omega
  go_wp2_with(go_at_call 110;refine Z0 (hN.a _) λw9 F=>?_);go_ret;exact⟨R,o_ f0.a F⟩
 | true=>
  have e0:¬(d4:Int)=0:=by
   have:¬d4=0:=λq=>by have:=a3.a.1 q;cases this
   omega
  cases vc with
  | false=>
   have e1:(of:Int)=0:=(by have:=a4.a.2 R;omega);go_wp2_with(go_at_call 110;refine Z0 (hN.a _) λw9 F=>?_);go_ret;exact⟨R,o_ f0.a F⟩
  | true=>
   have e1:¬(of:Int)=0:=by
    have:¬of=0:=λq=>by have:=a4.a.1 q;cases this
    omega
   cases vd with
   | false=>
    have e2:(E:Int)=0:=(by have:=a5.a.2 R;omega);go_wp2_with(go_at_call 110;refine Z0 (hN.a _) λw9 F=>?_);go_ret;exact⟨R,o_ f0.a F⟩
   | true=>
    have e2:¬(E:Int)=0:=by
     have:¬E=0:=λq=>by have:=a5.a.1 q;cases this
     omega
    go_wp2_with(go_at_call 110;refine Z0 (hN.a _) λw9 F=>?_);go_ret;exact⟨by rw[a6.a];rfl,o_ f0.a F⟩
def qku:∀j,j<4->(xE j=hK j+2↔j%2=0)/\(xE j+2=hK j↔j%2=1):=WS
def sk{s:Int}{t:Nat}(a:f<64)(b:t<64)(h:xS (zI z) 5 s (f:Int) (t:Int)=Zk):t≠f+2/\t+2≠f:=qxv f a t b h
def fu{t:Nat}(h:0<=zK wh fc f t 0):∃j,j<4/\f=hK j/\t=xE j/\zK wh fc f t 0=(j:Int):=by
 have i:zK wh fc f t 0=if jZ wh fc f t 0 0 then 0 else if jZ wh fc f t 0 1 then 1 else if jZ wh fc f t 0 2 then 2 else if jZ wh fc f t 0 3 then 3 else -1:=R;rw[i]at h|-;by_cases b:jZ wh fc f t 0 0=Zk
 .rw[qI b];obtain⟨_,_,a,c⟩:=(zv O).1 b;exact⟨0,O,a,c,R⟩
 rw[qF b]at h|-;by_cases d:jZ wh fc f t 0 1=Zk
 .rw[qI d];obtain⟨_,_,a,c⟩:=(zv O).1 d;exact⟨1,O,a,c,R⟩
 rw[qF d]at h|-;by_cases e:jZ wh fc f t 0 2=Zk
 .rw[qI e];obtain⟨_,_,a,c⟩:=(zv O).1 e;exact⟨2,O,a,c,R⟩
 rw[qF e]at h|-;by_cases g:jZ wh fc f t 0 3=Zk
 .rw[qI g];obtain⟨_,_,a,c⟩:=(zv O).1 g;exact⟨3,O,a,c,R⟩
 rw[qF g]at h;omega
def pZ.cas{t:Nat}(h:pZ z wh fc b f t u 5):(t=f+2->0<=zK wh fc f t u/\zK wh fc f t u%2=0)/\(t+2=f->0<=zK wh fc f t u/\zK wh fc f t u%2=1)/\(t≠f+2->t+2≠f->zK wh fc f t u<0):=by
 have r:=h.u0 O;subst r;have p:vE (z f)=5:=by simpa using ro h.hi h.hc
 have l:=h.go;unfold j9 at l;rw[qH,qF O]at l;have i:=l.2;unfold EE at i;rw[p]at i;have k:(t=f+2\/t+2=f)->0<=zK wh fc f t 0:=λq=>by
  cases n:xS (zI z) 5 (xK wh) (f:Int) (t:Int)with
  | true=>
   have:=sk h.hf h.ht n;omega
  | false=>
   have o:(5:Int).toNat=5:=R;rw[o,n]at i;simp only[qR,YH,qH,qG]at i;exact i.1.2
 refine⟨λq=>?_,λq=>?_,λv w=>?_⟩
 .have d:=k (Zi q);obtain⟨j,g,a,c,e⟩:=fu d;have:=(qku j g).1.1 O;exact⟨d,by rw[e];omega⟩
 .have d:=k (Zj q);obtain⟨j,g,a,c,e⟩:=fu d;have:=(qku j g).2.1 O;exact⟨d,by rw[e];omega⟩
 by_cases d:0<=zK wh fc f t 0
 .obtain⟨j,g,a,c,e⟩:=fu d;have p1:=(qku j g).1;have p2:=(qku j g).2;obtain m|m:=Nat.mod_two_eq_zero_or_one j
  .have:=p1.2 m;omega
  have:=p2.2 m;omega
 omega
def pZ.dot{t:Nat}(a:kJ z wh fc b)(h:pZ z wh fc b f t u 0)(d:f%8=t%8):z t=46:=by
 have:=(h.pawn a).2 d;unfold oB at this;obtain⟨rfl,q⟩|⟨_,rfl,_,q⟩:=this
 .exact q
 exact q
def da(e:kJ z wh fc b)(a:-1<=b)(d:b<=63){t:Nat}(g:f<64)(h:t<64)(i:u∈U5):vo z wh fc b f t u=Zk↔(f,t,u)∈xC z wh fc b:=by rw[C8 e a d g h i,je e a d]
def Cm(x:kJ z wh fc b)(v:-1<=b)(w:b<=63){t:Nat}(D:pZ z wh fc b f t u i)(J:i≠0):wh3 (!(kI z wh fc b f t 64).isEmpty) (Zm (iH (kI z wh fc b f t 64) f≠0)) (Zm (iG (kI z wh fc b f t 64) f≠0)) f=iT (jX (xC z wh fc b) z f t) f:=by
 have h:∀n,n∈kI z wh fc b f t 64↔∃y∈jX (xC z wh fc b) z f t,y.1=n:=by
  intro n;unfold kI jX AA;rw[qV,qK];simp only[qH,YK,qX,qG,qV];constructor
  .rintro⟨B,⟨a,c⟩,d⟩;exact⟨(n,t,0),⟨(da x v w B D.ht WW).1 d,⟨R,a⟩,c⟩,R⟩
  rintro⟨⟨H,M,P⟩,⟨F,⟨e,a⟩,c⟩,rfl⟩;obtain rfl:M=t:=e;obtain⟨j,o⟩:=um x v w F;have K:j=i:=by have r:=D.hc;have m:=o.hc;rw[show z H=z f from c,r]at m;omega
  have C:=o.u0 O;subst C;exact⟨o.hf,⟨a,c⟩,(da x v w o.hf D.ht WW).2 F⟩
 rw[C0];have r:(!(kI z wh fc b f t 64).isEmpty)=(!(jX (xC z wh fc b) z f t).isEmpty):=by
  congr 1;cases E:jX (xC z wh fc b) z f t with
  | nil=>
   cases A:kI z wh fc b f t 64 with
   | nil=>rfl
   | cons n l=>
    obtain⟨y,k,_⟩:=(h n).1 (by rw[A];exact XE ..);rw[E]at k;cases k
  | cons y l=>
   have:=(h y.1).2 ⟨y,by rw[E];exact XE ..,R⟩;cases A:kI z wh fc b f t 64 with
   | nil=>rw[A]at this;cases this
   | cons n l=>rfl
 have m:∀p:I5,Zm (((kI z wh fc b f t 64).filter p).length≠0)=(jX (xC z wh fc b) z f t).any λy=>p y.1:=by
  intro p;by_cases g:(jX (xC z wh fc b) z f t).any (λy=>p y.1)=Zk
  .rw[g,qG];obtain⟨y,k,G⟩:=qY.1 g;have:y.1∈(kI z wh fc b f t 64).filter p:=qV.2 ⟨(h _).2 ⟨y,k,R⟩,G⟩;intro q;rw[Yz]at q;rw[q]at this;cases this
  rw[XH]at g;rw[g,qX,Decidable.not_not,Yz,X1];intro n B;obtain⟨y,k,rfl⟩:=(h n).1 B;have:=XD.1 g y k;exact OY
 unfold iH iG;rw[r,m,m]
def mR(z:Nat->UInt8)(c:Bool)(M:List Mv):(yO z c (M.length:Int)=1↔c=Zk/\M.isEmpty=Zk):=by
 unfold yO;cases M with
 | nil=>cases c<;>simp
 | cons a l=>
  have:¬(((a::l).length:Nat):Int)=0:=WX
  rw[qF this];constructor
  .intro q;split at q<;>omega
  rintro⟨_,q⟩;cases q
def lD:∀i,i<6->(⟨#[80,78,66,82,81,75,112,110,98,114,113,107]⟩:I4).extract i (i+1)=xJ [kX i]:=WS
def BJ:∀u∈U5,u≠0->dP u<6/\kX (dP u)=vz u:=WS
structure Rs(w:I6)(PA M:I0)(B:Nat)(Q:I0)(W:I6):Prop where
 pa:W.heap[w.heap.size]?=S (Z PA 70)
 mv:W.heap[w.heap.size+1]?=S (Z M 125)
 q:W.heap[B]?=S (Z Q 70)
 gr:Gr w W
def Rs.next{Q:I0}(h:Rs w PA M B Q W)(g:Gr W a):Rs w PA M B Q a:=⟨ZE g h.pa,ZE g h.mv,ZE g h.q,o_ h.gr g⟩
def qvd{g:Int}(r:jE z wh fc b h g PA)(o:Ok z wh fc b h g)(f t:Nat)(u:UInt8)(hx:(f,t,u)∈xC z wh fc b)(w:I6):ZL 52 #[Zc PA,Zc (ZJ f t u)] w (.string (xJ (uj z wh fc b (f,t,u)))):=by
 obtain⟨i,x4⟩:=um o.good o.b0 o.b1 hx;have o':=o.next hx;obtain⟨hf,ht,hu,_,_⟩:=o.mv hx;obtain⟨a0,a1,a2,a3⟩:=o.clk;obtain⟨d0,d1,d2,d3⟩:=o'.clk;have g7:=x4.hi;have n4:Y (∀W,i_ c_ 107 #[I Zg (z f).toNat] W λe w'=>e=Zd (I L i)/\w'=W):=X (λW=>by rw[<-ro x4.hi x4.hc];exact zp (z f) W);have h9:Y (∀W,i_ c_ 106 #[Zc PA,Zc (ZJ f t u)] W λe w'=>∃Q,e=Zd (Zc Q)/\jE (zE z b (f,t,u)) (!wh) (kB fc f t 4) (vK z f t) (kK z f t h) (kj wh g) Q/\Gr W w'):=X (λW=>(qxg r f t hf ht u hu a0 a1 a2 a3 W).mono λe w' ⟨Q,j,e2,e3⟩=>⟨Q,j,bT o.good a1 a3 hf ht hu ((da o.good o.b0 o.b1 hf ht hu).2 hx) e2,e3⟩);have d:Y (∀Q,jE (zE z b (f,t,u)) (!wh) (kB fc f t 4) (vK z f t) (kK z f t h) (kj wh g) Q->∀W,ZL 112 #[Zc Q] W (Zc (bx (zE z b (f,t,u)) (!wh) (kB fc f t 4) (vK z f t)))):=X (λQ rQ W=>eL rQ o'.good o'.b0 o'.b1 d0 d1 d2 d3 o'.king.1 o'.king.2 W);have a7:=X (λW=>qxf r f t u W);have A:Y (i≠0->∀W,ZL 109 #[Zc PA,Zc (ZJ f t u)] W (.string (xJ (iT (jX (xC z wh fc b) z f t) f)))):=X (λhi W=>by rw[<-Cm o.good o.b0 o.b1 x4 hi];exact iF r o.good o.b0 o.b1 a0 a1 a2 a3 f t hf ht u W);have x:Y (∀W,ZL 110 #[I L f] W (.string (xJ [xA f,xI f]))):=X (λW=>qxo f hf W);have k:Y (∀W,ZL 110 #[I L t] W (.string (xJ [xA t,xI t]))):=X (λW=>qxo t ht W);have l:Y (u≠0->∀W,i_ c_ 111 #[.string ⟨#[112,110,98,114,113,107]⟩,I Zg u.toNat] W λe w'=>e=Zd (I L (dP u:Nat))/\w'=W):=X (λh0 W=>qvi u hu h0 W);have n3:(c_.info? 70).map (·.size)=S PA.toList.length:=U1;have f0:(c_.info? 70).map (·.size)=S PA.size:=VU;have hq:=X (Rm.start w PA (ZJ f t u));have D:Y (i=5->_):=X (λe=>pZ.cas (e▸x4));have b6:Y (i=0->f%8=t%8->z t=46):=X (λe q=>pZ.dot o.good (e▸x4) q);have f8:Y (i≠0->u=0):=X x4.u0;have v:=X (F4 (xC z wh fc b) x4);have g9:Y (i=5->(t=f+2\/t+2=f)->jR (xC z wh fc b) z (f,t,u)=zQ (xC z wh fc b) z f t->False):=X (λe q p=>by
  have g8:=(zj x4.hi x4.hc).2;rw[e]at g8;unfold jR at p;have k3:=x4.cap;obtain q|q:=q
  .rw[qI ⟨by rw[g8];rfl,q⟩]at p;unfold zQ at p;rw[k3]at p;injection p with p _;exact E9 i g7 p.symm
  rw[qF (λq2=>by have h2:t=f+2:=q2.2;omega),qI ⟨by rw[g8];rfl,q⟩]at p;unfold zQ at p;rw[k3]at p;injection p with p _;exact E9 i g7 p.symm)
 have s5:=ae (xC z wh fc b) x4;have b5:Y (vz (z f)=kX i):=X x4.cap;have v1:¬(64<=(f:Int)):=O;have x1:¬(64<=(t:Int)):=O;unfold uj;have hE:Y (∀c n:Bool,(kz (zE z b (f,t,u)) (!wh))=c->(!(xC (zE z b (f,t,u)) (!wh) (kB fc f t 4) (vK z f t)).isEmpty)=n->pX z wh fc b (f,t,u)=fe c n):=X (λc n j e2=>by rw[pX,j,e2]);have x5:Y (yO (zE z b (f,t,u)) (kz (zE z b (f,t,u)) (!wh)) ((xC (zE z b (f,t,u)) (!wh) (kB fc f t 4) (vK z f t)).length:Int)=1↔kz (zE z b (f,t,u)) (!wh)=Zk/\(xC (zE z b (f,t,u)) (!wh) (kB fc f t 4) (vK z f t)).isEmpty=Zk):=X (mR _ _ _);unfold bx at d;generalize yO (zE z b (f,t,u)) (kz (zE z b (f,t,u)) (!wh)) ((xC (zE z b (f,t,u)) (!wh) (kB fc f t 4) (vK z f t)).length:Int)=ov at d x5;generalize ((xC (zE z b (f,t,u)) (!wh) (kB fc f t 4) (vK z f t)).length:Int)=nm at d;generalize (xC (zE z b (f,t,u)) (!wh) (kB fc f t 4) (vK z f t)).isEmpty=em at x5 hE;generalize kz (zE z b (f,t,u)) (!wh)=ck at d x5 hE;obtain⟨es,k4⟩:=Zn (pX z wh fc b (f,t,u));rw[k4.a]at hE|-;obtain⟨F,h8⟩:=Zn (jR (xC z wh fc b) z (f,t,u));rw[h8.a]at v s5 g9|-;generalize zK wh fc f t u=cr at a7 D;unfold ZL;go_in;go_upto_region 1 with fail;show n_ _ _ _ _ ((w.alloc (Z PA 70)).alloc (Z (ZJ f t u) 125));generalize ((w.alloc (Z PA 70)).alloc (Z (ZJ f t u) 125))=w0 at hq|-;obtain⟨m0,m1,m2,cf,ct⟩:=Rm.cells hf ht r hq.a;have f1:=X hq.a.pa;go_upto_region 3 with(go_at_call 107;refine Z1 (n4.a _) ?_);go_upto_region 4 with(first|(go_at_call 106;refine(h9.a _).mono ?_;rintro e x2 ⟨Q,rfl,hQ,k5⟩;have g4:=hQ.size;have h5:=X (qx hQ))|(refine ZV R 70 _ R w.heap.size R 70 PA (0,0) _ f1.a s_ rfl f0 ?_)|(refine ZC x2.heap.size Q Zv g4 h5.a ?_));have g3:((x2.alloc (Z b_ 70)).setRow x2.heap.size Q).heap[x2.heap.size]?=S (Z Q 70):=Zt (Z7 x2 _);have k8:Gr x2 ((x2.alloc (Z b_ 70)).setRow x2.heap.size Q):=ZN.setRow _ Zy _;have a4:Rs w PA (ZJ f t u) x2.heap.size Q ((x2.alloc (Z b_ 70)).setRow x2.heap.size Q):=by have q4:=hq.a.next (o_ k5 k8);exact⟨q4.pa,q4.mv,g3,q4.gr⟩
 show n_ _ _ _ _ ((x2.alloc (Z b_ 70)).setRow x2.heap.size Q);generalize (x2.alloc (Z b_ 70)).setRow x2.heap.size Q=w4 at a4|-;generalize x2.heap.size=B at a4|-;obtain⟨m0,m1,m2,cf,ct⟩:=Rm.cells hf ht r ⟨a4.pa,a4.mv,a4.gr⟩;have b7:=X a4;obtain⟨TK,y⟩:∃TK,Y (TK=Zk↔(z t≠46\/(i=0/\f%8≠t%8))):=⟨Zm (z t≠46\/(i=0/\f%8≠t%8)),X decide_eq_true_iff⟩;have f4:(z t=46/\((z t).toNat:Int)=46/\(((z t).toNat:Int)!=46)=Zl)\/(z t≠46/\¬((z t).toNat:Int)=46/\(((z t).toNat:Int)!=46)=Zk):=by
  by_cases e:z t=46
  .exact Zi ⟨e,Tg,Tg⟩
  have e':¬((z t).toNat:Int)=46:=λq=>e (q6.1 (by have:(46:UInt8).toNat=46:=R;omega));exact Zj ⟨e,e',qU.2 e'⟩
 try simp only[py]
 go_cut [8]from 23 to 42 (λs8 wx=>s8=Za TK/\wx=w4)
 .obtain⟨j,e2,e3⟩|⟨j,e2,e3⟩:=f4
  .by_cases l4:i=0
   .have l5:(i:Int)=0:=O;by_cases w7:f%8=t%8
    .have p0:(f:Int)%8=t%8:=O;have J:Y (TK=Zl):=X (by rw[<-XH,y.a];rintro(q|q);exact q j;exact q.2 w7);exact IT
    have p0:¬(f:Int)%8=t%8:=O;have v2:((f:Int)%8 !=(t:Int)%8)=Zk:=qU.2 p0;have J:Y (TK=Zk):=X (y.a.2 (Zj ⟨l4,w7⟩));exact IT
   have l5:¬(i:Int)=0:=O;have J:Y (TK=Zl):=X (by rw[<-XH,y.a];rintro(q|q);exact q j;exact l4 q.1);exact IT
  have J:Y (TK=Zk):=X (y.a.2 (Zi j));exact IT
 obtain⟨rfl,f2⟩:=hcut;have f3:=f2.symm;subst f3;have f1:=X b7.a.pa;go_upto_region 7 with(first|(go_at_call 108;refine Z0 (a7.a _) λw5 k9=>?_)|(refine ZV R 70 _ R w.heap.size R 70 PA (0,0) _ f1.a s_ rfl f0 ?_));have H:=X (b7.a.next k9);try simp only[py]
 obtain⟨CB,m⟩:∃CB,Y (CB=Zk↔(i=5/\0<=cr)):=⟨Zm (i=5/\0<=cr),X decide_eq_true_iff⟩;go_cut [50]from 45 to 51 (λt9 wx=>t9=Za CB/\wx=w5)
 .by_cases f7:i=5
  .have m6:((i:Int)==5)=Zk:=UP;by_cases k0:0<=cr
   .have J:Y (CB=Zk):=X (m.a.2 ⟨f7,k0⟩);exact OD
   have J:Y (CB=Zl):=X (by rw[<-XH,m.a];exact λq=>k0 q.2);clear m d A x k l v D f7;exact OD
  have m6:((i:Int)==5)=Zl:=Vp;have J:Y (CB=Zl):=X (by rw[<-XH,m.a];exact λq=>f7 q.1);exact OD
 obtain⟨rfl,f2⟩:=hcut;have f3:=f2.symm;subst f3;go_upto_if 50 with fail;go_cut [9]from 51 to 90 (λs9 wx=>s9=.string (xJ F)/\Rs w PA (ZJ f t u) B Q wx)
 .obtain⟨m0,m1,m2,cf,ct⟩:=Rm.cells hf ht r ⟨H.a.pa,H.a.mv,H.a.gr⟩;obtain⟨x3,b2,w3⟩|⟨x3,b2,w3⟩|⟨x3,w3⟩|⟨x3,w3⟩:=v.a
  .obtain⟨q0,q1⟩:=(D.a x3).1 b2;have J:CB=Zk:=m.a.2 ⟨x3,q0⟩;have et:Int.tmod cr 2=0:=(by rw[Int.tmod_eq_emod_of_nonneg q0];exact q1);exact JE
  .obtain⟨q0,q1⟩:=(D.a x3).2.1 b2;have J:CB=Zk:=m.a.2 ⟨x3,q0⟩;have et:Int.tmod cr 2=1:=(by rw[Int.tmod_eq_emod_of_nonneg q0];exact q1);exact JE
  .have J:CB=Zl:=(by rw[<-XH,m.a];exact λq=>O);have t0:¬(0<(i:Int)):=O;have M:Y (TK=Zk↔f%8≠t%8):=X (by
    rw[y.a];exact⟨λq=>q.elim (λq1 q2=>q1 (b6.a x3 q2)) (λq1=>q1.2),λq=>Zj ⟨x3,q⟩⟩)
   have p8:(u=0/\((u.toNat:Int)!=0)=Zl)\/(u≠0/\((u.toNat:Int)!=0)=Zk):=by
    by_cases e:u=0
    .exact Zi ⟨e,Tg⟩
    exact Zj ⟨e,qU.2 (λq=>e (q6.1 Ul))⟩
   have z1:Y (f%8=t%8->u=0->xJ F=xJ ([]++[xA t,xI t])):=X (λa c=>by rw[w3];rw[z7,qI a,qI c];rfl);have z2:Y (f%8=t%8->u≠0->xJ F=xJ ([]++[xA t,xI t]++[61]++[vz u])):=X (λa c=>by rw[w3];rw[z7,qI a,qF c];rfl);have z3:Y (f%8≠t%8->u=0->xJ F=xJ ([xA f]++[120]++[xA t,xI t])):=X (λa c=>by rw[w3];rw[z7,qF a,qI c];rfl);have z4:Y (f%8≠t%8->u≠0->xJ F=xJ ([xA f]++[120]++[xA t,xI t]++[61]++[vz u])):=X (λa c=>by rw[w3];rw[z7,qF a,qF c];rfl);have r0:=X (λW=>xb [] [xA t,xI t] WU W);have r1:=X (λW=>xb [xA f] [120] WU W);have r2:=X (λW=>xb ([xA f]++[120]) [xA t,xI t] WU W);have r3:=X (λW=>xb ([]++[xA t,xI t]) [61] WU W);have r4:=X (λW=>xb ([]++[xA t,xI t]++[61]) [vz u] WU W);have r5:=X (λW=>xb ([xA f]++[120]++[xA t,xI t]) [61] WU W);have r6:=X (λW=>xb ([xA f]++[120]++[xA t,xI t]++[61]) [vz u] WU W);have h4:(xJ [xA f,xI f]).extract 0 1=xJ [xA f]:=R;have v0:(xJ [xA f,xI f]).size=2:=R;generalize xJ ([xA f]++[120]++[xA t,xI t]++[61]++[vz u])=Y6 at r6 z4;generalize xJ ([xA f]++[120]++[xA t,xI t]++[61])=Y5 at r5 r6;generalize xJ ([xA f]++[120]++[xA t,xI t])=Y2 at r2 r5 z3;generalize xJ ([xA f]++[120])=Y1 at r1 r2;generalize xJ ([]++[xA t,xI t]++[61]++[vz u])=Y4 at r4 z2;generalize xJ ([]++[xA t,xI t]++[61])=Y3 at r3 r4;generalize xJ ([]++[xA t,xI t])=Y0 at r0 r3 z1;generalize xJ [xA f,xI f]=NF at x h4 v0;generalize xJ [xA f]=F1 at r1 h4;generalize xJ [xA t,xI t]=NT at k r0 r2;generalize h7:xJ [vz u]=UC at r4 r6;have v9:∀W,(k_ .add ⟨#[]⟩ NT).run c_ W=.ok (.string Y0) W:=r0.a;have t2:∀W,(k_ .add F1 ⟨#[120]⟩).run c_ W=.ok (.string Y1) W:=r1.a;have t3:∀W,(k_ .add Y1 NT).run c_ W=.ok (.string Y2) W:=r2.a;have t4:∀W,(k_ .add Y0 ⟨#[61]⟩).run c_ W=.ok (.string Y3) W:=r3.a;have t5:∀W,(k_ .add Y3 UC).run c_ W=.ok (.string Y4) W:=r4.a;have w1:∀W,(k_ .add Y2 ⟨#[61]⟩).run c_ W=.ok (.string Y5) W:=r5.a;have w2:∀W,(k_ .add Y5 UC).run c_ W=.ok (.string Y6) W:=r6.a;have a6:Y (∀W,Gr w5 W->W.cell? ⟨w.heap.size+1,0,N⟩=S (I L f)/\W.cell? ⟨w.heap.size+1,1,N⟩=S (I L t)/\W.cell? ⟨w.heap.size+1,2,N⟩=S (I Zg u.toNat)):=X (λW gW=>qm (H.a.next gW).mv);have T:Y (u≠0->dP u<6/\(⟨#[80,78,66,82,81,75,112,110,98,114,113,107]⟩:I4).extract (dP u) (dP u+1)=UC):=X (λh0=>by
    obtain⟨k1,k2⟩:=BJ u hu h0;exact⟨k1,by rw[lD _ k1,k2,h7]⟩)
   generalize dP u=G at l T;subst J;clear m d A v D x3 w3 r0 r1 r2 r3 r4 r5 r6 y b6 f8 f4 h7 cf ct b5;by_cases w7:f%8=t%8
   .have a5:TK=Zl:=(by rw[<-XH,M.a];exact λq=>q w7);have a8:=X (z1.a w7);have a9:=X (z2.a w7);subst a5;clear z1 z2 z3 z4 w7 M;go_upto_region 18 with(go_at_call 110;refine Z0 (k.a _) λw6 x8=>?_);obtain⟨n0,n1,n2⟩:=a6.a _ x8;have P:=X (H.a.next x8);obtain⟨j,e2⟩|⟨j,e2⟩:=p8
    .have b3:=X (a8.a j);clear a8 a9 j x8;go_wp2;exact Ip
    have b3:=X (a9.a j);have h1:=X (l.a j);obtain⟨t1,f5⟩:=T.a j;have wk:a_ L ((G:Int)+1)=(G:Int)+1:=Vc;have kn:((G:Int)+1).toNat=G+1:=O;have kb:¬(12<(G:Int)+1):=O;have kc:¬((G:Int)+1<G):=O;have kd:¬((G:Int)<0):=O;have ke:(G:Int)<=G+1:=O;have kf:(G:Int)+1<=12:=O;clear a8 a9 j x8 l T;go_wp2_with(go_at_call 111;refine Z1 (h1.a _) ?_);exact Ip
   have a5:TK=Zk:=M.a.2 w7;have a8:=X (z3.a w7);have a9:=X (z4.a w7);subst a5;clear z1 z2 z3 z4 w7 M;go_upto_region 15 with(go_at_call 110;refine Z0 (x.a _) λw6 x8=>?_);obtain⟨l0,l1,l2⟩:=a6.a _ x8;have f9:=X x8;clear x8;go_upto_region 18 with(go_at_call 110;refine Z0 (k.a _) λV E=>?_);have d4:=o_ f9.a E;obtain⟨n0,n1,n2⟩:=a6.a _ d4;have P:=X (H.a.next d4);clear d4 E f9 l0 l1 l2;obtain⟨j,e2⟩|⟨j,e2⟩:=p8
   .have b3:=X (a8.a j);clear a8 a9 j;go_wp2;exact Ip
   have b3:=X (a9.a j);have h1:=X (l.a j);obtain⟨t1,f5⟩:=T.a j;have wk:a_ L ((G:Int)+1)=(G:Int)+1:=Vc;have kn:((G:Int)+1).toNat=G+1:=O;have kb:¬(12<(G:Int)+1):=O;have kc:¬((G:Int)+1<G):=O;have kd:¬((G:Int)<0):=O;have ke:(G:Int)<=G+1:=O;have kf:(G:Int)+1<=12:=O;clear a8 a9 j l T;go_wp2_with(go_at_call 111;refine Z1 (h1.a _) ?_);exact Ip
  have J:CB=Zl:=by
   rw[<-XH,m.a];rintro⟨q1,q2⟩;have s7:=D.a q1;by_cases g1:t=f+2
   .exact g9.a q1 (Zi g1) w3
   by_cases g2:t+2=f
   .exact g9.a q1 (Zj g2) w3
   have:=s7.2.2 g1 g2;omega
  have t0:0<(i:Int):=O;have M:Y (TK=Zk↔z t≠46):=X (by
   rw[y.a];exact⟨λq=>q.elim id (λq1=>w_ q1.1 x3),Zi⟩)
  have v4:((u.toNat:Int)!=0)=Zl:=by rw[f8.a x3];rfl
  have b4:=X (A.a x3);have n5:=gz (jX (xC z wh fc b) z f t) f;unfold zQ at w3;rw[b5.a]at w3;generalize iT (jX (xC z wh fc b) z f t) f=wt at b4 n5 w3;have z1:Y (z t=46->xJ F=xJ ([kX i]++wt++[xA t,xI t])):=X (λa=>by rw[w3,qI a,Yh];rfl);have z2:Y (z t≠46->xJ F=xJ ([kX i]++wt++[120]++[xA t,xI t])):=X (λa=>by rw[w3,qF a];rfl);have r1:=X (λW=>xb [kX i] wt WX W);have r2:=X (λW=>xb ([kX i]++wt) [120] WX W);have r3:=X (λW=>xb ([kX i]++wt) [xA t,xI t] WX W);have r4:=X (λW=>xb ([kX i]++wt++[120]) [xA t,xI t] WX W);have f5:(⟨#[80,78,66,82,81,75,112,110,98,114,113,107]⟩:I4).extract i (i+1)=xJ [kX i]:=lD i g7;generalize xJ ([kX i]++wt++[120]++[xA t,xI t])=P4 at r4 z2;generalize xJ ([kX i]++wt++[xA t,xI t])=P3 at r3 z1;generalize xJ ([kX i]++wt++[120])=P2 at r2 r4;generalize xJ ([kX i]++wt)=P1 at r1 r2 r3;generalize xJ [kX i]=P0 at r1 f5;generalize xJ wt=WT at r1 b4;generalize xJ [xA t,xI t]=NT at k r3 r4;have t2:∀W,(k_ .add P0 WT).run c_ W=.ok (.string P1) W:=r1.a;have t3:∀W,(k_ .add P1 ⟨#[120]⟩).run c_ W=.ok (.string P2) W:=r2.a;have t4:∀W,(k_ .add P1 NT).run c_ W=.ok (.string P3) W:=r3.a;have t5:∀W,(k_ .add P2 NT).run c_ W=.ok (.string P4) W:=r4.a;have wi:a_ L ((i:Int)+1)=(i:Int)+1:=Vc;have kn:((i:Int)+1).toNat=i+1:=O;have kb:¬(12<(i:Int)+1):=O;have kc:¬((i:Int)+1<i):=O;have kd:¬((i:Int)<0):=O;have v3:∀W:I6,(Instr.slice 9 (.string (⟨#[80,78,66,82,81,75,112,110,98,114,113,107]⟩:I4)) (S (I L i)) (S (I L ((i:Int)+1))) N).run c_ W=.ok (.string P0) W:=λW=>by rw[run_slice_string W 9 _ _ _ _ _ underlying9 O O (by show(i:Int)+1<=12;omega),kn,YE,f5]
  subst J;clear m d A v D w3 r1 r2 r3 r4 y b6 f8 f4 cf ct b5 n5 l x m0 m1 m2;go_upto_region 12 with fail;refine ZT (S:=Rs w PA (ZJ f t u) B Q) WR (H.a.next ZO.drew) (λqD=>?_);refine tq 0 (I L i) qD ?_;refine tq 1 (I L i) qD ?_;refine tq 2 (I L ((i:Int)+1)) qD ?_;refine ZB 3 (.string P0) R (λw hw=>by have v5:c_.underlying 9=S .string:=underlying9;go_simp) qD ?_;refine ty 4 (Zc PA) R (wY n3 Vb _ R w.heap.size R (λ_ h=>h.pa)) qD ?_;refine ZB 5 (Zc (ZJ f t u)) R (λw hw=>by obtain⟨m0,m1,m2⟩:=qm hw.mv;go_simp) qD ?_;refine rd 6 λK hK=>?_;go_simp;refine Z0 (b4.a _) λwc l3=>?_;refine hK.out _ _ (qD.next l3) λqD=>?_;clear hK K l3;try simp only[py]
  refine tq 7 (.string P1) qD ?_;refine tq 8 (.string P1) qD ?_;refine ZZ WR ?_ _;have h6:=X qD;obtain⟨n0,n1,n2⟩:=qm qD.mv;clear qD b4;by_cases w7:z t=46
  .have a5:TK=Zl:=(by rw[<-XH,M.a];exact λq=>q w7);have b3:=X (z1.a w7);exact OF
  have a5:TK=Zk:=M.a.2 w7;have b3:=X (z2.a w7);exact OF
 obtain⟨rfl,g5⟩:=hcut;have n7:=X g5.q;have g0:=X g5.gr;have r7:(c_.info? 70).map (·.size)=S Q.size:=by rw[g4];exact jJ
 have p7:=X (d.a Q hQ);have ra:=X (λW=>xb F [35] WX W);have rb:=X (λW=>xb F [43] WX W);have c5:Y (ck=Zk->em=Zk->xJ (F++es)=xJ (F++[35])):=X (λj e2=>by rw[hE.a Zk Zl j (by rw[e2];rfl)];rfl);have c6:Y (ck=Zk->em=Zl->xJ (F++es)=xJ (F++[43])):=X (λj e2=>by rw[hE.a Zk Zk j (by rw[e2];rfl)];rfl);have f6:Y (ck=Zl->xJ (F++es)=xJ F):=X (λj=>by rw[hE.a Zl (!em) j R];show xJ (F++[])=_;rw[Yh]);clear g5 H A x k l v D d hQ h5 m0 m1 m2 cf ct m y f4 b6 f8 b5 r hE;generalize xJ (F++[35])=SA at ra c5;generalize xJ (F++[43])=SB at rb c6;have w9:∀W,(k_ .add (xJ F) ⟨#[35]⟩).run c_ W=.ok (.string SA) W:=ra.a;have x0:∀W,(k_ .add (xJ F) ⟨#[43]⟩).run c_ W=.ok (.string SB) W:=rb.a;clear ra rb;go_upto_region 22 with(first|(go_at_call 112;refine Z0 (p7.a _) λV E=>?_)|(refine ZV R 70 _ R B R 70 Q (0,0) _ n7.a s_ rfl r7 ?_)|(refine ZU R 186 _ _ R V.heap.size (xB ck nm ov) R R 186 (xB Zl 0 0) Zv vI R (xw _ _ _) ?_));have h3:((V.alloc (Z (xB Zl 0 0) 186)).setRow V.heap.size (xB ck nm ov)).heap[V.heap.size]?=S (Z (xB ck nm ov) 186):=Zt (Z7 V _);have g6:Gr w ((V.alloc (Z (xB Zl 0 0) 186)).setRow V.heap.size (xB ck nm ov)):=o_ (o_ g0.a E) (ZN.setRow _ Zy _);show n_ _ _ _ _ ((V.alloc (Z (xB Zl 0 0) 186)).setRow V.heap.size (xB ck nm ov));generalize (V.alloc (Z (xB Zl 0 0) 186)).setRow V.heap.size (xB ck nm ov)=w8 at h3 g6|-;obtain⟨s0,s1,s2⟩:=qm h3;have d5:=X g6;clear h3 g6 E p7 g0 n7;cases ck with
 | true=>
  cases em with
  | true=>
   have j:ov=1:=x5.a.2 ⟨R,R⟩;have b3:=X (c5.a R R);subst j;clear c5 c6 f6 x5;go_wp2;go_ret;exact⟨T0,d5.a⟩
  | false=>
   have j:(ov==1)=Zl:=by rw[qM];exact λq=>by have:=(x5.a.1 q).2;cases this
   have b3:=X (c6.a R R);clear c5 c6 f6 x5;go_wp2;go_ret;exact⟨T0,d5.a⟩
 | false=>
  have j:(ov==1)=Zl:=by rw[qM];exact λq=>by have:=(x5.a.1 q).1;cases this
  have b3:=X (f6.a R);clear c5 c6 f6 x5;go_wp2;go_ret;exact⟨T0,d5.a⟩
noncomputable def BE(w3:I6)(A M Q:I0):I6:=(((((w3.alloc (Z b_ 70)).alloc (Z zC 125)).alloc (Z b_ 70)).setRow w3.heap.size A).setRow (w3.heap.size+1) M).setRow (w3.heap.size+2) Q
def ru(a:I6)(A M Q:I0):Gr a (BE a A M Q):=((ZN.al.al.setRow _ Zy _).setRow _ O _).setRow _ O _
structure Ll(w2:I6)(b1:Nat)(A:I0)(b2 k f t:Nat)(u:UInt8)(W:I6):Prop where
 pa:W.heap[b1]?=S (Z A 70)
 x0:W.cell? ⟨b2,k*3,N⟩=S (I L f)
 x1:W.cell? ⟨b2,k*3+1,N⟩=S (I L t)
 x2:W.cell? ⟨b2,k*3+2,N⟩=S (I Zg u.toNat)
 gr:Gr w2 W
def Ll.next{e:I6}{b t:Nat}(h:Ll e b A d k f t u W)(g:Gr W a):Ll e b A d k f t u a:=⟨ZE g h.pa,(ZW g (Ye W _ h.x0)).trans h.x0,(ZW g (Ye W _ h.x1)).trans h.x1,(ZW g (Ye W _ h.x2)).trans h.x2,o_ h.gr g⟩
def mb(s n:I4)(hs:s.size<4294967281)(w:I6):i_ c_ 29 #[s,n] w λe w'=>vU s n e/\Gr w w':=by
 have h1:=X (qvq s hs w);obtain⟨p,hr,E,l⟩|⟨k,hk,a7,l⟩:=xy s
 .have h2:Y (ZL 53 #[s] w (Ze #[jV p,I L 0])):=h1.mono λe w' h=>⟨l e h.1,h.2⟩;have o:=Ok.of hr E;obtain⟨a0,a1,a2,a3⟩:=o.clk;have m:=jo hr;have hz:=m.size;have ho:=X (qx m);have D:Y (∀W:I6,i_ c_ 54 #[jV p] W λe w'=>∃v,e=Zd v/\np W v (yY (xM p) p.white (yC p.castle) p.behind) w'/\Gr W w'):=λW=>ai (F5 m) o.good o.b0 o.b1 a0 a1 a2 a3 W;have Q:∀y,y∈yY (xM p) p.white (yC p.castle) p.behind↔y∈xC (xM p) p.white (yC p.castle) p.behind:=λy=>by rw[qk3 o.good o.b0 o.b1];exact(xq _).mem_iff
  have b:Y (∀y∈yY (xM p) p.white (yC p.castle) p.behind,∀W,ZL 52 #[jV p,Zc #[(y.1:Int),(y.2.1:Int),I Zg (y.2.2.toNat:Int)]] W (xJ (uj (xM p) p.white (yC p.castle) p.behind y))):=λy hy W=>qvd (F5 m) o y.1 y.2.1 y.2.2 ((Q y).1 hy) W;have H:∀y∈yY (xM p) p.white (yC p.castle) p.behind,y.1<64/\y.2.1<64:=λy hy=>zg _ _ _ _ y ((Q y).1 hy);have g1:Y (∀y∈yY (xM p) p.white (yC p.castle) p.behind,xJ (uj (xM p) p.white (yC p.castle) p.behind y)=n->vU s n (Zd (Ze #[xJ (uY y.1 y.2.1 y.2.2),I L 0]))):=λy hy e=>Zj (Zj ⟨p,y,hr,E,qV.2 ⟨(Q y).1 hy,qJ e⟩,R⟩);have g0:Y ((∀y∈yY (xM p) p.white (yC p.castle) p.behind,xJ (uj (xM p) p.white (yC p.castle) p.behind y)≠n)->vU s n (Zd (Ze #[Zb ⟨#[]⟩,I L 4]))):=λq=>Zj (Zi ⟨p,hr,E,X1.2 (λy hy c=>q y ((Q y).2 hy) (q8 c)),R⟩);have d1:(yY (xM p) p.white (yC p.castle) p.behind).length<=1000000:=by rw[qk3 o.good o.b0 o.b1,qj7];exact bu _ _ _ _
  generalize yY _ _ _ _=J at D b H g1 g0 d1;obtain⟨d,f8⟩:∃d:Mv->I4,d=λy=>xJ (uj (xM p) p.white (yC p.castle) p.behind y):=⟨_,R⟩;have a:Y (∀y∈J,∀W,ZL 52 #[jV p,Zc #[(y.1:Int),(y.2.1:Int),I Zg (y.2.2.toNat:Int)]] W (d y)):=X (by rw[f8];exact b);have B:Y (∀y∈J,d y=n->vU s n (Zd (Ze #[xJ (uY y.1 y.2.1 y.2.2),I L 0]))):=X (by rw[f8];exact g1);have x:Y ((∀y∈J,d y≠n)->vU s n (Zd (Ze #[Zb ⟨#[]⟩,I L 4]))):=X (by rw[f8];exact g0);generalize jV p=A at h2 hz ho D a;have c6:(c_.info? 70).map (·.size)=S A.toList.length:=by rw[ZX,hz];exact jJ
  have a9:(c_.info? 70).map (·.size)=S A.size:=by rw[hz];exact jJ
  go_in;go_upto_region 2 with(first|(go_at_call 53;refine Z0 h2 λr f6=>?_)|(refine ZC r A Zv hz ho.a ?_));generalize b3:(r.alloc (Z b_ 70)).setRow r A=w4;have a4:AC w r A w4:=by
   have P:Gr r w4:=(by rw[<-b3];exact ZN.setRow _ Zy _);exact⟨by rw[<-b3];exact Zt (Z7 r _),o_ f6 P⟩
  generalize r.heap.size=b1 at a4|-;have a8:=X a4;go_upto_region 4 with fail;obtain⟨f5,hN⟩:∃f5,Y (f5=J.length):=⟨_,X R⟩;go_upto_region 5 with(first|(go_at_call 54;refine(D _).mono ?_;rintro e w2 ⟨v,rfl,hv,b7⟩;obtain⟨pp,c2,rfl,b5,b6⟩:=bt hv;rw[<-hN.a])|(refine ZV R 70 _ R b1 R 70 A (0,0) _ a4.pa s_ rfl a9 ?_));have M:=X b6;have f9:=X (a8.next b7);go_wp2;go_loopg [9,10] f5 (λgk i _ wr=>∃k:Nat,k+gk=f5/\i=k/\(∀j (hj:j<J.length),j<k->d J[j]≠n)/\Gr w2 wr)
  .exact⟨0,O,R,λj _ q=>w_ q (Yy j),ZO⟩
  obtain⟨k,k1,rfl,F,f7⟩:=hrel;by_cases f1:k<f5
  .have d0:k<J.length:=(by rw[<-hN.a];exact f1);obtain⟨b2,e2,x0,x1,x2⟩:=M k d0;subst e2;have G:J[k]∈J:=Xs _;have a6:=X (a _ G);have T:=H _ G;have z:=X (B _ G);have a5:Y (d J[k]≠n->∀j (hj:j<J.length),j<k+1->d J[j]≠n):=X λq j hj f2=>by
    by_cases e:j=k
    .subst e;exact q
    exact F j hj O
   generalize d _=V at a6 z a5;generalize J[k]=y at x0 x1 x2 a6 T z;obtain⟨f,t,u⟩:=y;simp only at x0 x1 x2 a6 T z;have hS:Y (Ll w2 b1 A b2 k f t u wr):=Ll.next ⟨f9.pa,x0,x1,x2,ZO⟩ f7;have d4:=X (λW=>mZ f t T.1 T.2 u W);generalize xJ _=TX at z d4;go_upto_region 8 with fail;refine ZT (S:=Ll w2 b1 A b2 k f t u) WR (hS.next ZO.drew) (λf4=>?_);apply ty 0 A R (wY c6 Vb _ R b1 R (λ_ h=>h.pa)) f4;apply tq 1 _ f4;apply tq 2 k f4;apply tq 3 _ f4;refine ZB 4 (ZJ f t u) R (λw hw=>by have x0:=hw.x0;have x1:=hw.x1;have x2:=hw.x2;go_simp) f4 ?_;refine rd 5 λK hK=>?_;go_simp;refine Z0 (a6 _) λwc c4=>?_;refine hK.out _ _ (f4.next c4) λf4=>?_;try simp only[py]
   apply tq 6 V f4;refine ZZ WR ?_ _;have b4:=X f4;have y0:=f4.x0;have y1:=f4.x1;have y2:=f4.x2;by_cases hq:V=n
   .have hb:(V.toList==n.toList)=Zk:=(by rw[cN];exact qJ hq);have g:=X (z hq);go_wp2_with(go_at_call 55;refine Z0 (d4 _) λw9 d5=>?_);go_ret2;exact⟨g,o_ (o_ f9.gr b4.gr) d5⟩
   have hb:(V.toList==n.toList)=Zl:=(by rw[cN];exact qE hq);have d2:=X (a5 hq);go_wp2;go_roundg (gk-1)
   .exact⟨k+1,O,Vg,d2,b4.gr⟩
   omega
  have g:=X (x.a λy hy=>by
   obtain⟨j,hj,rfl⟩:=List.getElem_of_mem hy;exact F j hj (by have:=hN.a;omega))
  have f0:=X (o_ f9.gr f7);go_wp2;go_ret2;exact⟨g,f0⟩
 have h2:Y (ZL 53 #[s] w (Ze #[b_,k])):=h1.mono λe w' h=>⟨l e h.1,h.2⟩;have g:Y (vU s n (Zd (Ze #[Zb ⟨#[]⟩,k]))):=Zi ⟨k,a7,R⟩;go_in;go_upto_region 2 with(first|(go_at_call 53;refine Z0 h2 λr f6=>?_)|(refine ZC r b_ Zv xF xH ?_));have P:Gr r ((r.alloc (Z b_ 70)).setRow r b_):=ZN.setRow _ Zy _;have c5:=o_ f6 P;generalize (r.alloc _).setRow _ _=w4 at P c5|-;go_wp2;go_ret2;exact⟨g,c5⟩
def LH(x:Int):a_ Zh x=U (BitVec.ofInt 64 x):=by rw[IntKind.wrap_u64];rw[U,BitVec.toNat_ofInt];have:=Int.emod_nonneg x (show(18446744073709551616:Int)≠0 from WW);have e:((2^64:Nat):Int)=18446744073709551616:=WW;rw[e];omega
def Fr.setNew{b:I6}(h:Fr Q a b){p:Addr}(u:I7)(f:a<=p.block):Fr Q a (b.setCell p u):=
 ⟨h.os,h.tape,h.output,by show a<=(b.heap.modify _ _).size;simp;exact h.size,λk o e q=>by
  have d:k≠p.block:=λd=>UR
  exact(Yg b p u k d).trans (h.same k o e q)⟩
def Ld{a b:I4}(h:a=b):Zd a=Zd b:=by rw[h]
def LF(b:Bool)(w:I6):i_ c_ 288 #[b] w λe w'=>e=Zd (Zb ⟨#[if b then 119 else 98]⟩)/\w'=w:=by
 go_in;cases b
 .exact Wz
 exact Wz
def NX(n:Nat)(h:n<64)(w:I6):ZL 69 #[n] w (Zb ⟨(xQ n).toArray⟩):=by
 have b:((j_ (97+n%8)).toNat:Int)=97+(n:Int)%8:=WX;have d:((j_ (49+n/8)).toNat:Int)=49+(n:Int)/8:=WX;have a:=qq4 (w.alloc (Z #[I Zg (97+(n:Int)%8),I Zg (49+(n:Int)/8)] 5)) ⟨w,0,N⟩ 2 (xQ n) (by
  intro i g;rw[X2,Z2,Z8 _ _ _ _ R];have:i=0\/i=1:=by simp[xQ]at g;omega
  obtain rfl|rfl:=this
  .show S (I Zg (97+(n:Int)%8))=I Zg ((j_ (97+n%8)).toNat:Int);rw[b]
  show S (I Zg (49+(n:Int)/8))=I Zg ((j_ (49+n/8)).toNat:Int);rw[d])
 have f:(convert 145 9 (Zq (S w) 2 2)).run c_ (w.alloc (Z #[I Zg (97+(n:Int)%8),I Zg (49+(n:Int)/8)] 5))=.ok (Zb ⟨(xQ n).toArray⟩) (w.alloc (Z #[I Zg (97+(n:Int)%8),I Zg (49+(n:Int)/8)] 5)):=a;unfold ZL;go_in;go_wp2;exact WM
def Ju(n:Int)(h:n=-1\/(0<=n/\n<64))(w:I6):ZL 290 #[n] w (Zb ⟨(oO n).toArray⟩):=by
 unfold ZL;go_in;by_cases f:n=-1
 .subst f;go_wp2;go_ret;exact⟨R,ZO⟩
 obtain⟨k,rfl⟩:=Yt (show 0<=n from O);have b:k<64:=O;have e:oO (k:Int)=xQ k:=by rw[oO,qF f];simp
 have d:((k:Int)==-1)=Zl:=WU;rw[e];go_wp2_with(go_at_call 69;refine Z0 (NX k b _) λw' a=>?_);go_ret;exact⟨R,a⟩
def j3(a b:I4):(a++b).data.toList=a.data.toList++b.data.toList:=WU
def Js(f:I5)(w:I6):ZL 289 #[Zc #[f 0,f 1,f 2,f 3]] w (Zb ⟨(eE f).toArray⟩):=by
 obtain⟨j,o⟩:∃b,Y (f 0=b):=⟨_,R⟩;obtain⟨k,p⟩:∃b,Y (f 1=b):=⟨_,R⟩;obtain⟨l,r⟩:∃b,Y (f 2=b):=⟨_,R⟩;obtain⟨m,u⟩:∃b,Y (f 3=b):=⟨_,R⟩;rw[o.a,p.a,r.a,u.a];have C:∀w,(l_ 68 (Zc #[j,k,l,m]) (I L 0)).run c_ w=.ok j w:=λ_=>WR;have D:∀w,(l_ 68 (Zc #[j,k,l,m]) (I L 1)).run c_ w=.ok k w:=λ_=>WR;have E:∀w,(l_ 68 (Zc #[j,k,l,m]) (I L 2)).run c_ w=.ok l w:=λ_=>WR;have F:∀w,(l_ 68 (Zc #[j,k,l,m]) (I L 3)).run c_ w=.ok m w:=λ_=>WR;unfold ZL;go_in;go_wp2;go_loopg [3,7] 4 (λg t n wr=>∃i:Nat,i+g=4/\n=i/\(∃q:I4,t=q/\q.data.toList=E5 f i/\q.size<=i)/\wr=w.alloc (Z #[j,k,l,m] 68))
 .exact⟨0,R,R,⟨_,R,R,Zy⟩,R⟩
 obtain⟨i,G,rfl,⟨q,rfl,y,B⟩,rfl⟩:=hrel;have h:=X y;by_cases e:i<4
 .have A:i=0\/i=1\/i=2\/i=3:=O;obtain rfl|rfl|rfl|rfl:=A
  .cases j
   .have a:Y (E5 f 1=E5 f 0):=X (by rw[oN,o.a];simp);go_wp2;go_roundg (gk-1)
    .exact⟨1,O,R,⟨q,R,Tk,O⟩,R⟩
    omega
   have a:Y (E5 f 1=E5 f 0++[vn 0]):=X (by rw[oN,o.a];simp);go_wp2;go_roundg (gk-1)
   .refine⟨1,O,R,⟨_,R,?_,?_⟩,R⟩
    .rw[a.a,j3,h.a];rfl
    rw[Yn];have:(ByteArray.extract ⟨#[75,81,107,113]⟩ 0 1).size=1:=R;omega
   omega
  .cases k
   .have a:Y (E5 f 2=E5 f 1):=X (by rw[oN,p.a];simp);go_wp2;go_roundg (gk-1)
    .exact⟨2,O,R,⟨q,R,Tk,O⟩,R⟩
    omega
   have a:Y (E5 f 2=E5 f 1++[vn 1]):=X (by rw[oN,p.a];simp);go_wp2;go_roundg (gk-1)
   .refine⟨2,O,R,⟨_,R,?_,?_⟩,R⟩
    .rw[a.a,j3,h.a];rfl
    rw[Yn];have:(ByteArray.extract ⟨#[75,81,107,113]⟩ 1 2).size=1:=R;omega
   omega
  .cases l
   .have a:Y (E5 f 3=E5 f 2):=X (by rw[oN,r.a];simp);go_wp2;go_roundg (gk-1)
    .exact⟨3,O,R,⟨q,R,Tk,O⟩,R⟩
    omega
   have a:Y (E5 f 3=E5 f 2++[vn 2]):=X (by rw[oN,r.a];simp);go_wp2;go_roundg (gk-1)
   .refine⟨3,O,R,⟨_,R,?_,?_⟩,R⟩
    .rw[a.a,j3,h.a];rfl
    rw[Yn];have:(ByteArray.extract ⟨#[75,81,107,113]⟩ 2 3).size=1:=R;omega
   omega
  cases m
  .have a:Y (E5 f 4=E5 f 3):=X (by rw[oN,u.a];simp);go_wp2;go_roundg (gk-1)
   .exact⟨4,O,R,⟨q,R,Tk,O⟩,R⟩
   omega
  have a:Y (E5 f 4=E5 f 3++[vn 3]):=X (by rw[oN,u.a];simp);go_wp2;go_roundg (gk-1)
  .refine⟨4,O,R,⟨_,R,?_,?_⟩,R⟩
   .rw[a.a,j3,h.a];rfl
   rw[Yn];have:(ByteArray.extract ⟨#[75,81,107,113]⟩ 3 4).size=1:=R;omega
  omega
 have z:i=4:=O;subst z;have x:q.toList.isEmpty=(E5 f 4).isEmpty:=by rw[Xl,h.a]
 cases H:(E5 f 4).isEmpty
 .rw[H]at x;have v:Y (q=⟨(eE f).toArray⟩):=X (by
   unfold eE;rw[H];have:=h;cases q with|mk d=>simp at this|-;rw[<-this])
  go_wp2;go_ret;exact⟨Ld v,ZN⟩
 rw[H]at x;have v:Y (eE f=[45]):=(by unfold eE;rw[H];rfl);go_wp2;go_ret;exact⟨Ld (by rw[v.a]),ZN⟩
def Ra:(c_.info? 5).map (λi=>(i.zero,i.size,i.bytes))=S (S (I Zg 0),1,1):=WR
def Jn(l:I1):List I7:=l.map (λc=>I Zg (c.toNat:Int))
def Txt(base:Nat)(v:I7)(l:I1)(w:I6):Prop:=w.ownsRow base 5 1 v l.length (Jn l)
def JK{l:I1}(h:Txt base v l w):∀k,v.ownBlock=S k->base<=k:=by exact O8
def Np(v:I7)(w:I6):i_ c_ 355 #[v,I L 0] w λe w'=>e=Zd v/\w'=w:=by go_in;exact Wz
def Nq(base:Nat)(v:I7)(l:I1)(x:l.length<=64)(g:Nat)(r:1<=g)(u:g<=9)(w:I6)(m:base<=w)(k:Txt base v l w):i_ c_ 355 #[v,g] w λe w'=>∃v',e=Zd v'/\Txt base v' (l++[j_ (48+g)]) w'/\Below base w w':=by
 have d:=k;obtain⟨q,n,f,h,i⟩:=We Ra;have o:((g:Int)==0)=Zl:=WX;have p:((j_ (48+g)).toNat:Int)=48+(g:Int):=WX;go_in;go_wp2_with(at_builtin;apply Xv _ R (.tmp 8) (.tmp 12) 145 rfl base 5 q (I Zg 0) 1 1 underlying145 n f h i R WW v l.length (Jn l) R (d.alloc _) ⟨w,0,N⟩ 1 1 [I Zg (48+(g:Int))] R R (Wp _ _ _) Vi Vk O WX;intro v' w1 b a j);go_ret;refine⟨v',R,?_,?_⟩
 .unfold Txt Jn;rw[Ys,qZ];show World.ownsRow _ _ _ _ _ _ (_++[I Zg _]);rw[p];exact b
 exact((XL base w).alloc m _).grown a WX (JK d)
def MD(base:Nat)(v:I7)(l:I1)(f:l.length<=64)(g:Nat)(b:g<=9)(w:I6)(d:base<=w)(a:Txt base v l w):i_ c_ 355 #[v,g] w λe w'=>∃v',e=Zd v'/\Txt base v' (l++ur g) w'/\Below base w w':=by
 by_cases h:g=0
 .subst h;apply Z1 (Np v w);exact⟨v,R,by simpa[ur]using a,XL _ _⟩
 have e:ur g=[j_ (48+g)]:=by rw[ur,qF h]
 rw[e];exact Nq base v l f g O b w d a
theorem JG(z:Nat->UInt8):∀k,(DV z k).1.length<=2*k/\(DV z k).2<=k
 | 0=>⟨Zy,Zy⟩
 | k+1=>by
  have h:=JG z k;unfold DV;have a:(ur (DV z k).2).length<=1:=U0
  split
  .exact⟨WX,WX⟩
  exact⟨WX,WU⟩
def Nx(w:I6):(convert 145 9 (Zq N 0 0)).run c_ w=.ok (Zb ⟨#[]⟩) w:=WR
def Mp{l:I1}(h:Txt base v l w):(convert 145 9 v).run c_ w=.ok (Zb ⟨l.toArray⟩) w:=by
 obtain⟨rfl,a⟩|⟨g,cap,cur,rfl,j,b,a,f,k,e⟩:=h.2
 .have:l=[]:=Yz.mp a;subst this;exact Nx w
 refine qq4 w ⟨g,0,N⟩ cap l (λi d=>?_);rw[X2,Z2,Zs b];have:cur.toList[i]?=(cur.toList.take (l.length*1))[i]?:=by rw[Yv,qI O]
 rw[<-qO,this,e];simp[Jn,d]
def LJ(z:I2)(b o c:Nat)(w:I6)(P:b<w)(K:∀i,i<8->w.cell? ⟨b,o+i,N⟩=I Zg (z i).toNat):ZL 327 #[Zq (S ⟨b,o,N⟩) 8 c] w (Zb ⟨(oJ z).toArray⟩):=by
 have E:=X K;obtain⟨T,J,F,H,a2⟩:=We Ra;have B:=X J;go_enter func327,ntmps327;go_wp2;go_loopg [3,4,9] 8 (λG t g i wr=>∃k:Nat,k+G=8/\i=k/\g=(DV z k).2/\Txt w t (DV z k).1 wr/\Below w w wr)
 .exact⟨0,R,R,R,⟨R,Zi ⟨R,R⟩⟩,XL _ _⟩
 obtain⟨k,V,rfl,rfl,x,n⟩:=hrel;have D:=X x;have a:=X n;have Q:=JG z k;by_cases a1:k<8
 .have f:wr.cell? ⟨b,o+k,N⟩=I Zg (z k).toNat:=(ZW a (p:=⟨b,o+k,N⟩) P).trans (E k a1);by_cases W:z k=46
  .have l:Y (DV z (k+1)=((DV z k).1,(DV z k).2+1)):=X (by rw[DV,qI W]);have r:((z k).toNat:Int)=46:=(by rw[W];rfl);rw[r]at f;go_wp2;go_roundg (gk-1)
   .exact⟨k+1,O,Vg,by rw[l.a];go_num,by rw[l.a];exact D.a,a⟩
   omega
  have l:Y (DV z (k+1)=((DV z k).1++ur (DV z k).2++[z k],0)):=X (by rw[DV,qF W]);have r:(((z k).toNat:Int)==46)=Zl:=by simp only[qM];intro e;exact W (q6.mp WX)
  go_wp2_with fail;refine(MD w _ _ O _ O _ (ZR a) D).mono ?_;rintro e w1 ⟨p,rfl,m,d⟩;have C:w<=w1.heap.size:=by have:=ZR a;have:=ZR d;omega
  have A:(ur (DV z k).2).length<=1:=U0;have a5:((DV z k).1++ur (DV z k).2).length<=40:=WX;have q:=X m;have u:=X (a.trans d);go_wp2_with(at_builtin;apply Xv _ R (.tmp 19) (.tmp 21) 145 rfl w 5 T (I Zg 0) 1 1 underlying145 B F H a2 R WW p _ _ R (q.alloc _) ⟨w1,0,N⟩ 1 1 [I Zg (z k).toNat] R R (Wp _ _ _) Vi Vk O WX;intro v' M j h v);have a0:Y (Txt w v' (DV z (k+1)).1 M):=X (by
   rw[l.a];unfold Txt Jn;rw[Ys,qZ];exact j)
  have y:Y (Below w w M):=(u.alloc C _).grown h WX (JK q);go_wp2;go_roundg (gk-1)
  .exact⟨k+1,O,Vg,by rw[l.a];rfl,a0,y⟩
  omega
 have a3:k=8:=O;subst a3;go_wp2_with fail;refine(MD w _ _ O _ O _ (ZR a) D).mono ?_;rintro e w1 ⟨p,rfl,m,d⟩;have a4:=Mp m;have y:=X (a.trans d);go_wp2;go_ret;exact⟨R,y⟩
def JF(z:I2)(i:Nat):(oH z i).length<=17:=by unfold oH oJ;have h:=JG (λf=>z (8*(7-i)+f)) 8;have a:(ur (DV (λf=>z (8*(7-i)+f)) 8).2).length<=1:=U0;rw[qZ];omega
theorem HO(b:I1)(n:Nat):∀d:List (I1),(∀x∈d,x.length<=n)->(f_ d b).length<=d.length*(n+b.length)
 | [],_=>by simp[f_,List.intercalate]
 | [x],h=>by
  have:=h x WU;rw[Lib.join_one];simp;omega
 | x::y::r,h=>by
  have i:=HO b n (y::r) (λa f=>h a (by simp at f|-;right;exact f));have g:=h x WU;have e:f_ (x::y::r) b=x++b++f_ (y::r) b:=by simp[f_,List.intercalate,List.intersperse]
  rw[e,qZ,qZ,Yq,Nat.add_mul];omega
def Ko(z:I2)(A:I0)(a1:∀i,i<64->A[i]?=I Zg (z i).toNat)(w:I6):ZL 287 #[A] w (Zb ⟨(dA z).toArray⟩):=by
 have H:=X a1;clear a1;go_enter func287,ntmps287;go_wp2;go_loopg [6] 8 (λG i wr=>∃k:Nat,k+G=8/\i=k/\wr.heap[w.heap.size]?=Z A 67/\(∃p:I0,p.size=8/\wr.heap[w.heap.size+1]?=Z p 369/\∀j,j<k->p[j]?=Zb ⟨(oH z j).toArray⟩)/\w+2<=wr.heap.size/\Gr w wr)
 case atStart=>exact⟨0,R,R,heap_alloc2_old _ _ _,⟨_,R,Zw,λj h=>O⟩,WU,ZN.al⟩
 case round=>
  obtain⟨k,k1,rfl,B,⟨p,hR,C,n⟩,a7,D⟩:=hrel;have g:=X B;have l:=X C;have u:=X hR;have d:=X n;have m:=X D;clear B C hR n D;by_cases a0:k<8
  .obtain⟨q,P⟩:∃q:Nat,q=8*(7-k):=⟨_,R⟩;have hw:8*(7-(k:Int))=(q:Int):=O;have T:(q:Int)+8<=64:=O;have V:(q:Int)<=q+8:=O;have Q:q<=56:=O;have M:=X P;clear P;go_wp2_with fail;refine(LJ (λf=>z (8*(7-k)+f)) w q (64-q) _ O (λi a8=>by rw[Zs g.a,H.a (q+i) O,M.a])).mono ?_;rintro e w1 ⟨rfl,b⟩;have W:=ZR b;have a3:Y (w1.heap[w.heap.size]?=Z A 67):=X (by rw[Zz b O];exact g);have o:Y (w1.heap[w.heap.size+1]?=Z p 369):=X (by rw[Zz b O];exact l);have J:=X (m.trans b);have v:k<p.size:=(by rw[u.a];exact a0);have K:w1.cell? ⟨w+1,k,N⟩=p[k]'v:=(by rw[Zs o.a];exact qQ _);have a6:w1.frozen? ⟨w+1,k,N⟩=Zl:=frozen_of_row _ _ _ _ _ o;clear g l m b;go_wp2;go_roundg (gk-1)
   case measure=>omega
   case rel=>
    refine⟨k+1,O,Vg,?_,⟨p.setIfInBounds k (Zb ⟨(oH z k).toArray⟩),by simpa using u.a,?_,?_⟩,?_,?_⟩
    .rw[heap_setCell_other _ _ _ _ (by show w≠w.heap.size+1;omega)];exact a3
    .exact heap_setCell_same _ _ _ _ _ _ o
    .intro j F;rw[Yu];by_cases e:k=j
     .subst e;rw[qI R,qI v]
     .rw[qF e];exact d j O
    .simp[World.setCell];omega
    .exact J.a.setCell (p:=⟨w+1,k,N⟩) (by show w<=w.heap.size+1;omega) _
  .have a5:k=8:=O;subst a5;have a:(eB z).length=8:=(by simp[eB]);have F:=Tryz.strings_Join (w+1) 0 8 (eB z) ⟨#[47]⟩ wr (by
    intro j x r;have E:j<8:=(by rw[<-a];exact(Z5.mp r).1);rw[Z2,Zs l.a,d.a j E]
    have:x=⟨(oH z j).toArray⟩:=by
     unfold eB at r;rw[YN,List.getElem?_range E]at r;simpa using r.symm
    rw[this]) O (by rw[a];omega) (by rw[a];omega) (by
    have:=HO [47] 17 ((eB z).map (·.data.toList)) (by
     intro x r;obtain⟨y,a2,rfl⟩:=YL.mp r;obtain⟨i,_,rfl⟩:=YL.mp a2;exact JF z i)
    rw[YD,a]at this;exact q7 this WU)
   rw[a]at F;have a4:=X F;clear F;go_wp2_with(go_at_call 291;apply a4.mono;rintro e w1 ⟨rfl,b⟩);go_ret;exact⟨R,m.trans b⟩
def Kd(n:Int)(b:0<=n)(d:n<=65535)(w:I6)(a:HG w):ZL 160 #[n] w (Zb ⟨(Lib.itoa n).toArray⟩):=by refine(Tryz.strconv_Itoa n O O w a).mono ?_;rintro e w' ⟨rfl,k,os,rfl⟩;exact⟨R,Gr.grow w k os⟩
def SS(a b d f g h:I4)(l:∀x∈[a,b,d,f,g,h],x.data.toList.length<=100000)(w:I6):i_ c_ 291 #[Zq (S w) 6 6,Zb ⟨#[32]⟩] (w.alloc (Z #[a,b,d,f,g,h] 9)) λe w'=> e=Zd (Zb ⟨(f_ ([a,b,d,f,g,h].map (·.data.toList)) [32]).toArray⟩)/\Gr w w':=by
 have k:=Tryz.strings_Join w 0 6 [a,b,d,f,g,h] ⟨#[32]⟩ (w.alloc (Z #[a,b,d,f,g,h] 9)) (by
  intro j x i;rw[Z2,Z8 _ _ _ _ R];have k:j<6:=by simpa using(Z5.mp i).1
  have:j=0\/j=1\/j=2\/j=3\/j=4\/j=5:=O
  rcases this with rfl|rfl|rfl|rfl|rfl|rfl<;>simp at i<;>subst i<;>rfl) Vj WU WU (by
  have:=HO [32] 100000 ([a,b,d,f,g,h].map (·.data.toList)) (by
   intro y n;obtain⟨x,i,rfl⟩:=YL.mp n;exact l x i)
  exact q7 this WU)
 apply k.mono;rintro e w' ⟨rfl,m⟩;exact⟨R,ZN.trans m⟩
def Jg:∀n u,u<=n->(d_ u).length<=u+1:=by
 intro n;induction n with
 | zero=>intro u h;rw[d_,Wf O];simp
 | succ n ih=>
  intro u h;unfold d_;by_cases a:u<10
  .rw[Wf a];simp
  rw[dif_neg a,qZ];have:=ih (u/10) O;simp;omega
def HP(n:Int)(a:0<=n)(b:n<=65535):(Lib.itoa n).length<=65536:=by rw[Lib.itoa,qF O];have:=Jg n.toNat n.toNat Zy;omega
def HT(z:I2):(dA z).length<=144:=by
 have a:(eB z).length=8:=by simp[eB]
 have:=HO [47] 17 ((eB z).map (·.data.toList)) (by
  intro x b;obtain⟨y,d,rfl⟩:=YL.mp b;obtain⟨i,_,rfl⟩:=YL.mp d;exact JF z i)
 rw[YD,a]at this;exact q7 this WU
theorem Jt(f:Nat->Bool):∀i,(E5 f i).length<=i
 | 0=>Zy
 | i+1=>by
  have:=Jt f i;rw[oN,qZ];split<;>simp<;>omega
def D2(f:I5):(eE f).length<=4:=by
 unfold eE;split
 .simp
 exact Jt f 4
def JH(b:Int):(oO b).length<=2:=by unfold oO xQ;split<;>simp
def Qx(b:Bool):I4:=⟨#[if b then 119 else 98]⟩
def Mn(b:Bool)(w:I6):ZL 288 #[b] w (Qx b):=(LF b w).mono (by rintro e w' ⟨rfl,rfl⟩;exact⟨R,ZO⟩)
def Kn(z:I2)(A:I0)(p:A.size=64)(r:∀i,i<64->A[i]?=I Zg (z i).toNat)(wh:Bool)(f:I5)(b h g:Int)(M:b=-1\/(0<=b/\b<64))(J:0<=h)(K:h<=65535)(H:0<=g)(a0:g<=65535)(w:I6)(T:HG w):ZL 239 #[kU A wh (f 0) (f 1) (f 2) (f 3) b h g] w (Zb ⟨(oI z wh f b h g).toArray⟩):=by
 have P:=t_;have E:(c_.info? 67).map (·.size)=S A.toList.length:=by rw[x7];simp[p]
 have a1:A.toList.length=64:=by simpa using p
 have a2:∀v∈A.toList,v.oneCell'=Zk:=by intro v q;obtain⟨i,E,rfl⟩:=List.getElem_of_mem q;have:=r i O;rw[<-qO,Yf E]at this;simp at this;simp[this,Value.oneCell']
 have l:PS w A.toList wh (f 0) (f 1) (f 2) (f 3) b h g (w.alloc (Z (kU A wh (f 0) (f 1) (f 2) (f 3) b h g) 70)):=by
  have D:∀o,(w.alloc (Z (kU A wh (f 0) (f 1) (f 2) (f 3) b h g) 70)).cell? ⟨w,o,N⟩=(kU A wh (f 0) (f 1) (f 2) (f 3) b h g)[o]?:=λo=>Z8 _ _ _ _ R;refine⟨λj v q=>?_,?_,?_,?_,?_,?_,?_,?_,?_,Vj,ZN,T.gr ZN⟩
  .rw[D,Z2];rw[kU,Y7,qI (by rw[p,<-a1];exact(Z5.mp q).1),<-qO];exact q
  all_goals (rw[D];rw[kU,Y7,qF O,p];rfl)
 have a:=l;clear l;generalize V:kU A wh (f 0) (f 1) (f 2) (f 3) b h g=PA at a|-;clear V;have u:=r;clear r;unfold ZL;go_in;go_wp2;obtain⟨w1,n⟩:∃w1,w1=w.alloc (Z PA 70):=⟨_,R⟩;rw[<-n]at a|-;clear n;have m:=a.2.2.2.2.2.2.2.2.2.2.2;go_region_held3 (λw'=>Gr w1 w'/\w'.rangeAt w 0 A.toList/\w'.cell? ⟨w,64,N⟩=wh/\w'.cell? ⟨w,65,N⟩=(f 0)/\w'.cell? ⟨w,66,N⟩=(f 1)/\w'.cell? ⟨w,67,N⟩=(f 2)/\w'.cell? ⟨w,68,N⟩=(f 3)/\w'.cell? ⟨w,69,N⟩=b/\w'.cell? ⟨w,70,N⟩=h/\w'.cell? ⟨w,71,N⟩=g) (first|exact P' a ZO.drew|exact P' a ‹_›|exact P' a (Gr.alloc (vy ‹_›) _ _)) (first|(go_at_call 287;refine Z0 (Ko z A u _) λw' k=>?_;have d:=o_ (vy ‹_›) k)|(go_at_call 288;refine Z0 (Mn wh _) λw' k=>?_;have d:=o_ (vy ‹_›) k)|(go_at_call 289;refine Z0 (Js f _) λw' k=>?_;have d:=o_ (vy ‹_›) k)|(go_at_call 290;refine Z0 (Ju b M _) λw' k=>?_;have d:=o_ (vy ‹_›) k)|(go_at_call 160;refine Z0 (Kd _ ‹_› ‹_› _ (HG.gr m (vy ‹_›))) λw' k=>?_;have d:=o_ (vy ‹_›) k));have F:=λW=>SS ⟨(dA z).toArray⟩ (Qx wh) ⟨(eE f).toArray⟩ ⟨(oO b).toArray⟩ ⟨(Lib.itoa h).toArray⟩ ⟨(Lib.itoa g).toArray⟩ (by
  intro x G;simp only[Yj,List.mem_nil_iff,or_false]at G;obtain rfl|rfl|rfl|rfl|rfl|rfl:=G
  .exact q7 (HT z) O
  .show([if wh then 119 else 98]:I1).length<=_;simp
  .exact q7 (D2 f) O
  .exact q7 (JH b) O
  .exact q7 (HP h J K) O
  exact q7 (HP g H a0) O) W
 have B:=F;clear F;have C:=a.2.2.2.2.2.2.2.2.2.2.1;go_wp2_with(go_at_call 291;refine Z0 (B w') λQ y=>?_);go_ret;exact⟨R,(C.trans d).trans y⟩
def NP(a b c:Int)(w:I6):ZL 185 #[Zc #[a,b,I Zg c]] w (I L 1):=by unfold ZL;go_in;go_wp2;exact WM
def M1{lb:I0}{C:Nat->Prop}{G:List Mv}(L:It c_ g lb vr (λ_=>False) C G w)(K:∀args w,(callFunc g args).run c_ w=.ok (.enter g args) w)(y:∀k,C k->k<w.heap.size)(Q:G.length<9223372036854775807):ZL 184 #[.func (.func g) #[] lb,.func (.func 185) #[] #[]] w (I .i64 (G.length:Int)):=by
 refine(ZY (n:=9)).1 ?_;refine callsIn_of_wp_marks func184 rfl x_ ?_ R;simp only[ntmps184,Nat.reduceAdd,Nat.reduceSub,Zr];apply Z9.2;go_wp2;obtain⟨a7,n⟩:=x6 w (Z #[.func (.func 185) #[] #[]] 262) (Z #[I .i64 0] 3);have m:Gr w ((w.alloc (Z #[.func (.func 185) #[] #[]] 262)).alloc (Z #[I .i64 0] 3)):=ZN.al;have M:((w.alloc (Z #[.func (.func 185) #[] #[]] 262)).alloc (Z #[I .i64 0] 3)).heap.size=w.heap.size+2:=WU;generalize (w.alloc _).alloc _=w2 at a7 n m M|-;refine Z9.1 (xj (n:=9) (gf:=g) (lb:=lb) R K L (λ_ h=>h.elim) (λk P=>by have:=y k P;omega) (p_ m) (λ_=>R)
  (λa V=>V.heap[w.heap.size]?=Z #[.func (.func 185) #[] #[]] 262/\V.heap[w.heap.size+1]?=Z #[I .i64 (a.length:Int)] 3/\Gr w V/\w2<=V.heap.size)
  (λ_ _ _=>False)
  ?sI (λ_ _ _ _ h _=>h) ⟨a7,n,m,Zy⟩ ?rnd ?done (λ_ _ _ _ _ _ h _=>h.elim))
 case sI=>exact λs A A' h f=>⟨f.same _ _ h.1 (Zi O),f.same _ _ h.2.1 (Zi O),u_ h.2.2.1 (f.below (n:=w) (ZR h.2.2.1) (λk o P=>Zi O)),q7 h.2.2.2 f.size⟩
 case done=>rintro D V hD ⟨p,l,F,B⟩ hK;have c2:=(qi l).1;go_wp2;refine⟨WU,Zi ⟨_,_,R,YU hK,?_⟩⟩;exact⟨_,Wh R _ _ _,R,u_ F (XZ (w:=w2) (n₀:=w) O _ D _ _ hD hK R R)⟩
 case rnd=>
  rintro a6 a ⟨fr,T,u⟩ V b0 hx ⟨p,l,F,B⟩ a8;have b1:a6<V:=a8.elim λr hr=>(qB.1 hr).1;simp only[vr,gJ];gi_wp2;refine⟨ZP.alloc _,?_⟩;intro b W J a0;obtain⟨p,l,F,B⟩:=J;have v:b.heap[V.heap.size]?=Z (ZJ fr T u) 87:=W.same _ _ (ZQ V _) O;generalize V.heap.size=Bx at v|-;have a4:a.length+1<=G.length:=by have:=hx.length_le;simpa using this
  have a5:a_ .i64 ((a.length:Int)+1)=(a.length:Int)+1:=Vc;have d1:=(qi p).1;have d2:=(qi l).1;have d3:=(qi l).2;obtain⟨x0,x1,x2⟩:=qm (show b.drew.heap[Bx]?=_ from v);have aft:∀d,Gr b.drew d->(d.cell? ⟨w,0,N⟩=S (.func (.func 185) #[] #[])/\d.cell? ⟨w+1,0,N⟩=I .i64 (a.length:Int)/\d.frozen? ⟨w+1,0,N⟩=Zl):=λd j=>by have H:=ZE j (show b.drew.heap[w.heap.size]?=_ from p);have E:=ZE j (show b.drew.heap[w.heap.size+1]?=_ from l);exact⟨(qi H).1,(qi E).1,(qi E).2⟩
  have x:=aft;have a9:∀d,Gr b.drew d->Fr (jM w2 (λ_=>False) C) b (d.setCell ⟨w+1,0,N⟩ (I .i64 ((a.length:Int)+1)))/\(d.setCell ⟨w+1,0,N⟩ (I .i64 ((a.length:Int)+1))).heap[w.heap.size]?=Z #[.func (.func 185) #[] #[]] 262/\(d.setCell ⟨w+1,0,N⟩ (I .i64 ((a.length:Int)+1))).heap[w.heap.size+1]?=Z #[I .i64 ((a++[((fr,T,u):Mv)]).length:Int)] 3/\Gr w (d.setCell ⟨w+1,0,N⟩ (I .i64 ((a.length:Int)+1)))/\w2<=(d.setCell ⟨w+1,0,N⟩ (I .i64 ((a.length:Int)+1))).heap.size:=λd j=>by
   have i:=o_ (q_ b).drew j;have H:=ZE i p;have E:=ZE i l;refine⟨(p_ i).setCell _ ?_,by rw[Yg _ _ _ _ WU];exact H,?_,Yr (o_ F i) (show w<=w.heap.size+1 from O) _,?_⟩
   .rintro o-(q|q)
    .have:=y _ q;simp at this;omega
    have:=q.1;simp at this;omega
   .have:=jm (v:=I .i64 ((a.length:Int)+1)) E;rw[this];simp
   have:=ZR i;simp[World.setCell];omega
  gi_wp2;gi_region_with (refine⟨x_,?_⟩;gi_at_call 185;refine((ZY.2 (NP _ _ _ _)).inRound a6).mono ?_;rintro e wc ⟨rfl,z⟩;obtain⟨a1,a2,a3⟩:=x wc z);all_goals
   gi_wp2;exact a9 _ z
def Hr{lb:I0}{C:Nat->Prop}{i:List Mv}(h:It c_ g lb vr (λ_=>False) C i w)(f:∀args w,(callFunc g args).run c_ w=.ok (.enter g args) w)(d:∀k,C k->k<w.heap.size)(a:i.length<9223372036854775807):ZL 94 #[.func (.func g) #[] lb] w ((i.length:Int)):=by have b:=M1 h f d a;unfold ZL;go_in;go_wp2_with(go_at_call 184;refine Z0 b λw' j=>?_);go_ret;exact⟨R,j⟩
def MK:∀n,n<256->bz (j_ n)=Zk->uT (j_ n)=Zl:=WS
def QV(c:UInt8)(h:bz c=Zk):uT c=Zl:=by have:=MK c.toNat c.toNat_lt;exact IE
def MC:∀g,g<9->1<=g->uT (j_ (48+g))=Zk/\(j_ (48+g)).toNat-48=g:=WS
def N9(t:I1)(a:I1)(g:Nat)(h:vY t=S (nI a,Zl))(f:a.length+g<=8):vY (t++ur g)=S (nI (a++List.replicate g 46),Zm (1<=g)):=by
 by_cases i:g=0
 .subst i;simp[ur,h]
 have e:ur g=[j_ (48+g)]:=by rw[ur,qF i]
 obtain⟨b,d⟩:=MC g O O;rw[e,vj,h];unfold zZ;simp only[b,YS,d,Xo,D7];rw[qF WX,sM,D6];simp;omega
def Km(a:I1)(h:a.all wj=Zk)(i:a.length<=8):∃b g,a=b++List.replicate g 46/\(lh a).2=g/\vY (lh a).1=S (nI b,Zl):=by
 induction q:a.length generalizing a with
 | zero=>
  have:a=[]:=Yz.mp q;subst this;exact⟨[],0,R,R,R⟩
 | succ n ih=>
  have d:a≠[]:=λe=>by subst e;simp at q
  obtain⟨m,c,rfl⟩:∃m c,a=m++[c]:=⟨a.dropLast,a.getLast d,(XY d).symm⟩;rw[Xf]at h;simp only[qH,Wc,List.all_nil,Wl]at h;obtain⟨b,g,f,j,k⟩:=ih m h.1 (by simp at i;omega) Ul;rw[qv3];unfold gx;by_cases p:c=46
  .rw[qI p];exact⟨b,g+1,by rw[f,p,qS,<-List.replicate_succ'],by simp[j],k⟩
  rw[qF p];have l:bz c=Zk:=by have:=h.2;unfold wj at this;simpa[p]using this
  have o:b.length+g+1<=8:=by have:=Xn List.length f;simp at this i;omega
  refine⟨m++[c],0,WU,R,?_⟩;simp only[j];rw[vj,N9 _ b g k O,<-f];unfold zZ;simp only[QV c l,l,qR,YH,YS,D7];rw[qF (by simp at i;omega),sM];rfl
def Ku(a:I1)(h:a.all wj=Zk)(j:a.length=8):jL ((lh a).1++ur (lh a).2)=nI a:=by
 obtain⟨e,g,d,f,i⟩:=Km a h O;have b:e.length+g<=8:=by have:=Xn List.length d;simp at this;omega
 rw[jL,f,N9 _ e g i b,<-d];simp[D7,j]
def Kp(s:I4)(b:Bool)(h:s.data.toList=[if b then 119 else 98]):kO s=b:=by rw[kO,Xl,h];cases b<;>rfl
def MQ(b0 b1 b2 b3:Bool):Bool:=
 match vS (eE (λi=>if i=0 then b0 else if i=1 then b1 else if i=2 then b2 else b3))with
 | some g=>g 0==b0&&g 1==b1&&g 2==b2&&g 3==b3
 | none=>Zl
def Ny:∀a b d e,MQ a b d e=Zk:=WW
def Jj(f:Nat->Bool):∃g,vS (eE f)=S g/\g 0=f 0/\g 1=f 1/\g 2=f 2/\g 3=f 3:=by
 have h:=Ny (f 0) (f 1) (f 2) (f 3);unfold MQ at h;have e:eE (λi=>if i=0 then f 0 else if i=1 then f 1 else if i=2 then f 2 else f 3)=eE f:=R;rw[e]at h;cases a:vS (eE f)with
 | none=>rw[a]at h;simp at h
 | some g=>
  rw[a]at h;simp only[qH,YF]at h;exact⟨g,R,h.1.1.1,h.1.1.2,h.1.2,h.2⟩
def MV:∀k,k<64->v8 ⟨(xQ k).toArray⟩=S ((k:Nat):Int):=WS
def Nz:v8 ⟨#[45]⟩=S (-1):=WS
def Jm(n:Int)(h:n=-1\/(0<=n/\n<64))(s:I4)(a:s.data.toList=oO n):v8 s=S n:=by
 have e:s=⟨(oO n).toArray⟩:=by cases s with|mk d=>simp at a|-;rw[<-a]
 rw[e];obtain rfl|⟨b,f⟩:=h
 .exact Nz
 obtain⟨k,rfl⟩:=Yt b;have:oO (k:Int)=xQ k:=by rw[oO,qF O];simp
 rw[this];exact MV k O
def Rk:∀d,d<10->dg (j_ (48+d))=Zk/\(j_ (48+d)).toNat-48=d:=WS
def PQ:∀k n,n<=k->dv (d_ n)=n/\(d_ n).all dg=Zk/\d_ n≠[]/\(1<=n->(d_ n).head?≠S 48):=by
 intro k;induction k with
 | zero=>
  intro n h;have:n=0:=O
  subst this;rw[d_,Wf O];exact⟨R,WW,WU,λh=>O⟩
 | succ k ih=>
  intro n h;unfold d_;by_cases l:n<10
  .rw[Wf l];obtain⟨b,a⟩:=Rk n l;refine⟨by show 10*0+((j_ (48+n)).toNat-48)=n;omega,by rw[Wc,b];rfl,WU,λj=>?_⟩;simp only[List.head?_cons,ne_eq,Xh];intro e;rw[e]at a;simp at a;omega
  rw[dif_neg l];obtain⟨d,f,g,i⟩:=ih (n/10) O;obtain⟨b,a⟩:=Rk (n%10) O;refine⟨by rw[yz,d,a];omega,by rw[Xf,f,Wc,b];rfl,WU,λ_=>?_⟩;have:=i O;cases m:d_ (n/10)with
  | nil=>exact w_ m g
  | cons x r=>rw[m]at this;simpa using this
def dz:∀k n,n<10^(k+1)->(d_ n).length<=k+1:=by
 intro k;induction k with
 | zero=>intro n h;rw[d_,Wf Vq];simp
 | succ k ih=>
  intro n h;unfold d_;by_cases a:n<10
  .rw[Wf a];simp
  rw[dif_neg a,qZ];have:=ih (n/10) (by rw[Nat.pow_succ]at h;omega);simp;omega
def Hd(n:Nat)(h:n<=65535):vR (Lib.itoa (n:Int))=n:=by
 have e:Lib.itoa (n:Int)=d_ n:=by rw[Lib.itoa,qF O,YE]
 obtain⟨b,f,g,i⟩:=PQ n n Zy;have d:=dz 4 n WX;rw[e];rw[vR,qI,b];refine⟨List.length_pos_iff.mpr g,d,λa=>?_,f,by rw[b];exact h⟩;by_cases j:1<=n
 .exact i j
 have:n=0:=O;subst this;unfold d_ at a;rw[Wf O]at a;simp at a
theorem PV(B:I1):∀k,((h_ k).map (dL B)).flatten=B.take (8*k)
 | 0=>by simp
 | k+1=>by
  rw[YI,Ys,List.flatten_append,PV B k];simp only[YM,Wi,List.flatten_cons,List.flatten_nil,Yh,dL];rw[show 8*(k+1)=8*k+8 from O,List.take_add]
def sgn(c:UInt8):Bool:=bz c||uT c
def MA(g:Nat)(h:g<=8):(ur g).all sgn=Zk:=by
 unfold ur;split
 .rfl
 have:=(MC g O O).1;rw[Wc];rw[sgn,this];simp
def Qo(a:I1)(h:a.all wj=Zk)(d:a.length<=8):(lh a).1.all sgn=Zk/\(lh a).2<=a.length:=by
 induction l:a.length generalizing a with
 | zero=>
  have:a=[]:=Yz.mp l;subst this;exact⟨R,Zy⟩
 | succ n ih=>
  have b:a≠[]:=λe=>by subst e;simp at l
  obtain⟨m,c,rfl⟩:∃m c,a=m++[c]:=⟨a.dropLast,a.getLast b,(XY b).symm⟩;rw[Xf]at h;simp only[qH,Wc,List.all_nil,Wl]at h;have i:m.length=n:=by simpa using l
  obtain⟨f,j⟩:=ih m h.1 U2 i;rw[qv3];unfold gx;by_cases k:c=46
  .rw[qI k];exact⟨f,WX⟩
  rw[qF k];have g:bz c=Zk:=by have:=h.2;unfold wj at this;simpa[k]using this
  refine⟨?_,WU⟩;rw[Xf,Xf,f,MA _ U2];simp[sgn,g]
def LK(a:I1)(h:a.all wj=Zk)(b:a.length<=8):(AQ a).all sgn=Zk:=by obtain⟨d,e⟩:=Qo a h b;rw[AQ,Xf,d,MA _ O];rfl
def Qy:sgn 47=Zl:=WW
def Qz:sgn 32=Zl:=WW
def PK(l:I1)(h:l.all sgn=Zk)(c:UInt8)(a:sgn c=Zl):c∉l:=λb=>by
 have:=qW.mp h c b;rw[a]at this;exact w_ this WW
theorem HY:∀(b:I3) (a:List (I1)),b.map (·.data.toList)=a.map AQ->(∀z∈a,z.length=8/\z.all wj=Zk)->jK b=a.map nI
 | [],[],_,_=>rfl
 | [],z::t,h,_=>by simp at h
 | x::t,[],h,_=>by simp at h
 | x::t,z::zt,h,hz=>by
  simp only[YM,X7]at h;have d:jL x.data.toList=nI z:=by rw[h.1];exact Ku z (hz z WU).2 (hz z WU).1
  have e:=HY t zt h.2 (λy f=>hz y (by simp[f]));rw[jK,d,e];rfl
def Lb(B:I1)(b:B.length=64)(h:B.all wj=Zk)(j:Nat)(d:j<8):(dL B j).length=8/\(dL B j).all wj=Zk:=by refine⟨by simp[dL];omega,?_⟩;rw[qW]at h|-;intro c a;exact h c (List.mem_of_mem_drop (List.mem_of_mem_take a))
def KH(B:I1)(d:B.length=64)(h:B.all wj=Zk)(x:I4)(m:x.data.toList=dA (zB B)):j7 x=nI B:=by
 have a:=oG B d;have f:x.data.toList=f_ ((h_ 8).map (λi=>AQ (dL B (7-i)))) [47]:=by rw[m];unfold dA;rw[a]
 have l:=qv4 47 9 (AQ (dL B 7)) ((h_ 7).map (λi=>AQ (dL B (6-i)))) (by
  intro y g
  have:∃j,j<8/\y=AQ (dL B j):=by
   obtain rfl|g:=Yj.mp g
   .exact⟨7,O,R⟩
   obtain⟨i,_,rfl⟩:=YL.mp g;exact⟨6-i,O,R⟩
  obtain⟨j,f,rfl⟩:=this;obtain⟨p,o⟩:=Lb B d h j f;exact PK _ (LK _ o O) 47 Qy) WU x T1
 have b:(xL 47 9 x).map (·.data.toList)=((h_ 8).map (λi=>dL B (7-i))).map AQ:=by rw[l];rfl
 have k:(xL 47 9 x).length=8:=by have:=Xn List.length b;simpa using this
 unfold j7;rw[qI k,HY _ _ b (by
  intro z n;obtain⟨i,_,rfl⟩:=YL.mp n;exact Lb B d h (7-i) O)]
 simp only[Xh];have e:(List.map nI ((h_ 8).map (λi=>dL B (7-i)))).reverse=((h_ 8).map (dL B)).map nI:=R;rw[e];have:=PV B 8;rw[Yk O]at this;unfold nI;rw[<-List.map_flatten,this]
theorem L7(a:I1):∀(d:List (I1)) (c:UInt8),c∈f_ d a->c∈a\/∃x∈d,c∈x
 | [],c,h=>by simp[f_,List.intercalate]at h
 | [x],c,h=>by rw[Lib.join_one]at h;exact Zj ⟨x,WU,h⟩
 | x::y::r,c,h=>by
  rw[ve,Yi,Yi]at h;obtain(h|h)|h:=h
  .exact Zj ⟨x,WU,h⟩
  .exact Zi h
  obtain h|⟨z,b,e⟩:=L7 a (y::r) c h
  .exact Zi h
  exact Zj ⟨z,by simp at b|-;right;exact b,e⟩
def Kz(B:I1)(b:B.length=64)(h:B.all wj=Zk):(32:UInt8)∉dA (zB B):=by
 intro a;unfold dA at a;rw[oG B b]at a;obtain d|⟨x,f,e⟩:=L7 _ _ _ a
 .simp at d
 obtain⟨i,_,rfl⟩:=YL.mp f;obtain⟨j,g⟩:=Lb B b h (7-i) O;exact PK _ (LK _ g O) 32 Qz e
def Ls(b:Bool):(32:UInt8)∉([if b then 119 else 98]:I1):=by cases b<;>decide
def JY:∀a b d e:Bool,(32:UInt8)∉eE (λi=>if i=0 then a else if i=1 then b else if i=2 then d else e):=WW
def J5(f:I5):(32:UInt8)∉eE f:=JY (f 0) (f 1) (f 2) (f 3)
def Ky:∀k,k<64->(32:UInt8)∉xQ k:=WS
def NR(b:Int)(h:b=-1\/(0<=b/\b<64)):(32:UInt8)∉oO b:=by
 obtain rfl|⟨a,d⟩:=h
 .decide
 obtain⟨k,rfl⟩:=Yt a;have:oO (k:Int)=xQ k:=by rw[oO,qF O];simp
 rw[this];exact Ky k O
def JX(n:Nat):(32:UInt8)∉Lib.itoa (n:Int):=by
 have e:Lib.itoa (n:Int)=d_ n:=by rw[Lib.itoa,qF O,YE]
 rw[e];intro a;have:=qW.mp (PQ n n Zy).2.1 32 a;exact w_ this WW
def HS(B:I1)(e:B.length=64)(a:B.all wj=Zk)(wh:Bool)(f:Nat->Bool)(b:Int)(i:b=-1\/(0<=b/\b<64))(h g:Nat)(w:h<=65535)(v:g<=65535)(s:I4)(x:s.data.toList=oI (zB B) wh f b h g):∃p,xG s=S p/\p.board=nI B/\p.white=wh/\p.castle 0=f 0/\p.castle 1=f 1/\p.castle 2=f 2/\p.castle 3=f 3/\p.behind=b/\p.half=h/\p.full=g:=by
 have d:=qv4 32 7 (dA (zB B)) [[if wh then 119 else 98],eE f,oO b,Lib.itoa (h:Int),Lib.itoa (g:Int)] (by
  intro y j;simp only[Yj,List.mem_nil_iff,or_false]at j;obtain rfl|rfl|rfl|rfl|rfl|rfl:=j
  .exact Kz B e a
  .exact Ls wh
  .exact J5 f
  .exact NR b i
  .exact JX h
  exact JX g) WU s x
 unfold xG;have u:(xL 32 7 s).length=6:=by have:=Xn List.length d;simpa using this
 match hx:xL 32 7 s,u with
 | [x0,x1,x2,x3,x4,x5],_=>
  rw[hx]at d;simp only[YM,Wi,X7,and_true]at d;obtain⟨l,m,n,o,q,r⟩:=d;obtain⟨c,c0,c1,c2,c3,k⟩:=Jj f;simp only;rw[Ac,KH B e a x0 l,Kp x1 wh m,n,c0,Jm b i x3 o,q,Hd h w,r,Hd g v];exact⟨_,R,R,R,c1,c2,c3,k,R,R,R⟩
def PE:c_.plainKey 5=Zk:=WR
def KU:c_.plainKey 4=Zk:=WR
def ol:c_.plainKey 3=Zk:=WR
def Sa:∃i,c_.info? 5=S i:=Xr.1 (show(c_.info? 5).isSome=Zk from WR)
def Rb:∃i,c_.info? 4=S i:=Xr.1 (show(c_.info? 4).isSome=Zk from WR)
def Rr:c_.cellsOf 5=1:=WR
def Rt:c_.cellsOf 4=1:=WR
def Pf:c_.underlying 70=S (.struct (c_.fieldsOf 70)):=WR
def Pt:c_.stoodInHeld 70=Zl:=WR
def Nt:(c_.fieldsOf 70).toList.map (λf=>(f.name != "_",f.type,f.offset))=[(Zk,67,0),(Zk,4,64),(Zk,68,65),(Zk,3,69),(Zk,3,70),(Zk,3,71)]:=WR
def PG(a:I0)(w:I6):(part 67 a 0).run c_ w=.ok (a.extract 0 64) w:=by simp[part,isAgg,run_underlying t_,sizeOf,typeInfo];kernel_rfl
def RC(a:I0)(w:I6):(part 68 a 65).run c_ w=.ok (a.extract 65 69) w:=by simp[part,isAgg,run_underlying underlying68,sizeOf,typeInfo];kernel_rfl
def Q0{f d:I5}{g:Int}{l m:I0}(r:jE z wh f b h g l)(a:jE z wh d b h g m)(k:∀i,i<4->f i=d i):l=m:=by
 apply YV;intro i;by_cases e:i<64
 .rw[r.sq i e,a.sq i e]
 by_cases j:i<72
 .have:i=64\/i=65+0\/i=65+1\/i=65+2\/i=65+3\/i=69\/i=70\/i=71:=O;obtain rfl|rfl|rfl|rfl|rfl|rfl|rfl|rfl:=this
  .rw[r.wh,a.wh]
  .rw[r.c 0 O,a.c 0 O,k 0 O]
  .rw[r.c 1 O,a.c 1 O,k 1 O]
  .rw[r.c 2 O,a.c 2 O,k 2 O]
  .rw[r.c 3 O,a.c 3 O,k 3 O]
  .rw[r.b,a.b]
  .rw[r.h,a.h]
  rw[r.g,a.g]
 rw[Z6 Vw,Z6 (by rw[a.size];omega)]
def A2{B:I1}(v:B.length=64){f:I5}{g:Int}(r:jE (zB B) wh f b h g PA)(k:k6 (zB B) wh f b h g=Zk){e:Ending}(w:zA ⟨(oI (zB B) wh f b h g).toArray⟩ e):e=Ze #[PA,I L 0]:=by
 obtain⟨x,y,z,A⟩:=nG k;have d:B.all wj=Zk:=by rw[qW];intro c m;obtain⟨i,o,rfl⟩:=List.getElem_of_mem m;have:=x i O;unfold zB at this;rwa[YR,Yf o]at this
 obtain⟨n,rfl⟩:=Yt z.1;obtain⟨gn,rfl⟩:=Yt (show 0<=g from O);obtain⟨p,p1,p2,p3,c0,c1,c2,c3,p4,p5,p6⟩:=HS B v d wh f b y n gn O O ⟨(oI (zB B) wh f b n gn).toArray⟩ R;have m:∀i,i<4->p.castle i=f i:=λi o=>by exact Ij
 have j:xP p=Zk:=by rw[xP,ip p2,p3,p4,p5,p6,fx _ _ _ _ _ m];exact k
 have l:jE (zB B) wh p.castle b n gn (jV p):=by have:=jo p1;rwa[ip p2,p3,p4,p5,p6]at this
 obtain⟨q,a,_,rfl⟩|⟨q,a,u,_⟩|⟨a,_⟩:=w
 .have:q=p:=qP (a.symm.trans p1);rw[this,Q0 l r m]
 .have:q=p:=qP (a.symm.trans p1);rw[this,j]at u;cases u
 rw[p1]at a;cases a
def tN{f:I5}{g:Int}(k:k6 z wh f b h g=Zk):(⟨(oI z wh f b h g).toArray⟩:I4).size<4294967281:=by obtain⟨_,_,a,d⟩:=nG k;have e:=HT z;have i:=D2 f;have j:=JH b;have l:=HP h a.1 a.2;have m:=HP g O d.2;show(oI z wh f b h g).toArray.size<_;rw[Ya];rw[oI,Lib.join_length];simp only[Lib.lens,Yq,XN,YM,Wi,List.sum_cons,List.sum_nil];omega
def Sk(W:I6):(Instr.sliceAt 9 (Zb ⟨#[48,49,50,51,52,53,54,55,56,57]⟩) (S (I Zh 0)) (S (I Zh 1)) N).run c_ W=.ok (Zb ⟨#[48]⟩) W:=WR
def Sj(W:I6):(Instr.sliceAt 9 (Zb ⟨#[48,49,50,51,52,53,54,55,56,57]⟩) (S (I Zh 1)) (S (I Zh 2)) N).run c_ W=.ok (Zb ⟨#[49]⟩) W:=WR
def Si(W:I6):(Instr.sliceAt 9 (Zb ⟨#[48,49,50,51,52,53,54,55,56,57]⟩) (S (I Zh 2)) (S (I Zh 3)) N).run c_ W=.ok (Zb ⟨#[50]⟩) W:=WR
def Sh(W:I6):(Instr.sliceAt 9 (Zb ⟨#[48,49,50,51,52,53,54,55,56,57]⟩) (S (I Zh 3)) (S (I Zh 4)) N).run c_ W=.ok (Zb ⟨#[51]⟩) W:=WR
def Sg(W:I6):(Instr.sliceAt 9 (Zb ⟨#[48,49,50,51,52,53,54,55,56,57]⟩) (S (I Zh 4)) (S (I Zh 5)) N).run c_ W=.ok (Zb ⟨#[52]⟩) W:=WR
def Sf(W:I6):(Instr.sliceAt 9 (Zb ⟨#[48,49,50,51,52,53,54,55,56,57]⟩) (S (I Zh 5)) (S (I Zh 6)) N).run c_ W=.ok (Zb ⟨#[53]⟩) W:=WR
def Se(W:I6):(Instr.sliceAt 9 (Zb ⟨#[48,49,50,51,52,53,54,55,56,57]⟩) (S (I Zh 6)) (S (I Zh 7)) N).run c_ W=.ok (Zb ⟨#[54]⟩) W:=WR
def Sd(W:I6):(Instr.sliceAt 9 (Zb ⟨#[48,49,50,51,52,53,54,55,56,57]⟩) (S (I Zh 7)) (S (I Zh 8)) N).run c_ W=.ok (Zb ⟨#[55]⟩) W:=WR
def Sc(W:I6):(Instr.sliceAt 9 (Zb ⟨#[48,49,50,51,52,53,54,55,56,57]⟩) (S (I Zh 8)) (S (I Zh 9)) N).run c_ W=.ok (Zb ⟨#[56]⟩) W:=WR
def Sb(W:I6):(Instr.sliceAt 9 (Zb ⟨#[48,49,50,51,52,53,54,55,56,57]⟩) (S (I Zh 9)) (S (I Zh 10)) N).run c_ W=.ok (Zb ⟨#[57]⟩) W:=WR
def Bb(d:Nat)(a:d<10)(W:I6):(Instr.sliceAt 9 (Zb ⟨#[48,49,50,51,52,53,54,55,56,57]⟩) (S (I Zh d)) (S (I Zh ((d:Int)+1))) N).run c_ W=.ok (Zb ⟨#[j_ (48+d)]⟩) W:=by
 have:d=0\/d=1\/d=2\/d=3\/d=4\/d=5\/d=6\/d=7\/d=8\/d=9:=O;obtain rfl|rfl|rfl|rfl|rfl|rfl|rfl|rfl|rfl|rfl:=this
 .exact Sk W
 .exact Sj W
 .exact Si W
 .exact Sh W
 .exact Sg W
 .exact Sf W
 .exact Se W
 .exact Sd W
 .exact Sc W
 exact Sb W
def eP(d:Nat):j_ (48+d)=48+j_ d:=by simp[UInt8.ofNat_add]
def H5(c:UInt8)(u:I4):((⟨#[c]⟩:I4)++u).data.toList=c::u.data.toList:=by rw[j3];rfl
def dM(n:Nat)(h:n<=1000000000000000000)(w:I6):ZL 75 #[I Zh n] w (Zb ⟨(d_ n).toArray⟩):=by
 unfold ZL;go_in;go_wp2;go_loopg [0,3] n (λr nn ss wr=>∃(m:Nat)(u:I4),m<=r/\r<=n/\nn=I Zh m/\ss=u/\d_ n=d_ m++u.data.toList/\Gr w wr)
 case atStart=>exact⟨n,⟨#[]⟩,Zy,Zy,R,R,WU,ZO⟩
 case round=>
  obtain⟨m,u,K,J,rfl,rfl,a,l⟩:=hrel;have B:u.size<100000:=by have v:=dz 18 n O;have F:u.data.toList.length=u.size:=R;rw[a,qZ]at v;omega
  have b:=X a;have f:=X l;clear a l;by_cases G:9<m
  .obtain⟨d,x⟩:∃d:Nat,m%10=d:=⟨_,R⟩;obtain⟨q,y⟩:∃q:Nat,m/10=q:=⟨_,R⟩;have j:d<10:=O;have H:(m:Int).tmod 10=(d:Int):=Vu;have e:(m:Int).tdiv 10=(q:Int):=Uh;have A:(m:Int)%10=d:=O;have C:(m:Int)/10=q:=O;have p:a_ Zh ((d:Int)+1)=(d:Int)+1:=Vh;have D:a_ Zh (q:Int)=q:=Vh;have E:a_ Zh (d:Int)=d:=Vh;have i:=Bb d j;have o:Y (d_ n=d_ q++((⟨#[j_ (48+d)]⟩:I4)++u).data.toList):=X (by
    rw[b.a,H5]
    conv=>lhs;arg 1;unfold d_
    rw[dif_neg O,y,x,qS];rfl)
   have z:q<m:=O;rw[eP]at i o;go_wp2;go_roundg q
   case measure=>omega
   case rel=>exact⟨q,_,Zy,O,R,R,o,f⟩
  .have g:m<10:=O;have p:a_ Zh ((m:Int)+1)=(m:Int)+1:=Vh;have i:=Bb m g;have k:Y ((⟨#[48+j_ m]⟩:I4)++u=⟨(d_ n).toArray⟩):=X (by
    have:(d_ n).toArray=((⟨#[48+j_ m]⟩:I4)++u).data:=by
     rw[b.a];unfold d_;rw[Wf g,eP];apply Array.toList_inj.1;rw[H5];rfl
    rw[this])
   rw[eP]at i;go_wp2;go_ret;exact⟨by rw[<-k.a];rfl,f⟩
def fm(n:Nat)(h:n<100000)(w:I6):ZL 75 #[I Zh n] w (Zb ⟨(d_ n).toArray⟩):=dM n O w
def MO(n:Nat)(h:n<10)(b:n≠0):d_ n=ur n:=by unfold d_ ur;rw[Wf h,qF b]
def Hf(z:I2)(j:Nat):I1×Nat:=if j<8 then DV z j else(oJ z,0)
def SG(z:I2):Hf z 0=([],0):=R
def LR(z:I2):Hf z 8=(oJ z,0):=R
def Hk(z:I2)(j:Nat)(h:j<8):Hf z j=DV z j:=qI h
def Pv(z:I2)(j:Nat)(h:j<7)(e:z j=46):Hf z (j+1)=((Hf z j).1,(Hf z j).2+1):=by rw[Hk z j O,Hk z (j+1) O];show(if z j=46 then _ else _)=_;rw[qI e]
def M5(z:I2)(e:z 7=46):Hf z 8=((Hf z 7).1++ur ((Hf z 7).2+1),0):=by
 rw[LR,Hk z 7 O];have:DV z 8=((DV z 7).1,(DV z 7).2+1):=by show(if z 7=46 then _ else _)=_;rw[qI e]
 rw[oJ,this]
def Pu(z:I2)(j:Nat)(h:j<8)(e:z j≠46):Hf z (j+1)=((Hf z j).1++ur (Hf z j).2++[z j],0):=by
 rw[Hk z j h];have a:DV z (j+1)=((DV z j).1++ur (DV z j).2++[z j],0):=by show(if z j=46 then _ else _)=_;rw[qF e]
 by_cases b:j=7
 .subst b;rw[LR];rw[oJ,a];simp[ur]
 rw[Hk z (j+1) O,a]
def N7(z:I2)(j:Nat)(h:j<=8):(Hf z j).1.length<=17/\(Hf z j).2<=8:=by
 by_cases d:j<8
 .rw[Hk z j d];have:=JG z j;omega
 have:j=8:=O;subst this;rw[LR];have a:=JG z 8;have b:(ur (DV z 8).2).length<=1:=U0;refine⟨?_,WU⟩;show(oJ z).length<=17;rw[oJ,qZ];omega
def F'(z:Nat->UInt8):Nat->I1
 | 0=>[]
 | k+1=>F' z k++oJ (λf=>z (8*(7-k)+f))++(if k<7 then[47]else[])
theorem Ad(z:Nat->UInt8):∀k,(F' z k).length<=18*k
 | 0=>Zy
 | k+1=>by
  have b:=Ad z k;have a:=(N7 (λf=>z (8*(7-k)+f)) 8 Zy).1;rw[LR]at a;have:(if k<7 then[47]else[]:I1).length<=1:=by split<;>simp
  show(F' z k++oJ (λf=>z (8*(7-k)+f))++(if k<7 then[47]else[])).length<=_;simp only[qZ];simp only at a;omega
def Kq(z:I2):F' z 8=dA z:=by have e:(eB z).map (·.data.toList)=[oH z 0,oH z 1,oH z 2,oH z 3,oH z 4,oH z 5,oH z 6,oH z 7]:=R;rw[dA,e];simp only[ve,Lib.join_one];simp[F',oH]
def Kc(n:Nat):Lib.itoa (n:Int)=d_ n:=by rw[Lib.itoa,qF O,YE]
def Pk(z:I2)(wh:Bool)(f:I5)(b:Int)(h g:Nat):oI z wh f b h g=F' z 8++[32,if wh then 119 else 98,32]++eE f++[32]++oO b++[32]++d_ h++[32]++d_ g:=by unfold oI;simp only[ve,Lib.join_one];rw[Kq,Kc,Kc];simp
def Nw(W:I6)(c:UInt8):(convert 145 9 (Zq (S W) 1 1)).run c_ (W.alloc (Z #[I Zg c.toNat] 5))=.ok (Zb ⟨#[c]⟩) (W.alloc (Z #[I Zg c.toNat] 5)):=
 qq4 (W.alloc (Z #[I Zg c.toNat] 5)) ⟨W,0,N⟩ 1 [c] (by
  intro i a;have:i=0:=by simp at a;omega
  subst this;rw[X2,Z2,Z8 _ _ _ _ R];rfl)
def Ke(n:Nat)(h:n<=65535):(⟨(d_ n).toArray⟩:I4).size<=70000:=by show(d_ n).toArray.size<=_;rw[Ya];have:=Jg n n Zy;omega
def QN{b:Nat}{u:I7}(h:zJ b A w1)(a:A[i]?=u)(d:A[j]?=v)(g:Gr w1 w'):Gr w1 w'/\w'.cell? ⟨b,i,N⟩=u/\w'.cell? ⟨b,j,N⟩=S v:=⟨g,(h.gr g).at' a,(h.gr g).at' d⟩
def TL(W:I6):(Instr.sliceAt 9 (Zb ⟨#[75,81,107,113]⟩) (S (I L 0)) (S (I L 1)) N).run c_ W=.ok (Zb ⟨#[vn 0]⟩) W:=WR
def TJ(W:I6):(Instr.sliceAt 9 (Zb ⟨#[75,81,107,113]⟩) (S (I L 1)) (S (I L 2)) N).run c_ W=.ok (Zb ⟨#[vn 1]⟩) W:=WR
def TI(W:I6):(Instr.sliceAt 9 (Zb ⟨#[75,81,107,113]⟩) (S (I L 2)) (S (I L 3)) N).run c_ W=.ok (Zb ⟨#[vn 2]⟩) W:=WR
def TH(W:I6):(Instr.sliceAt 9 (Zb ⟨#[75,81,107,113]⟩) (S (I L 3)) (S (I L 4)) N).run c_ W=.ok (Zb ⟨#[vn 3]⟩) W:=WR
def Mw{f:I5}{g:Int}(r:jE z wh f b h g PA)(hb:b=-1\/(0<=b/\b<64))(h0:0<=h/\h<=65535)(g0:0<=g/\g<=65535)(w:I6):ZL 73 #[PA] w (Zb ⟨(oI z wh f b h g).toArray⟩):=by
 have C:Y (zJ w PA (w.alloc (Z PA 70))):=X (qy Zv);have b7:Y (Gr w (w.alloc (Z PA 70))):=X ZN;have h4:=X r.sq;unfold ZL;go_in;go_wp2;generalize w.alloc (Z PA 70)=w1 at C b7|-;go_loopg [3,4] 8 (λgg ss rr wr=>∃(k:Nat)(u:I4),k+gg=8/\rr=I L (7-(k:Int))/\ss=u/\u.data.toList=F' z k/\Gr w1 wr)
 case atStart=>exact⟨0,⟨#[]⟩,R,R,R,R,ZO⟩
 case round=>
  obtain⟨k,u,k1,rfl,rfl,hu,c4⟩:=hrel;have p0:u.size<=144:=by have:=Ad z k;rw[<-hu,ZX,YY]at this;omega
  have c6:=X hu;have d:=X c4;clear hu c4;by_cases r3:k<8
  .have n1:(0:Int)<=7-(k:Int):=O;have n2:(k:Int)<=7:=O;obtain⟨zr,d3⟩:∃zr:I2,Y (zr=λf=>z (8*(7-k)+f)):=⟨_,X R⟩;go_wp2;go_loopg [3,5,6] 8 (λgg ss nn ff wr=>∃(j:Nat)(v:I4),j+gg=8/\ff=j/\ss=v/\nn=((Hf zr j).2:Nat)/\v.data.toList=F' z k++(Hf zr j).1/\Gr w1 wr)
   case atStart=>exact⟨0,u,R,R,R,R,by rw[c6.a,SG];simp,d.a⟩
   case round=>
    obtain⟨j,v,j1,rfl,rfl,rfl,hv,n⟩:=hrel;obtain⟨m,hm⟩:=Zn ((Hf zr j).2);have f0:=N7 zr j O;rw[hm.a]at f0;have d0:v.size<=200:=(by have h1:=Ad z k;have E:=Xn List.length hv;rw[qZ,ZX,YY]at E;omega);have p:=X hv;have a:=X n;have B:=C.a.gr n;clear hv n;rw[hm.a];by_cases hj:j<8
    .obtain⟨o,ho⟩:∃o:Nat,8*(7-k)=o:=⟨_,R⟩;have n7:8*(7-(k:Int))=(o:Int):=O;have r0:a_ L (8*(7-(k:Int)))=(o:Int):=Vc;have g9:o+j<64:=O;have F:=B.at' (h4.a (o+j) g9);have k0:Y (zr j=z (o+j)):=X (by rw[d3.a,ho]);rw[<-k0.a]at F;clear B;by_cases hd:zr j=46
     .have k8:Y (zr j=46):=X hd;rw[hd]at F;by_cases h7:j<7
      .have n5:((j:Int)==7)=Zl:=Vp;have q:=X (Pv zr j h7 hd);clear hd;go_wp2;go_roundg (gk-1)
       case measure=>omega
       case rel=>exact⟨j+1,v,O,Vg,R,by rw[q.a,hm.a];rfl,by rw[q.a];exact p.a,a.a⟩
      .have e7:j=7:=O;subst e7;have q:=X (M5 zr hd);have G:Y (∀W:I6,ZL 75 #[I Zh ((m:Int)+1)] W (Zb ⟨(ur (m+1)).toArray⟩)):=X λW=>(by have:=fm (m+1) O W;rwa[MO (m+1) O O]at this);have g2:(⟨(ur (m+1)).toArray⟩:I4).size=1:=(by unfold ur;rw[qF O];rfl);clear hd;go_wp2_with(go_at_call 75;refine Z0 (G.a _) λw' hg=>?_);go_roundg (gk-1)
       case measure=>omega
       case rel=>refine⟨8,_,O,R,R,by rw[q.a]<;>rfl,?_,o_ a.a hg⟩;rw[j3,p.a,q.a,hm.a,qS]
     .have n0:(((zr j).toNat:Int)==46)=Zl:=(by rw[qM];intro hh;exact hd (q6.1 (by show(zr j).toNat=46;omega)));have q:=X (Pu zr j hj hd);have m6:=λW=>Nw W (zr j);clear hd;by_cases h2:m=0
      .subst h2;go_wp2;go_roundg (gk-1)
       case measure=>omega
       case rel=>refine⟨j+1,_,O,Vg,R,by rw[q.a]<;>rfl,?_,a.a.alloc _ _⟩;rw[j3,p.a,q.a,hm.a];simp[ur]
      .have G:Y (∀W:I6,ZL 75 #[I Zh m] W (Zb ⟨(ur m).toArray⟩)):=X λW=>(by have:=fm m O W;rwa[MO m O h2]at this);have g2:(⟨(ur m).toArray⟩:I4).size=1:=(by unfold ur;rw[qF h2];rfl);have n4:(0:Int)<(m:Int):=O;go_wp2_with(go_at_call 75;refine Z0 (G.a _) λw' hg=>?_);go_roundg (gk-1)
       case measure=>omega
       case rel=>refine⟨j+1,_,O,Vg,R,by rw[q.a]<;>rfl,?_,(o_ a.a hg).alloc _ _⟩;rw[j3,j3,p.a,q.a,hm.a];simp
    .have ej:j=8:=O;subst ej;have r1:a_ L (7-(k:Int)-1)=7-((k+1:Nat):Int):=Vc;have y:Y (v.data.toList++(if k<7 then[47]else[])=F' z (k+1)):=X (by rw[p.a,LR,d3.a];rfl);by_cases r2:k<7
     .rw[qI r2]at y;have n3:(0:Int)<7-(k:Int):=O;go_wp2;go_roundg (7-k)
      case measure=>omega
      case rel=>exact⟨k+1,_,O,R,R,by rw[j3,<-y.a],a.a⟩
     .rw[qF r2]at y;have d4:k=7:=O;subst d4;go_wp2;go_roundg 0
      case measure=>omega
      case rel=>exact⟨8,v,O,R,R,by rw[<-y.a];simp,a.a⟩
  .have ek:k=8:=O;subst ek;obtain⟨sd,b0⟩:∃l:I1,Y (l=F' z 8++[32,if wh then 119 else 98,32]):=⟨_,X R⟩;have Q:Y (sd.length<=150):=X (by
    rw[b0.a,qZ];have:=Ad z 8;simp;omega)
   have h9:=(C.a.gr d.a).at' r.wh;have b4:=X r.c;have b3:=X r.b;have a7:=X r.h;have a0:=X r.g;clear r;go_upto_if 57 with fail;go_cut [3]from 58 to 61 (λs3 wx=>∃t:I4,s3=t/\t.data.toList=sd/\Gr w1 wx)
   case first=>
    cases wh;all_goals
     go_wp2;go_meet
     case rel=>exact⟨_,R,by rw[j3,c6.a,b0.a];rfl,d.a⟩
   case rest=>
    obtain⟨t,rfl,t0,P⟩:=hcut;have h5:=X t0;have g4:=X P;clear t0 P h9;go_wp2;go_loopg [3,8,9] 4 (λgg ss sm ii k3=>∃(i:Nat)(v:I4),i+gg=4/\ii=i/\ss=v/\sm=(!(E5 f i).isEmpty)/\v.data.toList=sd++E5 f i/\Gr w1 k3)
    case atStart=>exact⟨0,t,R,R,R,R,by rw[h5.a];simp[E5],g4.a⟩
    case round=>
     obtain⟨i,v,i1,rfl,rfl,rfl,hv,n⟩:=hrel;have B:=C.a.gr n;have d0:v.size<=160:=(by have h1:=Q.a;have h3:=Jt f i;have E:=Xn List.length hv;rw[qZ,ZX,YY]at E;omega);have p:=X hv;have a:=X n;clear hv n;obtain⟨sm,K⟩:=Zn (!(E5 f i).isEmpty);rw[K.a];by_cases r3:i<4
     .have g7:i=0\/i=1\/i=2\/i=3:=O;have f8:=B.at' (b4.a i r3);obtain⟨fv,M⟩:=Zn (f i);rw[M.a]at f8;obtain⟨i',H⟩:∃j,Y (j=i+1):=⟨_,X R⟩;have c5:Y (i'+(gk-1)=4):=X (by have:=H.a;omega);have b1:Y (fv=Zl->E5 f i'=E5 f i):=X (λh=>by rw[H.a,oN,M.a,h];simp);have hwT:Y (fv=Zk->E5 f i'=E5 f i++[vn i]):=X (λh=>by rw[H.a,oN,M.a,h];simp);have s0:=TL;have s1:=TJ;have s2:=TI;have s3:=TH;clear B M;obtain rfl|rfl|rfl|rfl:=g7;all_goals
       cases fv
       .have r7:=X (b1.a R);clear b1 hwT;go_wp2;go_roundg (gk-1)
        case measure=>omega
        case rel=>exact⟨i',v,c5.a,by rw[H.a];go_num,R,by rw[r7.a,K.a],by rw[r7.a];exact p.a,a.a⟩
       .have r7:=X (hwT.a R);clear b1 hwT;go_wp2;go_roundg (gk-1)
        case measure=>omega
        case rel=>exact⟨i',_,c5.a,by rw[H.a];go_num,R,by rw[r7.a];simp,by rw[j3,p.a,r7.a,qS],a.a⟩
     .have ei:i=4:=O;subst ei;have k5:=B.at' b3.a;have m1:=B.at' a7.a;have m0:=B.at' a0.a;have g5:=a7;have g1:=a0;clear B b4 b3 a7 a0;obtain⟨r4,rfl⟩:=Yt h0.1;obtain⟨gn,rfl⟩:=Yt g0.1;have g6:r4<=65535:=O;have g3:gn<=65535:=O;have k9:(⟨(d_ r4).toArray⟩:I4).size<=70000:=Ke r4 g6;have l0:(⟨(d_ gn).toArray⟩:I4).size<=70000:=Ke gn g3;clear h0 g0;have p8:a_ Zh (r4:Int)=r4:=Vh;have p7:a_ Zh (gn:Int)=gn:=Vh;have h6:=X (Pk z wh f b r4 gn);have a9:Y (eE f=if sm then E5 f 4 else[45]):=X (by
       unfold eE;rw[<-K.a];cases (E5 f 4).isEmpty<;>rfl)
      go_upto_if 77 with fail;go_cut [3]from 78 to 79 (λs3 wx=>∃T:I4,s3=T/\T.data.toList=sd++eE f/\wx=wr)
      case first=>
       cases sm
       .have b5:Y (E5 f 4=[]):=X (by have:=K.a;simpa using this);go_wp2;go_meet
        case rel=>exact⟨_,R,by rw[j3,p.a,a9.a,b5.a];simp,R⟩
       .go_wp2;go_meet
        case rel=>exact⟨_,R,by rw[p.a,a9.a];rfl,R⟩
      case rest=>
       obtain⟨T,rfl,s9,d1⟩:=hcut;have d2:=d1.symm;subst d2;have b2:=X s9;have m2:T.size<=200:=(by have h1:=Q.a;have E:=Xn List.length b2.a;have h3:=D2 f;rw[qZ,ZX,YY]at E;omega);clear d1 s9 p d0 K a9;obtain⟨bb,s8⟩:=Zo (Zm (0<=b));go_upto_if 82 with fail;go_cut [10]from 83 to 85 (λk2 wx=>∃r6:I4,k2=r6/\r6.data.toList=oO b/\Gr wr wx)
       case first=>
        obtain hb|⟨s7,d5⟩:=hb
        .have E:bb=Zl:=(by rw[<-s8,hb];rfl);subst E;have hN:Y (oO b=[45]):=X (by rw[hb];rfl);clear hb;go_wp2;go_meet
         case rel=>exact⟨_,R,by rw[hN.a],ZO⟩
        .have E:bb=Zk:=(by rw[<-s8];exact qJ s7);subst E;obtain⟨bn,rfl⟩:=Yt s7;have f7:bn<64:=O;have h8:Y (oO (bn:Int)=xQ bn):=X (by unfold oO;rw[qF O,YE]);have g8:Y (∀W:I6,ZL 110 #[bn] W (Zb ⟨(xQ bn).toArray⟩)):=X λW=>qxo bn f7 W;clear s7 d5;go_wp2_with(first|(go_at_call 110;refine Z0 (g8.a _) λwn D=>?_));go_meet
         case rel=>exact⟨_,R,by rw[h8.a],D⟩
       case rest=>
        obtain⟨r6,rfl,s5,D⟩:=hcut;have hN:=X s5;have k4:r6.size<=2:=(by have E:=Xn List.length s5;rw[ZX,YY]at E;rw[E];unfold oO;split<;>simp[xQ]);clear s5 s8 hb;have J:=(C.a.gr a.a).gr D;have a8:=g5.a;have d:=g1.a;obtain⟨A1,a1⟩:∃A,Y (A=T++(⟨#[32]⟩:I4)):=⟨_,X R⟩;obtain⟨r5,a2⟩:∃A,Y (A=A1++r6):=⟨_,X R⟩;obtain⟨A3,a3⟩:∃A,Y (A=r5++(⟨#[32]⟩:I4)):=⟨_,X R⟩;obtain⟨V,a4⟩:∃A,Y (A=A3++(⟨(d_ r4).toArray⟩:I4)):=⟨_,X R⟩;obtain⟨A5,a5⟩:∃A,Y (A=V++(⟨#[32]⟩:I4)):=⟨_,X R⟩;obtain⟨A6,a6⟩:∃A,Y (A=A5++(⟨(d_ gn).toArray⟩:I4)):=⟨_,X R⟩;have l1:A1.size<=201:=(by rw[a1.a,Yn];show T.size+1<=_;omega);have l2:r5.size<=203:=(by rw[a2.a,Yn];omega);have l3:A3.size<=204:=(by rw[a3.a,Yn];show r5.size+1<=_;omega);have l4:V.size<=70204:=(by rw[a4.a,Yn];omega);have l5:A5.size<=70205:=(by rw[a5.a,Yn];show V.size+1<=_;omega);have f1:∀W:I6,(k_ .add T (⟨#[32]⟩:I4)).run c_ W=.ok A1 W:=λW=>(by rw[a1.a];exact Xy W T _ (by show T.size+1<=_;omega));have f2:∀W:I6,(k_ .add A1 r6).run c_ W=.ok r5 W:=λW=>(by rw[a2.a];exact Xy W A1 _ O);have f3:∀W:I6,(k_ .add r5 (⟨#[32]⟩:I4)).run c_ W=.ok A3 W:=λW=>(by rw[a3.a];exact Xy W r5 _ (by show r5.size+1<=_;omega));have f4:∀W:I6,(k_ .add A3 (⟨(d_ r4).toArray⟩:I4)).run c_ W=.ok V W:=λW=>(by rw[a4.a];exact Xy W A3 _ O);have f5:∀W:I6,(k_ .add V (⟨#[32]⟩:I4)).run c_ W=.ok A5 W:=λW=>(by rw[a5.a];exact Xy W V _ (by show V.size+1<=_;omega));have f6:∀W:I6,(k_ .add A5 (⟨(d_ gn).toArray⟩:I4)).run c_ W=.ok A6 W:=λW=>(by rw[a6.a];exact Xy W A5 _ O);have b6:Y (A6=⟨(oI z wh f b r4 gn).toArray⟩):=X (by
         have:A6.data.toList=oI z wh f b r4 gn:=(by rw[h6.a,a6.a,j3,a5.a,j3,a4.a,j3,a3.a,j3,a2.a,j3,a1.a,j3,b2.a,b0.a,hN.a]);rw[<-this])
        go_upto_region 34 with fail;go_region_held3 (λw'=>Gr wc w'/\w'.cell? ⟨w,70,N⟩=I L r4/\w'.cell? ⟨w,71,N⟩=I L gn) (first|exact QN J a8 d ZO.drew|exact QN J a8 d ‹_›|exact QN J a8 d (Gr.alloc (vy ‹_›) _ _)) (first|(go_at_call 75;refine Z0 (fm _ O _) λw' hg=>?_;have f9:=o_ (vy ‹_›) hg));go_wp2;go_ret;exact⟨by rw[<-b6.a];rfl,o_ b7.a (o_ (o_ a.a D) f9)⟩
def isTrue:I7->Bool
 | Za Zk=>Zk
 | _=>Zl
def LU:∀n,n<256->DO (j_ n):=WS
def JZ(c:UInt8):DO c:=by have:=LU c.toNat c.toNat_lt;rwa[UInt8.ofNat_toNat]at this
def K5(z:I2)(B:I0)(V:B.size=64)(A:∀i,i<64->B[i]?=I Zg (z i).toNat)(w:I6):ZL 328 #[B] w (uw z):=by
 have y:=X A;have u:Y ((w.alloc (Z B 67)).heap[w.heap.size]?=Z B 67):=X (Z7 w _);unfold ZL;go_in;go_wp2_with(refine ZV R 67 _ R w R 67 B (0,0) _ u.a t_ rfl (by rw[V];exact x7) ?_);go_loopg [3,7] 64 (λg l n wr=>∃k:Nat,k+g=64/\n=k/\l=(ws z k:Nat)/\(∀j,j<k->(yB (z j)||vG (z j))=Zk)/\wr=w.alloc (Z B 67))
 .exact⟨0,R,R,R,λj C=>w_ C (Yy j),R⟩
 obtain⟨k,Q,rfl,rfl,E,rfl⟩:=hrel;have p:=X E;by_cases T:k<64
 .have v:=G1 B k T _ (y k T);have G:0<=(k:Int):=O;have H:(k:Int)<64:=O;have D:=EH z k;have a:=X (sU z k);have b:Y ((yB (z k)||vG (z k))=Zk->∀j,j<k+1->(yB (z j)||vG (z j))=Zk):=X (λh j C=>by
   by_cases W:j=k
   .subst W;exact h
   exact p j O)
  rcases JZ (z k)with⟨f,d,x⟩|⟨f,d,x⟩|⟨f,d⟩
  .have m:=X (b T1);have o:Y (ws z (k+1)=ws z k):=(by rw[a.a,d];rfl);obtain e|e|e:=x;all_goals
    rw[e]at v;go_wp2;go_roundg (gk-1)
    .exact⟨k+1,O,Vg,by rw[o.a],m,R⟩
    omega
  .have m:=X (b Oi);have o:Y (ws z (k+1)=ws z k+1):=(by rw[a.a,d];rfl);obtain e|e|e|e:=x;all_goals
    rw[e]at v;go_wp2;go_roundg (gk-1)
    .exact⟨k+1,O,Vg,(by rw[o.a];go_num),m,R⟩
    omega
  have r:=X (tT T f);have J:=d 46 WU;have K:=d 75 WU;have a1:=d 107 WU;have M:=d 78 WU;have a2:=d 110 WU;have a0:=d 66 WU;have P:=d 98 WU;go_wp2;go_ret;exact⟨by rw[r.a];rfl,ZN⟩
 have F:k=64:=O;subst F;have q:=X (tU p);go_wp2;go_ret;exact⟨by rw[q.a];rfl,ZN⟩
def NN(z:I2)(B:I0)(h:B.size=64)(f:∀i,i<64->B[i]?=I Zg (z i).toNat)(c:Bool)(n:Int)(w:I6):ZL 292 #[B,c,n] w (yO z c n):=by
 have g:=λW=>K5 z B h f W;have a:(w.alloc (Z B 67)).heap[w.heap.size]?=Z B 67:=Z7 w _;have b:Gr w (w.alloc (Z B 67)):=ZN;unfold yO;generalize uw z=D at g|-;by_cases l:n=0
 .subst l;rw[qI R];cases c;all_goals
   unfold ZL;go_in;go_wp2;go_ret;exact⟨R,b⟩
 rw[qF l];have j:=qM.2 l;cases D;all_goals
  unfold ZL;go_in
  go_wp2_with(first|(refine ZV R 67 _ R w R 67 B (0,0) _ a t_ rfl (by rw[h];exact x7) ?_)|(go_at_call 328;refine Z0 (g _) λk d=>?_));go_ret;exact⟨R,o_ b d⟩
structure Lk(w:I6)(PA:I0)(W:I6):Prop where
 ck:Ck w 60 61 PA W
 st:W.heap[w.heap.size+2]?=S (Z (xB Zl 0 0) 186)
def Lk.next(h:Lk w PA W)(g:Gr W a):Lk w PA a:=⟨h.ck.next g,ZE g h.st⟩
def Lk.c0(h:Lk w PA W):W.cell? w=S (.func (.func 60) #[] #[]):=by rw[Zs h.ck.q];rfl
def Lk.c1(h:Lk w PA W):W.cell? ⟨w,1,N⟩=S (.func (.func 61) #[] #[]):=by rw[Zs h.ck.q];rfl
def Nc(w:I6)(PA:I0):Lk w PA (((w.alloc (Z (zG 60 61) 74)).alloc (Z PA 70)).alloc (Z (xB Zl 0 0) 186)):=by refine⟨(ta w _ _ PA).next ZN,?_⟩;have:=ZQ ((w.alloc (Z (zG 60 61) 74)).alloc (Z PA 70)) (Z (xB Zl 0 0) 186);rw[Z3,Z3]at this;exact this
def Lz{g:Int}(r:jE z wh fc b h g PA)(q:xO z=Zk)(y:-1<=b)(A:b<=63)(T:0<=xR z wh)(V:xR z wh<=63)(w:I6)(a3:jF w)(M:jQ w):ZL 240 #[jP,PA] w (bx z wh fc b):=by
 have a6:=X r;obtain⟨Q,a4⟩:=FN r;have a7:=r.size;have f:=X (λW=>fp r q T V W);have u:=X (λc n W=>NN z _ Q a4 c n W);have G:=bu z wh fc b;have a:Y (∀Bp W,Gr w W->W.heap[Bp]?=Z PA 70->ZL 94 #[.func (.func 128) #[] #[ZI Bp]] W (((xC z wh fc b).length:Int))):=X (λBp W a1 a5=>
  Hr (qxq a6.a q y A Bp (λ_=>False) (λ_ h=>h.elim) W a5 (a3.gr a1) (M.gr a1)) (YC func128 WR R) (by
   rintro k (rfl|rfl|rfl)
   .exact(qB.1 a5).1
   .exact(a3.gr a1).2
   exact(M.gr a1).2) O)
 have p:Y (bx z wh fc b=xB (kz z wh) ((xC z wh fc b).length:Int) (yO z (kz z wh) ((xC z wh fc b).length:Int))):=R;generalize i:((xC z wh fc b).length:Int)=a0 at a p;generalize kz _ _=CQ at f p;have m:(c_.info? 70).map (·.size)=S PA.toList.length:=by rw[ZX,a7];exact jJ
 have o:=Nc w PA;have l:Y (∀W,Lk w PA W->W.rangeAt (w+1) 0 (PA.toList.take 64)):=X (λW hW=>by
  intro j v J;rw[Zs hW.ck.pa,Z2,<-qO];rw[Yv]at J;split at J
  .exact J
  cases J)
 have F:Y ((c_.info? 67).map (·.size)=S (PA.toList.take 64).length):=X (by rw[x7];simp[a7]);simp only[jP,zG];unfold ZL;go_in;go_upto_region 1 with fail;show n_ _ _ _ _ (((w.alloc (Z (zG 60 61) 74)).alloc (Z PA 70)).alloc (Z (xB Zl 0 0) 186));generalize ((w.alloc (Z (zG 60 61) 74)).alloc (Z PA 70)).alloc _=wA at o|-;refine ZT (S:=Lk w PA) WR (o.next ZO.drew) (λd=>?_);refine ZB 0 (Zc #[.func (.func 60) #[] #[],.func (.func 61) #[] #[]]) R (λw' x=>by have c0:=x.c0;have c1:=x.c1;go_simp) d ?_;apply ty 1 _ R (wY m Vb _ R (w+1) R (λ_ h=>h.ck.pa)) d;apply tq 3 _ d;refine ZB 4 (.func (.func 61) #[] #[]) R (λw' x=>by have c0:=x.c0;have c1:=x.c1;go_simp) d ?_;apply ty 5 _ R (wY m Vb _ R (w+1) R (λ_ h=>h.ck.pa)) d;refine rd 2 λK hK=>?_;go_simp;refine Z0 (f _) λwa B=>?_;refine hK.out _ _ (d.next B) λd=>?_;refine rd 6 λK hK=>?_;go_simp;refine Z0 (zk PA _) λwb⟨H,D⟩=>?_;refine hK.out _ _ (d.next D) λd=>?_;refine rd 7 λK hK=>?_;go_simp;refine Z0 (a _ _ d.ck.gr H) λwc E=>?_;refine hK.out _ _ (d.next E) λd=>?_;refine rd 8 λK hK=>?_;go_simp;refine hK.out _ _ d λd=>?_;refine rd 9 λK hK=>?_;go_simp;refine hK.out _ _ d λd=>?_;refine ZZ WR ?_ _;rename_i d;go_wp2_with(first|(refine Yo R 67 _ R (w+1) 0 R (PA.toList.take 64) _ (l.a _ ‹_›) t_ rfl F.a ?_)|(go_at_call 292;refine Z0 (u CQ a0 _) λwd P=>?_;have a2:=Lk.next ‹_› P)|(refine ZU R 186 _ _ R (w+2) (xB CQ a0 (yO z CQ a0)) R R 186 (xB Zl 0 0) a2.st vI R (xw _ _ _) ?_));exact ZS (v:=(xB CQ a0 (yO z CQ a0))) (Yp results240 _ _ (w+2) 186 _ (0,0) _ R (Zt a2.st) underlying186 rfl vI) R ⟨UG,a2.ck.gr.setRow _ O _⟩
def neg(s:yZ):yZ:=(-s.1,-s.2)
def Kl{f:I5}{g:Int}(r:jE z wh f b h g PA)(m:b=-1\/(0<=b/\b<64))(k:0<=h)(l:h<=65535)(i:0<=g)(j:g<=65535)(w:I6)(n:HG w):ZL 239 #[PA] w (Zb ⟨(oI z wh f b h g).toArray⟩):=by obtain⟨A,a,d,rfl⟩:=Aj r;exact Kn z A a d wh f b h g m k l i j w n
def JA(s:I4)(a e:Nat):(s.extract a e).data.toList=(s.data.toList.take e).drop a:=by rw[ByteArray.data_extract,Array.toList_extract];simp[List.drop_take]
def Qn{Z:I2}(h:∀n,64<=n->Z n=0):Z=zB ((h_ 64).map Z):=by
 funext n;unfold zB;by_cases a:n<64
 .rw[YR,YN,List.getElem?_range a];rfl
 rw[YR,Y9 WX];exact h n O
def JQ{B:I1}(m:B.length=64){f:I5}{g:Int}(k:k6 (zB B) wh f b h g=Zk):∃p,xG ⟨(oI (zB B) wh f b h g).toArray⟩=S p/\xP p=Zk/\xM p=zB B/\p.white=wh/\(∀i,i<4->p.castle i=f i)/\p.behind=b:=by
 obtain⟨n,o,q,r⟩:=nG k;have a:B.all wj=Zk:=by rw[qW];intro c e;obtain⟨i,j,rfl⟩:=List.getElem_of_mem e;have:=n i O;unfold zB at this;rwa[YR,Yf j]at this
 obtain⟨l,rfl⟩:=Yt q.1;obtain⟨gn,rfl⟩:=Yt (show 0<=g from O);obtain⟨p,p1,p2,p3,c0,c1,c2,c3,p4,p5,p6⟩:=HS B m a wh f b o l gn O O ⟨(oI (zB B) wh f b l gn).toArray⟩ R;have e:∀i,i<4->p.castle i=f i:=λi j=>by exact Ij
 have d:xP p=Zk:=by rw[xP,ip p2,p3,p4,p5,p6,fx _ _ _ _ _ e];exact k
 exact⟨p,p1,d,ip p2,p3,e,p4⟩
def QG(a b:BitVec 64):a_ Zh (U a*U b)=U (a*b):=by rw[LH];apply Xn U;unfold U;rw[<-Int.natCast_mul,BitVec.ofInt_natCast];exact BitVec.eq_of_toNat_eq (by rw[BitVec.toNat_ofNat,BitVec.toNat_mul])
def Sq(a b:BitVec 64):a_ Zh (U a+U b)=U (a+b):=by rw[LH];apply Xn U;unfold U;rw[<-Int.natCast_add,BitVec.ofInt_natCast];exact BitVec.eq_of_toNat_eq (by rw[BitVec.toNat_ofNat,BitVec.toNat_add])
def SQ(x:BitVec 64):BitVec 64:=
 let a:=(x ^^^ x>>>30)*13787848793156543929#64
 let b:=(a ^^^ a>>>27)*10723151780598845931#64
 b ^^^ b>>>31
def SN(s n:BitVec 64):BitVec 64:=SQ (s+n*11400714819323198485#64)
def SJ(x:BitVec 64):U x/(1073741824:Int)=U (x>>>30):=rE x 30
def SK(x:BitVec 64):U x/(134217728:Int)=U (x>>>27):=rE x 27
def SI(x:BitVec 64):U x/(2147483648:Int)=U (x>>>31):=rE x 31
def RJ(x:Int):Int:=
 let a:=a_ Zh (bits .xor Zh x (x/1073741824)*13787848793156543929)
 let b:=a_ Zh (bits .xor Zh a (a/134217728)*10723151780598845931)
 bits .xor Zh b (b/2147483648)
def mxB:(13787848793156543929:Int)=U 13787848793156543929#64:=WS
def mxC:(10723151780598845931:Int)=U 10723151780598845931#64:=WS
def mxA:(11400714819323198485:Int)=U 11400714819323198485#64:=WS
def SP(x:BitVec 64):RJ (U x)=U (SQ x):=by unfold RJ SQ;simp only;rw[SJ,oF,mxB,QG,SK,oF,mxC,QG,SI,oF]
def QI(x:Int)(w:I6):i_ c_ 295 #[I Zh x] w λe w'=>e=Zd (I Zh (RJ x))/\w'=w:=by go_in;go_wp2;go_ret;exact⟨xo (a:=RJ x) R,R⟩
def NQ(s n:Int):Int:=RJ (a_ Zh (s+a_ Zh (n*11400714819323198485)))
def RH(s n:BitVec 64):NQ (U s) (U n)=U (SN s n):=by unfold NQ SN;rw[mxA,QG,Sq,SP]
def K1(s n:Int)(w:I6):i_ c_ 243 #[I Zh s,I Zh n] w λe w'=>e=Zd (I Zh (NQ s n))/\w'=w:=by go_in;go_wp2_with(go_at_call 295;apply Z1 (QI _ _));go_ret;exact⟨xo (a:=NQ s n) R,R⟩
def lx(n:Nat):BitVec 64:=SN 0#64 (BitVec.ofNat 64 n)
def IZ(z:Nat->UInt8):Nat->BitVec 64
 | 0=>0#64
 | n+1=>if 0<=jB (z n)then IZ z n ^^^ lx (64*(jB (z n)).toNat+n+1)else IZ z n
def kyC(fc:Nat->Bool)(k:BitVec 64):Nat->BitVec 64
 | 0=>k
 | n+1=>if fc n then kyC fc k n ^^^ lx (769+n)else kyC fc k n
def kyW(wh:Bool)(k:BitVec 64):BitVec 64:=if wh then k else k ^^^ lx 773
def kyF(b:Int)(k:BitVec 64):BitVec 64:=if 0<=b then k ^^^ lx (774+(b%8).toNat)else k
def K3(z:I2)(wh:Bool)(fc:I5)(b:Int):BitVec 64:=kyF b (kyW wh (kyC fc (IZ z 64) 4))
def nmB(z:I2):List Nat:=(h_ 64).filterMap λn=>if 0<=jB (z n)then S (64*(jB (z n)).toNat+n+1)else N
def nmC(fc:I5):List Nat:=(h_ 4).filterMap λn=>if fc n then S (769+n)else N
def Ha(z:I2)(wh:Bool)(fc:I5)(b:Int):List Nat:=nmB z++nmC fc++(if wh then[]else[773])++(if 0<=b then[774+(b%8).toNat]else[])
def V_(k:BitVec 64)(l:List Nat):BitVec 64:=l.foldl (λa n=>a ^^^ lx n) k
def mB(k:BitVec 64)(l m:List Nat):V_ k (l++m)=V_ (V_ k l) m:=List.foldl_append
def Nk(z:I2)(n:Nat):IZ z (n+1)=if 0<=jB (z n)then IZ z n ^^^ lx (64*(jB (z n)).toNat+n+1)else IZ z n:=R
def Nj(fc:I5)(k:BitVec 64)(n:Nat):kyC fc k (n+1)=if fc n then kyC fc k n ^^^ lx (769+n)else kyC fc k n:=R
def RT(z:Nat->UInt8)(k:Nat):IZ z k=V_ 0#64 ((h_ k).filterMap λn=>if 0<=jB (z n)then S (64*(jB (z n)).toNat+n+1)else N):=by
 induction k with
 | zero=>rfl
 | succ k ih=>
  rw[YI,List.filterMap_append,mB,<-ih,Nk];by_cases h:0<=jB (z k)
  .simp[h,V_]
  simp[h,V_]
def RP(fc:Nat->Bool)(x:BitVec 64)(k:Nat):kyC fc x k=V_ x ((h_ k).filterMap λn=>if fc n then S (769+n)else N):=by
 induction k with
 | zero=>rfl
 | succ k ih=>
  rw[YI,List.filterMap_append,mB,<-ih,Nj];cases h:fc k
  .simp[h,V_]
  simp[h,V_]
def Nl(z:I2)(wh:Bool)(fc:I5)(b:Int):K3 z wh fc b=V_ 0#64 (Ha z wh fc b):=by unfold K3 Ha;rw[mB,mB,mB];unfold nmB nmC;rw[<-RT,<-RP];unfold kyF kyW;cases wh<;>by_cases h:0<=b<;>simp[h,V_]
def S'(z:I2)(k:Nat):List Nat:=(h_ k).filterMap λn=>if 0<=jB (z n)then S (64*(jB (z n)).toNat+n+1)else N
def qC(fc:I5)(k:Nat):List Nat:=(h_ k).filterMap λn=>if fc n then S (769+n)else N
def KX(z:I2)(k:Nat):S' z (k+1)=S' z k++(if 0<=jB (z k)then[64*(jB (z k)).toNat+k+1]else[]):=by
 rw[S',YI,List.filterMap_append];congr 1;by_cases h:0<=jB (z k)
 .simp[h]
 simp[h]
def Ki(fc:I5)(k:Nat):qC fc (k+1)=qC fc k++(if fc k then[769+k]else[]):=by rw[qC,YI,List.filterMap_append];congr 1;cases h:fc k<;>simp[h]
theorem Lt(z:Nat->UInt8)(k:Nat):∀d,S' z k<+:S' z (k+d)
 | 0=>List.prefix_refl _
 | d+1=>by rw[<-Nat.add_assoc,KX];exact(Lt z k d).trans (Xz _ _)
theorem MP(fc:Nat->Bool)(k:Nat):∀d,qC fc k<+:qC fc (k+d)
 | 0=>List.prefix_refl _
 | d+1=>by rw[<-Nat.add_assoc,Ki];exact(MP fc k d).trans (Xz _ _)
def whN(wh:Bool):List Nat:=if wh then[]else[773]
def bhN(b:Int):List Nat:=if 0<=b then[774+(b%8).toNat]else[]
def H6(z:I2)(wh:Bool)(fc:I5)(b:Int):Ha z wh fc b=S' z 64++qC fc 4++whN wh++bhN b:=R
def PJ(a:k<=64):S' z k <+:Ha z wh fc b:=by rw[H6,qS,qS];have:=Lt z k (64-k);rw[show k+(64-k)=64 from O]at this;exact this.trans (Xz _ _)
def PI(a:k<=4):S' z 64++qC fc k <+:Ha z wh fc b:=by rw[H6,qS,qS];have:=MP fc k (4-k);rw[show k+(4-k)=4 from O]at this;exact(Xq _).2 (this.trans (Xz _ _))
def cL4(h:∀i,i<4->W.cell? ⟨Bp,65+i,N⟩=S (Za (fc i))):W.rangeAt Bp 65 [Za (fc 0),Za (fc 1),Za (fc 2),Za (fc 3)]:=by intro j v a;have b:j<4:=(Z5.1 a).1;have:j=0\/j=1\/j=2\/j=3:=O;rcases this with rfl|rfl|rfl|rfl<;>(rw[<-a];exact h _ O)
def RZ:(c_.info? 68).map (·.size)=S 4:=WR
theorem SX(c0 c1 c2 c3:Bool)(w:I6):(l_ 68 (Zc #[Za c0,Za c1,Za c2,Za c3]) (I L 0)).run c_ w=.ok (Za c0) w:=WR
theorem SW(c0 c1 c2 c3:Bool)(w:I6):(l_ 68 (Zc #[Za c0,Za c1,Za c2,Za c3]) (I L 1)).run c_ w=.ok (Za c1) w:=WR
theorem SV(c0 c1 c2 c3:Bool)(w:I6):(l_ 68 (Zc #[Za c0,Za c1,Za c2,Za c3]) (I L 2)).run c_ w=.ok (Za c2) w:=WR
theorem SU(c0 c1 c2 c3:Bool)(w:I6):(l_ 68 (Zc #[Za c0,Za c1,Za c2,Za c3]) (I L 3)).run c_ w=.ok (Za c3) w:=WR
def TS(fc:I5)(k:Nat)(a:k<4)(w:I6):(l_ 68 (Zc #[Za (fc 0),Za (fc 1),Za (fc 2),Za (fc 3)]) (I L k)).run c_ w=.ok (Za (fc k)) w:=by grind[SX,SW,SV,SU]
def ST(z:I2)(k:Nat)(a:k<64)(w:I6):(l_ 67 (Zc (zL z).toArray) (I L k)).run c_ w=.ok (I Zg (z k).toNat) w:=G1 _ k a _ ((gu z).2 k a) w
def Kx(a5:xO z=Zk)(a8:-1<=b)(a9:b<=63)(V Bp:Nat)(T:Obj->Prop)(w:I6)(h1:w.cell? V=S (ZI Bp))(Z:Ps z wh fc b Bp w):It c_ 294 #[ZI V] (λx:Nat=>#[I L (x:Int)]) T (λk=>k=V\/k=Bp) (Ha z wh fc b) w:=by
 intro l B J Jx W f0 hB hJ a7 n h0;have c0:=f0.cell h1 (λ_ _=>Zi R);have y:=Z.fr f0 (λ_ _=>Zj R);refine(ZY (n:=1)).1 ?_;refine callsIn_of_wp func294 rfl trivial ?_ R;simp only[ntmps294,Nat.reduceAdd,Nat.reduceSub,Zr];refine Z9.2 ?_;have C:=y.bd.range;go_wp2_with(refine Yo R 67 _ R Bp 0 R (zL z) _ C t_ rfl (by rw[ub];exact x7) ?_);refine(Z9 (n:=1)).1 ?_;have a1:=y;gi_loopw [11] (λp wr=>∃k:Nat,k<=64/\p=I L k/\wr.cell? V=S (ZI Bp)/\Ps z wh fc b Bp wr/\J (S' z k) wr) (λp _=>64-(intOf p).toNat)
 .exact⟨0,O,R,c0,y,h0⟩
 obtain⟨k,hk,rfl,c0,y,D⟩:=hrel;have j:=X y;have a:=X D;by_cases b3:k<64
 .have P:=ST z k b3;have b4:ew (z k)=Zk:=by have c5:=a5;unfold xO at c5;exact(qW.1 c5) k (qK.2 b3)
  have a3:0<=(k:Int):=O;have c6:(k:Int)<64:=O;have a0:a_ L ((k:Int)+1)=(((k+1:Nat)):Int):=Vc;have o:Y (S' z (k+1)=S' z k++(if 0<=jB (z k)then[64*(jB (z k)).toNat+k+1]else[])):=X (KX z k);by_cases b1:z k=46
  .have a4:(((z k).toNat:Int)!=46)=Zl:=(by rw[b1];rfl);have i:Y (S' z (k+1)=S' z k):=X (by rw[o.a,qF (by rw[b1];decide),Yh]);exact OM
  have a4:(((z k).toNat:Int)!=46)=Zk:=by rw[qU];intro e;apply b1;apply q6.1;have:(z k).toNat=46:=O;rw[this];rfl
  have b5:0<=jB (z k):=by rw[bf,Ym,YF,qG]at b4;exact b4.resolve_left b1
  have Q:=(rn (z k)).2;obtain⟨m,hm⟩:=Yt b5;have i:S' z (k+1)=S' z k++[64*m+k+1]:=by rw[o.a,qI b5,hm];rfl
  have a2:Y (∀W:I6,i_ c_ 200 #[Zb ⟨#[80,78,66,82,81,75,112,110,98,114,113,107]⟩,I Zg (z k).toNat] W λe w'=>e=Zd (I L m)/\w'=W):=X (λW=>by
   refine(Tryz.strings_IndexByte _ _ _).mono ?_;rintro e w' ⟨rfl,rfl⟩;have hu:((z k).toNat:Int).toNat.toUInt8=z k:=WU
   exact⟨by rw[<-hm];simp only[hu];rfl,R⟩)
  have b0:m<12:=O;have e1:a_ L (64*(m:Int))=64*(m:Int):=Vc;have e2:a_ L (64*(m:Int)+k)=64*(m:Int)+k:=Vc;have e3:a_ L (64*(m:Int)+k+1)=((64*m+k+1:Nat):Int):=Vc;obtain⟨fn,tmps,g,v,hy,hR⟩:=n (S' z k) (64*m+k+1) wr (by rw[<-i];exact PJ O) a.a;have u:=X i;generalize 64*m+k+1=xx at hy hR e3 u;gi_wp2_with (refine⟨trivial,?_⟩;gi_at_call 200;refine(ZY.2 (a2.a _)).mono ?_;rintro e w' ⟨rfl,rfl⟩);refine hR.mono ?_;rintro e W3 ⟨K,⟨rfl,A⟩|⟨rfl,q⟩⟩
  .exact OO
  gi_wp2;refine ZS (XS R _ _ _) R ?_;exact⟨⟨_,R⟩,Zj ⟨S' z k++[xx],by rw[<-u.a];exact PJ O,q⟩⟩
 have ek:k=64:=O;subst ek;have y:=j.a;have C:=cL4 y.c;refine Z9.2 ?_;go_wp2_with(refine Yo R 68 _ R Bp 65 R [Za (fc 0),Za (fc 1),Za (fc 2),Za (fc 3)] _ C underlying68 rfl RZ ?_);refine(Z9 (n:=1)).1 ?_;gi_loopw [33] (λp wr=>∃k:Nat,k<=4/\p=I L k/\wr.cell? V=S (ZI Bp)/\Ps z wh fc b Bp wr/\J (S' z 64++qC fc k) wr) (λp _=>4-(intOf p).toNat)
 .exact⟨0,O,R,c0,y,by rw[show qC fc 0=[]from R,Yh];exact a.a⟩
 obtain⟨k,hk,rfl,c0,y,D⟩:=hrel;have j:=X y;have a:=X D;by_cases b3:k<4
 .have P:=TS fc k b3;have a3:0<=(k:Int):=O;have c6:(k:Int)<4:=O;have a0:a_ L ((k:Int)+1)=(((k+1:Nat)):Int):=Vc;have o:Y (qC fc (k+1)=qC fc k++(if fc k then[769+k]else[])):=X (Ki fc k);cases b2:fc k
  .have i:Y (S' z 64++qC fc (k+1)=S' z 64++qC fc k):=X (by rw[o.a,b2];simp);rw[b2]at P;exact OM
  have i:S' z 64++qC fc (k+1)=S' z 64++qC fc k++[769+k]:=by rw[o.a,b2];simp
  have e3:a_ L (769+(k:Int))=((769+k:Nat):Int):=Vc;obtain⟨fn,tmps,g,v,hy,hR⟩:=n (S' z 64++qC fc k) (769+k) wr (by rw[<-i];exact PI O) a.a;have u:=X i;rw[b2]at P;generalize 769+k=xx at hy hR e3 u;gi_wp2;refine hR.mono ?_;rintro e W3 ⟨K,⟨rfl,A⟩|⟨rfl,q⟩⟩
  .exact OO
  gi_wp2;refine ZS (XS R _ _ _) R ?_;exact⟨⟨_,R⟩,Zj ⟨S' z 64++qC fc k++[xx],by rw[<-u.a];exact PI O,q⟩⟩
 have ek:k=4:=O;subst ek;have G:=X (H6 z wh fc b);obtain⟨r,H⟩:∃l,Y (l=S' z 64++qC fc 4):=⟨_,X R⟩;rw[<-H.a]at a G;have cw:=j.a.wh;have cb:=j.a.b;have f:Y (bhN b=if 0<=b then[774+(b%8).toNat]else[]):=X R;cases wh
 .have b6:Ha z Zl fc b=r++[773]++bhN b:=G.a;obtain⟨fn,tmps,g,v,hy,hR⟩:=n r 773 wr (by rw[b6];exact Xz _ _) a.a;have d:=X b6;simp only[show((773:Nat):Int)=773 from R]at hy;gi_wp2;refine(Z9 (n:=1)).1 ?_;gi_wp2;refine hR.mono ?_;rintro e W3 ⟨K,⟨rfl,A⟩|⟨rfl,q⟩⟩
  .have c3:=K.cell c0 (λ_ _=>Zi (Zi R));have a6:=(j.a.fr K (λ_ _=>Zi (Zj R))).b;by_cases hb:0<=b
   .rw[qI hb]at f;obtain⟨fn,tmps,g,v,b7,F⟩:=n (r++[773]) (774+(b%8).toNat) W3 (by rw[d.a,f.a];exact List.prefix_refl _) A;have e1:a_ L (774+b%8)=((774+(b%8).toNat:Nat):Int):=Vc;have e2:b.tmod 8=b%8:=Int.tmod_eq_emod_of_nonneg hb;have h:=X (show r++[773]++[774+(b%8).toNat]=Ha z Zl fc b by rw[d.a,f.a]);generalize 774+(b%8).toNat=xx at b7 F e1 h;gi_wp2;exact OG
   rw[qF hb]at f;gi_wp2;go_end0;exact⟨⟨_,R⟩,Zi (by rw[d.a,f.a,Yh];exact A)⟩
  gi_wp2;refine ZS (XS R _ _ _) R ?_;exact⟨⟨_,R⟩,Zj ⟨r++[773],by rw[d.a];exact Xz _ _,q⟩⟩
 have d:Y (Ha z Zk fc b=r++bhN b):=X (by rw[G.a];simp[whN]);by_cases hb:0<=b
 .rw[qI hb]at f;obtain⟨fn,tmps,g,v,b7,F⟩:=n r (774+(b%8).toNat) wr (by rw[d.a,f.a];exact List.prefix_refl _) a.a;have e1:a_ L (774+b%8)=((774+(b%8).toNat:Nat):Int):=Vc;have e2:b.tmod 8=b%8:=Int.tmod_eq_emod_of_nonneg hb;have h:=X (show r++[774+(b%8).toNat]=Ha z Zk fc b by rw[d.a,f.a]);generalize 774+(b%8).toNat=xx at b7 F e1 h;gi_wp2;refine(Z9 (n:=1)).1 ?_;gi_wp2_with ((with_reducible apply YB);(first|exact trivial|(intro _ _;trivial)));exact OG
 rw[qF hb]at f;gi_wp2;refine(Z9 (n:=1)).1 ?_;gi_wp2_with ((with_reducible apply YB);(first|exact trivial|(intro _ _;trivial)));go_end0;exact⟨⟨_,R⟩,Zi (by rw[d.a,f.a,Yh];exact a.a)⟩
def Sr(n:Nat)(h:n<18446744073709551616):U (BitVec.ofNat 64 n)=(n:Int):=by rw[U,BitVec.toNat_ofNat,Nat.mod_eq_of_lt h]
def QD(n:Nat)(h:n<18446744073709551616)(w:I6):i_ c_ 243 #[I Zh 0,I Zh n] w λe w'=>e=Zd (I Zh (U (lx n)))/\w'=w:=by have e:=RH 0#64 (BitVec.ofNat 64 n);rw[Sr n h]at e;have:=K1 (U 0#64) (n:Int) w;rw[e]at this;exact this
def QC(h:x∈Ha z wh fc b):x<1000:=by
 rw[H6,Yi,Yi,Yi]at h;obtain((h|h)|h)|h:=h
 .unfold S' at h;obtain⟨n,a,e⟩:=List.mem_filterMap.1 h;have:=qK.1 a;have:=(rn (z n)).2;split at e
  .injection e with e;omega
  cases e
 .unfold qC at h;obtain⟨n,a,e⟩:=List.mem_filterMap.1 h;have:=qK.1 a;split at e
  .injection e with e;omega
  cases e
 .unfold whN at h;split at h
  .cases h
  rw[qT.1 h];omega
 unfold bhN at h;split at h
 .rw[qT.1 h];omega
 cases h
def Kw(Bp:Nat)(w:I6):i_ c_ 242 #[ZI Bp] w λe w'=>e=Zd (.func (.func 294) #[] #[ZI w.heap.size])/\w'.heap[w.heap.size]?=S (Z #[ZI Bp] 229)/\Gr w w':=by go_in;go_wp2;go_ret;exact⟨R,Z7 w _,ZN⟩
def L6{g:Int}(r:jE z wh fc b h g PA)(Q:xO z=Zk)(M:-1<=b)(a8:b<=63)(w:I6):ZL 183 #[Zc PA] w (I Zh (U (K3 z wh fc b))):=by
 rw[Nl];obtain⟨H,n⟩:=x6 w (Z PA 70) (Z #[I Zh 0] 23);have u:Gr w ((w.alloc (Z PA 70)).alloc (Z #[I Zh 0] 23)):=ZN.al;have F:((w.alloc (Z PA 70)).alloc (Z #[I Zh 0] 23)).heap.size=w.heap.size+2:=WU;have E:=X (λW=>Kw w W);refine(ZY (n:=9)).1 ?_;refine callsIn_of_wp_marks func183 rfl x_ ?_ R;simp only[ntmps183,Nat.reduceAdd,Nat.reduceSub,Zr];apply Z9.2;go_upto_region 2 with fail;generalize (w.alloc _).alloc _=w0 at H n u F|-;go_wp2_with(go_at_call 242;refine(E _).mono ?_;rintro e G ⟨rfl,v,d⟩);have a7:=ZE d H;have a9:=(Zz d ((qB.1 n).1)).trans n;have P:=o_ u d;have a6:=ZR d;have a5:=(qB.1 v).1;have B:=Kx Q M a8 w0 w (λ_=>False) G (qi v).1 (Ps.of r a7);rw[F]at v a6 a5 B;refine Z9.1 (xj (n:=9) (gf:=294) (lb:=#[ZI (w.heap.size+2)]) R (YC func294 WR R) B (λ_ h=>h.elim) (by rintro k (rfl|rfl)<;>omega) ZP (λ_=>R)
  (λa V=>V.heap[w.heap.size+1]?=S (Z #[I Zh (U (V_ 0#64 a))] 23)/\Gr w V/\G.heap.size<=V.heap.size)
  (λ_ _ _=>False)
  ?sI (λ_ _ _ _ h _=>h) ⟨a9,P,Zy⟩ ?rnd ?done (λ_ _ _ _ _ _ h _=>h.elim))
 case sI=>exact λs A A' h f=>⟨f.same _ _ h.1 (Zi O),u_ h.2.1 (f.below (n:=w) (ZR h.2.1) (λk o hk=>Zi O)),q7 h.2.2 f.size⟩
 case done=>rintro D V hD ⟨p,y,l⟩ hK;have c2:=(qi p).1;go_wp2;refine⟨WU,Zi ⟨_,_,R,YU hK,?_⟩⟩;exact⟨_,Wh R _ _ _,R,u_ y (XZ (w:=G) (n₀:=w) O _ D _ _ hD hK R R)⟩
 case rnd=>
  rintro a3 a x V T hx ⟨p,y,l⟩ hl;have a0:a3<V:=hl.elim λr hr=>(qB.1 hr).1;gi_wp2;refine⟨ZP,?_⟩;intro i f2 K a1;obtain⟨p,y,l⟩:=K;have a2:x<1000:=QC (hx.subset WU);have ew:a_ Zh ((x:Nat):Int)=(x:Int):=Vh;have m:=X (λW=>QD x O W);have j:Y (U (V_ 0#64 (a++[x]))=bits .xor Zh (U (V_ 0#64 a)) (U (lx x))):=(by rw[oF,mB];rfl);generalize lx x=gv at m j;obtain⟨kn,C⟩:∃q,q=V_ 0#64 (a++[x]):=⟨_,R⟩;rw[<-C]at j;generalize V_ _ _=kv at p j;have d2:i.drew.cell? ⟨w+1,0,N⟩=I Zh (U kv):=(qi p).1;have d3:i.drew.frozen? ⟨w+1,0,N⟩=Zl:=(qi p).2;have J:Y (Fr (jM G.heap.size (λ_=>False) (λk=>k=w.heap.size+2\/k=w.heap.size)) i (i.setCell ⟨w.heap.size+1,0,N⟩ (I Zh (bits .xor Zh (U kv) (U gv)))).drew/\(i.setCell ⟨w.heap.size+1,0,N⟩ (I Zh (bits .xor Zh (U kv) (U gv)))).drew.heap[w.heap.size+1]?=S (Z #[I Zh (U (V_ 0#64 (a++[x])))] 23)/\Gr w (i.setCell ⟨w.heap.size+1,0,N⟩ (I Zh (bits .xor Zh (U kv) (U gv)))).drew/\G.heap.size<=(i.setCell ⟨w.heap.size+1,0,N⟩ (I Zh (bits .xor Zh (U kv) (U gv)))).drew.heap.size):=X (by
   have a4:Fr (λk _=>k≠w.heap.size+1) i (i.setCell ⟨w+1,0,N⟩ (I Zh (bits .xor Zh (U kv) (U gv)))):=ZP.setCell _ (λo _ q=>q R);refine⟨Fr.drew (a4.mono ?_),?_,Gr.drew (Yr y (show w<=w.heap.size+1 from O) _),?_⟩
   .rintro k o-(q|q)
    .rcases q with q|q<;>omega
    have:=q.1;omega
   .show(i.setCell ⟨w+1,0,N⟩ (I Zh (bits .xor Zh (U kv) (U gv)))).heap[w.heap.size+1]?=_;have:=jm (v:=I Zh (bits .xor Zh (U kv) (U gv))) p;rw[this,<-C,j.a]
   exact q7 l a4.size)
  gi_wp2;gi_region_with (refine⟨x_,?_⟩;gi_at_call 243;refine((ZY.2 (m _)).inRound a3).mono ?_;rintro e wc ⟨rfl,rfl⟩);all_goals
   gi_wp2;exact J
def z_:Nat->(Nat->UInt8)->Bool->(Nat->Bool)->Int->Nat
 | 0,_,_,_,_=>1
 | d+1,z,wh,fc,b=>((xC z wh fc b).map λx=>z_ d (zE z b x) (!wh) (kB fc x.1 x.2.1 4) (vK z x.1 x.2.1)).sum
def Qr{l:List Nat}{m:Nat}(d:l.length<=m)(h:∀x∈l,x<=n):l.sum<=m*n:=by
 have b:∀l:List Nat,(∀x∈l,x<=n)->l.sum<=l.length*n:=by
  intro l;induction l with
  | nil=>intro _;simp
  | cons a r ih=>
   intro h;rw[List.sum_cons,Yq,Nat.add_mul,Nat.one_mul];have:=ih (λx e=>h x (Xg _ e));have:=h a (XE ..);omega
 exact q7 (b l h) (XT n d)
def NK(d:Nat):∀z wh fc b,z_ d z wh fc b<=1000000^d:=by
 induction d with
 | zero=>intros;exact Zy
 | succ d ih=>
  intro z wh fc b;rw[Nat.pow_succ,Nat.mul_comm];refine Qr (by rw[YD];exact bu z wh fc b) λx a=>?_;obtain⟨y,_,rfl⟩:=YL.1 a;exact ih _ _ _ _
def pb(a:d<=3)(z:I2)(wh:Bool)(fc:I5)(b:Int):z_ d z wh fc b<=1000000000000000000:=by refine q7 (NK d z wh fc b) (q7 (X8 WW a) WW)
def JS(z:Nat->UInt8)(wh:Bool)(fc:Nat->Bool)(b:Int):z_ 1 z wh fc b=(xC z wh fc b).length:=by
 unfold z_;generalize xC _ _ _ _=l;induction l with
 | nil=>rfl
 | cons a r ih=>rw[YM,List.sum_cons,ih,Yq];show 1+_=_;omega
def F7{l:List Mv}(a:l.Perm (xC z wh fc b))(d:Nat):(l.map λx=>z_ d (zE z b x) (!wh) (kB fc x.1 x.2.1 4) (vK z x.1 x.2.1)).sum=z_ (d+1) z wh fc b:=(a.map _).sum_nat
def Nd(a:kJ z wh fc b)(d:-1<=b)(e:b<=63):(yo z wh fc b).Perm (xC z wh fc b):=(List.perm_ext_iff_of_nodup (fF a) (fB z wh fc b)).2 (je a d e)
def Kj(e:kJ z wh fc b)(a:-1<=b)(d:b<=63):(yY z wh fc b).Perm (xC z wh fc b):=by rw[qk3 e a d];exact xq _
def LQ{f:Mv->Nat}{a:List Mv}{x:Mv}{b:List Mv}(h:a++[x] <+:b):(a.map f).sum+f x<=(b.map f).sum:=by obtain⟨r,rfl⟩:=h;simp only[Ys,List.sum_append,YM,Wi,List.sum_cons,List.sum_nil];omega
def zm(g:Nat)(w w':I6):Prop:=Fr (λk _=>k≠g) w w'
def zm.refl(g:Nat)(w:I6):zm g w w:=ZP
def zm.trans{b c:I6}(h:zm g a b)(k:zm g b c):zm g a c:=Fr.trans h k
def zm.of{b:I6}(h:Gr a b):zm g a b:=p_ h
def zm.size{b:I6}(h:zm g a b):a.heap.size<=b.heap.size:=Fr.size h
def zm.gr{b:I6}(h:zm g a b)(d:a.heap.size<=g):Gr a b:=Fr.below h Zy (λk _ e=>O)
def zm.at{b:I6}(h:zm g a b){o:Obj}(e:a.heap[k]?=S o)(d:k≠g):b.heap[k]?=S o:=Fr.same h k o e d
def zm.below{b c:I6}(h:zm g a b)(k:Below a.heap.size b c):zm g a c:=⟨k.os.trans h.os,k.tape.trans h.tape,k.output.trans h.output,q7 h.size k.size,λi o e q=>(k.block i (qB.1 e).1).trans (h.same i o e q)⟩
def Mz{L:Nat}{lb:I0}{C:Nat->Prop}{W:List Mv}(a9:It c_ L lb vr (λ_=>False) C W w)(a5:∀args w,(callFunc L args).run c_ w=.ok (.enter L args) w)(M:∀k,C k->k<w.heap.size)(g:Nat)(a6:¬C g)(c5:g<w.heap.size)(b2 b3 Z:Nat) (a:Mv->Nat) (v:I6->Prop) (H:∀A G,v A->Fr (λk _=>k<w.heap.size) A G->v G) (h0:v w)(hw:∀f t u,(f,t,u)∈W->∀V,v V->i_ c_ 96 #[Zc (ZJ f t u),ZI b2,ZI b3,ZI Z] V λe V'=>e=Zd (I Zh (a (f,t,u):Nat))/\zm g V V'/\v V')(hb:(W.map a).sum<=1000000000000000000):i_ c_ 95 #[.func (.func L) #[] lb,.func (.func 96) #[] #[ZI b2,ZI b3,ZI Z]] w λe w'=>e=Zd (I Zh ((W.map a).sum:Nat))/\zm g w w'/\v w':=by
 obtain⟨z,i⟩:∃z:I7,z=.func (.func 96) #[] #[ZI b2,ZI b3,ZI Z]:=⟨_,R⟩;rw[<-i];refine(ZY (n:=9)).1 ?_;refine callsIn_of_wp_marks func95 rfl x_ ?_ R;simp only[ntmps95,Nat.reduceAdd,Nat.reduceSub,Zr];refine Z9.2 ?_;have c4:z.oneCell'=Zk:=by rw[i];rfl
 rw[i];go_wp2;rw[<-i];obtain⟨h1,h2⟩:=x6 w (.cells #[z] 172) (.cells #[I Zh 0] 23);have B:Gr w ((w.alloc (.cells #[z] 172)).alloc (.cells #[I Zh 0] 23)):=ZN.al;have b4:((w.alloc (.cells #[z] 172)).alloc (.cells #[I Zh 0] 23)).heap.size=w.heap.size+2:=WU;generalize ((w.alloc (.cells #[z] 172)).alloc (.cells #[I Zh 0] 23))=w2 at h1 h2 B b4|-;have b6:∀{A G},v A->Gr A G->w.heap.size<=A.heap.size->v G:=λh k _=>H _ _ h (p_ k);refine Z9.1 (xj (n:=9) (gf:=L) (lb:=lb) R a5 a9 (λ_ h=>h.elim) (λk P=>by have:=M k P;omega) (p_ B) (λ_=>R)
  (λy V=>V.heap[w.heap.size]?=S (.cells #[z] 172)/\V.heap[w.heap.size+1]?=S (.cells #[I Zh ((y.map a).sum:Nat)] 23)/\zm g w V/\w2.heap.size<=V.heap.size/\v V)
  (λ_ _ _=>False)
  ?sI (λ_ _ _ _ h _=>h) ⟨h1,h2,zm.of B,Zy,H _ _ h0 (p_ B)⟩ ?rnd ?done (λ_ _ _ _ _ _ h _=>h.elim))
 case sI=>exact λs A G h f=>⟨f.same _ _ h.1 (Zi O),f.same _ _ h.2.1 (Zi O),zm.below h.2.2.1 (f.below (n:=w.heap.size) (zm.size h.2.2.1) (λk o P=>Zi O)),q7 h.2.2.2.1 f.size,H _ _ h.2.2.2.2 (f.mono λk o _ P=>Zi O)⟩
 case done=>rintro D V hD ⟨T,F,hg,f0,b1⟩ hK;have c2:=(qi F).1;go_wp2;refine⟨WU,Zi ⟨_,_,R,YU hK,?_⟩⟩;refine⟨_,Wh R _ _ _,R,zm.below hg (XZ (w:=w2) (n₀:=w.heap.size) O _ D _ _ hD hK R R),H _ _ b1 (Fr.of_below (n:=w.heap.size) (XZ (w:=w2) (n₀:=w.heap.size) O _ D _ _ hD hK R R) λk _ _ P=>P)⟩
 case rnd=>
  rintro l1 y ⟨fr,J,u⟩ V b7 hx ⟨T,F,hg,f0,b1⟩ hl;have c6:l1<V.heap.size:=hl.elim λr hr=>(qB.1 hr).1;simp only[vr,gJ];gi_wp2;refine⟨ZP.alloc _,?_⟩;intro d f2 a4 d0;obtain⟨T,F,hg,f0,b1⟩:=a4;have kx:d.heap[V.heap.size]?=S (.cells (ZJ fr J u) 87):=f2.same _ _ (ZQ V _) O;generalize V.heap.size=Bx at kx|-;have Q:(fr,J,u)∈W:=hx.subset WU;have d5:=LQ (f:=a) hx;obtain⟨j,p⟩:∃n,Y (n=(y.map a).sum):=⟨_,X R⟩;obtain⟨xv,x⟩:∃n,Y (n=a (fr,J,u)):=⟨_,X R⟩;have b5:Y ((((y++[((fr,J,u):Mv)]).map a).sum:Nat)=j+xv):=X (by rw[p.a,x.a];simp);have l:=X (hw fr J u Q);rw[<-p.a]at F d5;rw[<-x.a]at d5 l;have d4:a_ Zh ((j:Int)+xv)=(j:Int)+xv:=Vh;have d1:d.drew.cell? w.heap.size=S z:=(qi T).1;rw[i]at d1;have d2:d.drew.cell? ⟨w.heap.size+1,0,N⟩=S (I Zh j):=(qi F).1;have d3:d.drew.frozen? ⟨w.heap.size+1,0,N⟩=Zl:=(qi F).2;obtain⟨x0,x1,x2⟩:=qm (show d.drew.heap[Bx]?=_ from kx);have a8:v d.drew:=H _ _ b1 (ZP.drew);have aft:∀b,zm g d.drew b->(b.cell? w.heap.size=S (.func (.func 96) #[] #[ZI b2,ZI b3,ZI Z])/\b.cell? ⟨w.heap.size+1,0,N⟩=S (I Zh j)/\b.frozen? ⟨w.heap.size+1,0,N⟩=Zl):=λb E=>by have e1:=E.at (show d.drew.heap[w.heap.size]?=_ from T) O;have e2:=E.at (show d.drew.heap[w.heap.size+1]?=_ from F) O;exact⟨by rw[<-i];exact(qi e1).1,(qi e2).1,(qi e2).2⟩
  have K:=X aft;have a0:Y (∀b,zm g d.drew b->v b->Fr (jM w2.heap.size (λ_=>False) C) d (b.setCell ⟨w.heap.size+1,0,N⟩ (I Zh ((j:Int)+xv)))/\(b.setCell ⟨w.heap.size+1,0,N⟩ (I Zh ((j:Int)+xv))).heap[w.heap.size]?=S (.cells #[z] 172)/\(b.setCell ⟨w.heap.size+1,0,N⟩ (I Zh ((j:Int)+xv))).heap[w.heap.size+1]?=S (.cells #[I Zh ((((y++[((fr,J,u):Mv)]).map a).sum:Nat):Int)] 23)/\zm g w (b.setCell ⟨w.heap.size+1,0,N⟩ (I Zh ((j:Int)+xv)))/\w2.heap.size<=(b.setCell ⟨w.heap.size+1,0,N⟩ (I Zh ((j:Int)+xv))).heap.size/\v (b.setCell ⟨w.heap.size+1,0,N⟩ (I Zh ((j:Int)+xv)))):=X (λb E b0=>by
   have m:zm g d b:=zm.trans (zm.of (q_ d).drew) E;have e1:=m.at T O;have e2:=m.at F O;have fs:Fr (λk _=>k≠w.heap.size+1) b (b.setCell ⟨w.heap.size+1,0,N⟩ (I Zh ((j:Int)+xv))):=ZP.setCell _ (λo _ q=>q R);refine⟨Fr.trans (Fr.mono m λk o _ q=>?_) (fs.mono λk o _ q=>?_),fs.same _ _ e1 O,?_,Fr.setNew (zm.trans hg m) _ (show w.heap.size<=w.heap.size+1 from O),?_,H _ _ b0 (fs.mono λk o _ q=>O)⟩
   .rintro rfl;obtain q|q:=q
    .exact a6 q
    omega
   .rintro rfl;obtain q|q:=q
    .have:=M _ q;omega
    omega
   .have:=jm (v:=I Zh ((j:Int)+xv)) e2;rw[this,b5.a];simp
   have:=zm.size m;simp[World.setCell];omega)
  gi_wp2;gi_region_with (refine⟨x_,?_⟩;gi_at_call 96;refine((ZY.2 (l.a _ (by with_reducible exact a8))).inRound l1).mono ?_;rintro e wc ⟨rfl,f1,a7⟩;obtain⟨a1,a2,a3⟩:=K.a wc f1);all_goals
   gi_wp2;exact a0.a _ f1 a7
structure LD(g:Nat):Prop where
 t1:g≠2
 t2:g≠3
 t3:g≠0
 t4:g≠1
structure Wt(w:I6):Prop where
 tab:jF w
 cas:jQ w
 st:vT w
 hom:vJ w
def Wt.gr(h:Wt w)(g:Gr w w'):Wt w':=⟨h.tab.gr g,h.cas.gr g,h.st.gr g,h.hom.gr g⟩
def Wt.fx(h:Wt w)(a:LD g)(f:zm g w w'):Wt w':=⟨h.tab.fr f (λ_=>a.t1.symm),h.cas.fr f (λ_=>a.t2.symm),h.st.fr f (λ_=>a.t3.symm),h.hom.fr f (λ_=>a.t4.symm)⟩
def Wt.lt(h:Wt w)(e:w.heap.size<=n):LD n:=by have a:=h.tab.2;have b:=h.cas.2;have c:=h.st.2;have d:=h.hom.2;exact⟨O,O,O,O⟩
def Wt.low(h:Wt w)(d:Wt w1)(f:Fr (λk _=>k<w1.heap.size) w w'):Wt w':=⟨⟨λj e=>f.cell (h.tab.1 j e) (λ_ _=>d.tab.2),qN h.tab.2 f.size⟩,⟨λj v b=>f.cell (h.cas.1 j v b) (λ_ _=>d.cas.2),qN h.cas.2 f.size⟩,⟨λj v b=>f.cell (h.st.1 j v b) (λ_ _=>d.st.2),qN h.st.2 f.size⟩,⟨λj v b=>f.cell (h.hom.1 j v b) (λ_ _=>d.hom.2),qN h.hom.2 f.size⟩⟩
def Jp(C:Nat->Prop)(w:I6):Prop:=∀k,C k->k<w.heap.size/\((k=2\/k=3\/k=0)\/∃c ty fr,ty≠168/\w.heap[k]?=S (Z c ty fr))
def Jp.not{C:Nat->Prop}(h:Jp C w)(a:LD g){S:I0}{fr:Nat×Nat}(d:w.heap[g]?=some (Z S 168 fr)):¬C g:=λb=>by
 rcases(h g b).2 with(e|e|e)|⟨c,ty,i,f,e⟩
 .exact a.t1 e
 .exact a.t2 e
 .exact a.t3 e
 rw[d]at e;injection e with e
 injection e with _ e _
 exact f e.symm
structure Su(gm gi:Nat)(PA:I0)(xs:List Mv)(w:I6):Prop where
 em:∀args w,(callFunc gm args).run c_ w=.ok (.enter gm args) w
 ei:∀args w,(callFunc gi args).run c_ w=.ok (.enter gi args) w
 go:i_ c_ gm #[Zc PA] w λe w'=>∃lb C,e=Zd (.func (.func gi) #[] lb)/\Gr w w'/\Jp C w'/\It c_ gi lb vr (λ_=>False) C xs w'
section
variable {g:Int}
theorem TD(r:jE z wh fc b h g PA)(o:Ok z wh fc b h g)(w:I6)(d:Wt w):Su 61 128 PA (xC z wh fc b) w where
 em:=YC func61 WR R
 ei:=YC func128 WR R
 go:=by
  refine Z0 (zk PA w) λw'⟨f,a⟩=>?_;refine⟨_,_,R,a,?_,qxq r o.lay o.b0 o.b1 w _ (λ_ h=>h.elim) w' f (d.tab.gr a) (d.cas.gr a)⟩;rintro k (rfl|rfl|rfl)
  .exact⟨(qB.1 f).1,Zj ⟨_,_,_,WW,f⟩⟩
  .exact⟨(d.tab.gr a).2,Zi WU⟩
  exact⟨(d.cas.gr a).2,Zi WU⟩
theorem TE(r:jE z wh fc b h g PA)(o:Ok z wh fc b h g)(w:I6)(G:Wt w):Su 65 155 PA (yo z wh fc b) w where
 em:=YC func65 WR R
 ei:=YC func155 WR R
 go:=by
  have d:=qjw o.good o.b0 o.b1;have l:z6 (λ_=>False):=λ_ h=>h.elim;refine(qzm PA w).mono ?_;rintro e w' ⟨E,F,Bf,rfl,p,q,j,x,m⟩;have i:=G.st.gr m;have B:=Ps.of r p;have A:=ak d.home E w _ l w' (qi q).1 B i;refine⟨_,_,R,m,?_,qkg A (YC func223 WR R) (YC func153 WR R) (z6.cells l) (λc fr h=>h) ?_ F Bf (uS z wh b) j x ?_⟩
  .rintro k ((rfl|rfl|rfl)|rfl|rfl)
   .exact⟨(qB.1 q).1,Zj ⟨_,_,_,WW,q⟩⟩
   .exact⟨(qB.1 p).1,Zj ⟨_,_,_,WW,p⟩⟩
   .exact⟨i.2,Zi WU⟩
   .exact⟨(qB.1 j).1,Zj ⟨_,_,_,WW,j⟩⟩
   exact⟨(qB.1 x).1,Zj ⟨_,_,_,WW,x⟩⟩
  .rintro k (rfl|rfl|rfl)
   .exact(qB.1 q).1
   .exact(qB.1 p).1
   exact i.2
  rintro⟨f,t,u⟩ v V C;obtain⟨y,H,n⟩:=d.kg _ v;have D:=iI d.home v;have:=mt r f t u D.1 D.2 (d.k1 f t u v) (d.k2 f t u v) y H n w V (C.same _ _ p (Zj (Zi R))) (i.fr C (λ_=>Zj (Zj R)));have e:uS z wh b (f,t,u)=!(vL (zE z b (f,t,u)) y (!wh)):=by rw[uS,n];rfl
  rw[e];exact this
structure LB(n:Int)(ga gm gi:Nat):Prop where
 is:(n=1/\ga=64/\gm=65/\gi=155)\/(n=2/\ga=60/\gm=61/\gi=128)
def LB.mk'{n:Int}(a:LB n j e d)(r:jE z wh fc b h g PA)(o:Ok z wh fc b h g)(w:I6)(f:Wt w):∃i:List Mv,i.Perm (xC z wh fc b)/\Su e d PA i w:=by
 obtain⟨_,_,rfl,rfl⟩|⟨_,_,rfl,rfl⟩:=a.is
 .exact⟨_,Nd o.good o.b0 o.b1,TE r o w f⟩
 exact⟨_,List.Perm.refl _,TD r o w f⟩
def LB.em{n:Int}{b:Nat}(a:LB n d b e):∀args w,(callFunc b args).run c_ w=.ok (.enter b args) w:=by
 obtain⟨_,_,rfl,rfl⟩|⟨_,_,rfl,rfl⟩:=a.is
 .exact YC func65 WR R
 exact YC func61 WR R
def LB.list{n:Int}(a:LB n j f e)(r:jE z wh fc b h g PA)(o:Ok z wh fc b h g)(w:I6)(d:Wt w):∃i:List Mv,jI i=jI (xC z wh fc b)/\iM f e PA i w:=by
 obtain⟨_,_,rfl,rfl⟩|⟨_,_,rfl,rfl⟩:=a.is
 .exact⟨_,(Fd o.good o.b0 o.b1).1,mkL r (qjw o.good o.b0 o.b1) w d.st⟩
 exact⟨_,R,mkS r o.lay o.b0 o.b1 w d.tab d.cas⟩
end
def Rz(a:List (Nat×I7)):c_.built 117 a=Instr.fill (λi=>(#[(0,72),(72,1),(73,1)]:Array (Nat×Nat))[i]?) zeroCells117 a:=WR
def Pd:zeroCells117.size=74:=WR
def BW:(c_.info? 117).map (·.size)=S 74:=WR
def fY(h:A.size=72)(d n:Int):(qA A d n).size=74:=by unfold qA;simp[h]
def H1(h:A.all (·.oneCell')=Zk)(d n:Int):(qA A d n).all (·.oneCell')=Zk:=by rw[qA,Wo,h];simp[Value.oneCell']
def MS(A:I0)(a:A.size=72)(d n:Int):c_.built 117 [(0,Zc A),(1,I L d),(2,I L n)]=S (qA A d n):=by
 rw[Rz];have b:=zo 0 A zeroCells117;have p1:=zo 72 #[d] (P_ 0 A zeroCells117);have p2:=zo 73 #[n] (P_ 72 #[d] (P_ 0 A zeroCells117));have z:=Pd;rw[xv _ _ 0 0 72 _ _ R (by simpa[Value.cells]using a) O,
  xv _ _ 1 72 1 _ _ R R Vl,xv _ _ 2 73 1 _ _ R R Vl]
 simp only[Instr.fill,Value.cells,Xh];apply YV;intro i;rw[p2.2 i WX,p1.2 i WX,b.2 i O];rw[qA,Y7,a];by_cases e:i<72
 .rw[qF WX,qF WX,qI ⟨O,O⟩,qI e];simp
 by_cases f:i<74
 .have:i=72\/i=73:=O;rcases this with rfl|rfl<;>simp
 rw[qF WX,qF WX,qF O,qF e,Z6 O,Z6 WX]
def NC{g:Int}(r:jE z wh fc b h g PA):jE z wh fc b 0 0 ((PA.setIfInBounds 70 (I L 0)).setIfInBounds 71 (I L 0)):=by
 have d:=r.size;have at':∀i,i≠70->i≠71->((PA.setIfInBounds 70 (I L 0)).setIfInBounds 71 (I L 0))[i]?=PA[i]?:=λi e f=>by rw[XO O,XO O]
 exact⟨by simp[d],λi a=>by rw[at' i O O];exact r.sq i a,by rw[at' 64 O O];exact r.wh,λi a=>by rw[at' _ O O];exact r.c i a,by rw[at' 69 O O];exact r.b,
  by rw[XO O,Array.getElem?_setIfInBounds_self_of_lt O],by rw[Array.getElem?_setIfInBounds_self_of_lt WX]⟩
def Qa{g:Int}(r:jE z wh fc b h g PA)(d n:Int)(w:I6):i_ c_ 45 #[Zc PA,I L d,I L n] w λe w'=>∃f,e=Zd (Zc (qA f d n))/\jE z wh fc b 0 0 f/\Gr w w':=by
 obtain⟨l,y⟩:=x6 w (Z PA 70) (Z zeroCells117 117);have k:Gr w ((w.alloc (Z PA 70)).alloc (Z zeroCells117 117)):=ZN.al;have i:=r;have D:=r.size;go_in;go_upto_region 1 with fail;generalize (w.alloc _).alloc _=a at l y k|-;have p:a.cell? ⟨w,70,N⟩=I L h:=by rw[qn l];exact i.h
 have q:a.cell? ⟨w,71,N⟩=I L g:=by rw[qn l];exact i.g
 have u:a.frozen? ⟨w,70,N⟩=Zl:=xr l;have x:a.frozen? ⟨w,71,N⟩=Zl:=xr l;have o:Gr w ((a.setCell ⟨w,70,N⟩ (I L 0)).setCell ⟨w,71,N⟩ (I L 0)):=Yr (Yr k Zy _) Zy _;have A:((a.setCell ⟨w,70,N⟩ (I L 0)).setCell ⟨w,71,N⟩ (I L 0)).heap[w.heap.size]?=Z ((PA.setIfInBounds 70 (I L 0)).setIfInBounds 71 (I L 0)) 70:=qv (qv l);have B:((a.setCell ⟨w,70,N⟩ (I L 0)).setCell ⟨w,71,N⟩ (I L 0)).heap[w.heap.size+1]?=Z zeroCells117 117:=by rw[Yg _ _ _ _ WU,Yg _ _ _ _ WU];exact y
 go_upto_region 2 with fail;generalize ((a.setCell ⟨w,70,N⟩ (I L 0)).setCell ⟨w,71,N⟩ (I L 0))=E at A B o|-;have j:=NC i;generalize (PA.setIfInBounds _ _).setIfInBounds _ _=f at A j;have m:=j.size;have C:=qx j;go_wp2_with(first|(refine ZD w f (by with_reducible exact A) m ?_)|(refine qqq R 117 #[(0,.tmp 9),(1,.tmp 10),(2,.tmp 11)] R (qA f d n) ?_ ?_;focus (first|(go_simp;exact MS f m d n)|(simp;exact MS f m d n)))|(refine ZU R 117 _ _ R (w+1) (qA f d n) R R 117 zeroCells117 (by with_reducible exact B) (by rw[fY m];exact BW) (by rw[fY m];exact Pd) (H1 C d n) ?_));exact ZS (v:=(qA f d n)) (Yp results45 _ _ (w+1) 117 _ (0,0) _ R (Zt B) underlying117 rfl (by rw[fY m];exact BW)) R ⟨f,R,j,o.setRow _ O _⟩
structure Qh(g n:Nat)(I:I6->Prop):Prop where
 st:∀A A',I A->Fr (λk _=>k=g) A A'->I A'
 ob:∀A,I A->∃S fr,A.heap[g]?=some (Z S 168 fr)
 rc:∀{z:I2}{wh:Bool}{fc:I5}{b h gg:Int}{QA:I0},Ok z wh fc b h gg->jE z wh fc b 0 0 QA->∀d:Nat,1<=d->d<=3->∀(way:Int)(W:I6),I W->i_ c_ 46 #[Zc #[F_ g n],Zc (qA QA (d:Int) way)] W λe w'=>(e=Zd (Ze #[.int Zh 0,Za Zl])\/e=Zd (Ze #[.int Zh (z_ d z wh fc b:Nat),Za Zk]))/\Gr W w'
 rm:∀{z:I2}{wh:Bool}{fc:I5}{b h gg:Int}{QA:I0},Ok z wh fc b h gg->jE z wh fc b 0 0 QA->∀d:Nat,1<=d->d<=3->∀(way:Int)(W:I6),I W->i_ c_ 48 #[Zc #[F_ g n],Zc (qA QA (d:Int) way),.int Zh (z_ d z wh fc b:Nat)] W λe w'=>(∃v,e=Zd v)/\zm g W w'/\I w'
def J1(g:Nat)(Q:I0)(w:I6):ZL 46 #[Zc #[F_ g 0],Zc Q] w (Ze #[I Zh 0,Za Zl]):=by unfold F_;unfold ZL;go_in;go_wp2;go_ret2;exact⟨R,ZN.al⟩
def H0(g:Nat)(Q:I0)(v:Int)(w:I6):i_ c_ 48 #[Zc #[F_ g 0],Zc Q,I Zh v] w λe w'=>(∃v,e=Zd v)/\Gr w w':=by unfold F_;go_in;go_wp2;go_end0;exact⟨⟨_,R⟩,ZN.al⟩
theorem TG(g:Nat):Qh g 0 (λA=>∃S fr,A.heap[g]?=some (Z S 168 fr)) where
 st:=λA q h f=>by obtain⟨S,fr,h⟩:=h;exact⟨S,fr,f.same _ _ h R⟩
 ob:=λA h=>h
 rc:=by
  intro z wh fc b h m l o r d n p a W j;exact(J1 g _ W).mono λe w' h=>⟨Zi h.1,h.2⟩
 rm:=by
  intro z wh fc b h m l o r d n p a W j;obtain⟨S,fr,i⟩:=j;exact(H0 g _ _ W).mono λe w' k=>⟨k.1,zm.of k.2,S,fr,ZE k.2 i⟩
def C_(ga gm:Nat)(wn:Int)(g n:Nat):I0:=#[.func (.func ga) #[] #[],.func (.func gm) #[] #[],I L wn,F_ g n]
def Jc:(c_.info? 78).map (·.size)=S 4:=WR
def Mb(g n:Nat)(I:I6->Prop)(ga gm:Nat)(wn:Int)(d:Nat):Prop:=
 ∀{z:I2}{wh:Bool}{fc:I5}{b h gg:Int}{PA:I0},Ok z wh fc b h gg->jE z wh fc b h gg PA->∀W:I6,I W->Wt W->i_ c_ 25 #[Zc (C_ ga gm wn g n),Zc PA,.int L d] W λe w'=>e=Zd (.int Zh (z_ d z wh fc b:Nat))/\zm g W w'/\I w'
def Sw(g n:Nat)(I:I6->Prop)(ga gm:Nat)(wn:Int)(d:Nat):Prop:=
 ∀{z:I2}{wh:Bool}{fc:I5}{b h gg:Int}{PA:I0},Ok z wh fc b h gg->jE z wh fc b h gg PA->∀W:I6,I W->Wt W->i_ c_ 47 #[Zc (C_ ga gm wn g n),Zc PA,.int L d] W λe w'=>e=Zd (.int Zh (z_ d z wh fc b:Nat))/\zm g W w'/\I w'
structure Mg(g n:Nat)(I:I6->Prop)(ga gm:Nat)(wn:Int)(PA:I0)(d:Nat)(b1 b2 b3:Nat)(W:I6):Prop where
 c:W.heap[b1]?=S (Z (C_ ga gm wn g n) 78)
 p:W.heap[b2]?=S (Z PA 70)
 d:W.heap[b3]?=S (Z #[.int L d] 3)
 wt:Wt W
 i:I W
def Mg.fx{u:I6->Prop}{wn:Int}{b:I6}(h:Mg g n u k l wn PA d e i j W)(a:LD g)(f:zm g W b)(m:e≠g)(o:i≠g)(q:j≠g)(r:u b):Mg g n u k l wn PA d e i j b:=⟨f.at h.c m,f.at h.p o,f.at h.d q,h.wt.fx a f,r⟩
def Mg.low{w:I6->Prop}{wn:Int}{b:Nat}{v:Nat}(h:Mg g n w j l wn PA d b e i W)(f:Fr (λk _=>k<v) W a)(m:b<v)(o:e<v)(q:i<v)(u:Wt a)(r:w a):Mg g n w j l wn PA d b e i a:=⟨f.same _ _ h.c m,f.same _ _ h.p o,f.same _ _ h.d q,u,r⟩
structure SC(g n:Nat)(I:I6->Prop)(ga gm:Nat)(wn:Int)(PA:I0)(d:Nat)(b1 b2 b3:Nat)(V:I6)(f t:Nat)(u:UInt8)(W:I6):Prop where
 cw:Mg g n I ga gm wn PA d b1 b2 b3 W
 m:W.heap[V.heap.size]?=S (Z (ZJ f t u) 87)
 fx:zm g V W
def M3{v:I6->Prop}{y:Nat}{wn:Int}(hd:d<=3)(mi:Qh g n v)(aw:LD g)(ih:Mb g n v x y wn d){M:Int}(o:Ok z wh fc b h M)(r:jE z wh fc b h M PA)(j A B:Nat) (h1:j≠g) (h2:A≠g) (h3:B≠g) (f t:Nat) (u:UInt8) (a3:(f,t,u)∈xC z wh fc b) (V:I6) (a1:Mg g n v x y wn PA (d+1) j A B V):i_ c_ 96 #[Zc (ZJ f t u),ZI j,ZI A,ZI B] V λe V'=>e=Zd (I Zh ((z_ d (zE z b (f,t,u)) (!wh) (kB fc f t 4) (vK z f t):Nat):Int))/\zm g V V'/\v V':=by
 have hz:=r.size;obtain⟨c0,c1,c2,c3⟩:=o.clk;obtain⟨hf,ht,hu,k1,k2⟩:=o.mv a3;have P:∀W,vJ W->i_ c_ 50 #[PA,Zc (ZJ f t u)] W λe w'=>∃Q,e=Zd (Zc Q)/\jE (zE z b (f,t,u)) (!wh) (kB fc f t 4) (vK z f t) (kK z f t h) (kj wh M) Q/\Gr W w':=λW hH=>iJ r f t u hf ht k1 k2 c0 c1 c2 c3 W hH;have J:∀Q,jE (zE z b (f,t,u)) (!wh) (kB fc f t 4) (vK z f t) (kK z f t h) (kj wh M) Q->∀W,v W->Wt W->i_ c_ 25 #[C_ x y wn g n,Q,d] W λe w'=>e=I Zh ((z_ d (zE z b (f,t,u)) (!wh) (kB fc f t 4) (vK z f t):Nat):Int)/\zm g W w'/\v w':=λQ a2 W F q=>ih (o.next a3) a2 W F q;obtain⟨S0,a0,H⟩:=mi.ob V a1.i;have T:g<V:=(qB.1 H).1;have l:∀W w,SC g n v x y wn PA (d+1) j A B V f t u W->zm g W w->v w->SC g n v x y wn PA (d+1) j A B V f t u w:=λW w k fx F=>⟨k.cw.fx aw fx h1 h2 h3 F,fx.at k.m O,zm.trans k.fx fx⟩;have a4:∀W w,v W->Gr W w->v w:=λW w F k=>mi.st W w F (p_ k);have D:SC g n v x y wn PA (d+1) j A B V f t u (V.alloc (Z (ZJ f t u) 87)).drew:=by have gr:Gr V (V.alloc (Z (ZJ f t u) 87)).drew:=ZN.drew;exact⟨a1.fx aw (zm.of gr) h1 h2 h3 (a4 _ _ a1.i gr),Z7 V _,zm.of gr⟩
 have ed:a_ L (((d+1:Nat):Int)-1)=(d:Int):=Vc;have a6:a_ L (d:Int)=d:=Vc;generalize z_ _ _ _ _ _=a7 at J|-;go_in;go_upto_region 1 with fail;refine ZT (S:=SC g n v x y wn PA (d+1) j A B V f t u) WR D (λa=>?_);refine wpAnyH_take (i:=0) (v:=Zc (C_ x y wn g n)) R WR WR WR (λ_ _ _ h=>h) (Zi ⟨Vb,λw' q=>(by
  have a5:w'.cell? j=S (.func (.func x) #[] #[]):=T7
  have e1:w'.cell? ⟨j,1,N⟩=S (.func (.func y) #[] #[]):=T7
  have e2:w'.cell? ⟨j,2,N⟩=I L wn:=T7
  have e3:w'.cell? ⟨j,3,N⟩=F_ g n:=T7
  go_simp;rfl)⟩) a ?_
 simp only[py];apply ty 1 PA R (zy hz Vb _ R A R (λ_ h=>qy h.cw.p)) a;refine wpAnyH_take (i:=2) (v:=Zc (ZJ f t u)) R WR WR WR (λ_ _ _ h=>h) (Zi ⟨Vb,λw' q=>(by
  obtain⟨a5,e1,e2⟩:=qm q.m;go_simp;try rfl)⟩) a ?_
 simp only[py];refine wpAnyH_take (i:=4) (v:=I L (d+1:Nat)) R WR WR WR (λ_ _ _ h=>h) (Zi ⟨Vb,λw' q=>(by
  have a5:=(qi q.cw.d).1;go_simp;try rfl)⟩) a ?_
 simp only[py];refine ZB 5 d R (λw' q=>by go_simp;first|done|exact ed|exact a6) a ?_;refine rd 3 λK hK=>?_;go_simp;refine(P _ a.cw.wt.hom).mono ?_;rintro e wa ⟨Q,rfl,a2,CQ⟩;refine hK.out _ _ (l _ _ a (zm.of CQ) (a4 _ _ a.cw.i CQ)) λa=>?_;try simp only[py]
 refine rd 6 λK hK=>?_;go_simp;refine Z0 (J Q a2 _ a.cw.i a.cw.wt) λwb⟨E,G⟩=>?_;refine hK.out _ _ (l _ _ a E G) λa=>?_;try simp only[py]
 refine rd 7 λK hK=>?_;go_simp;refine hK.out _ _ a λa=>?_;try simp only[py]
 refine ZZ WR ?_ _;go_wp2;go_ret;exact⟨R,a.fx,G⟩
def M2{a5:I6->Prop}{D M:Nat}{wn:Int}(mi:Qh g n a5)(aw:LD g)(wy:LB wn D l M)(d:Nat)(hd:d+1<=3)(ih:Mb g n a5 D l wn d):Sw g n a5 D l wn (d+1):=by
 intro z wh fc b h gg PA o r w a8 hw;have hz:=r.size;obtain⟨S0,a0,J⟩:=mi.ob w a8;have a2:g<w:=(qB.1 J).1;obtain⟨x1,q,x3,x4⟩:=jG w (Z (C_ D l wn g n) 78) (Z PA 70) (Z #[I L (d+1:Nat)] 3);have v:Gr w (((w.alloc (Z (C_ D l wn g n) 78)).alloc (Z PA 70)).alloc (Z #[I L (d+1:Nat)] 3)):=ZN.al.al;obtain⟨a7,hR⟩:∃a7,Y (a7=z_ (d+1) z wh fc b):=⟨_,X R⟩;rw[<-hR.a];go_in;go_upto_region 1 with fail;show n_ _ _ _ _ (((w.alloc (Z (C_ D l wn g n) 78)).alloc (Z PA 70)).alloc (Z #[I L (d+1:Nat)] 3));generalize ((w.alloc (Z (C_ D l wn g n) 78)).alloc (Z PA 70)).alloc _=p at x1 q x3 x4 v|-;have y:=mi.st _ _ a8 (p_ v);have F:=hw.gr v;have m:Mg g n a5 D l wn PA (d+1) w (w+1) (w+2) p:=⟨x1,q,x3,F,y⟩;obtain⟨K,a,a6⟩:=wy.mk' r o p F;have em:=a6.em;have Q:=a6.go;have c1:p.cell? ⟨w,1,N⟩=S (.func (.func l) #[] #[]):=by rw[qn x1];rfl
 have c3:=(qi x3).1;by_cases h0:d=0
 .subst h0;have b2:∀lb C W,Jp C W->It c_ M lb vr (λ_=>False) C K W->ZL 94 #[.func (.func M) #[] lb] W ((K.length:Nat)):=λlb C W h1 h2=>Hr h2 a6.ei (λk a9=>(h1 k a9).1) (by have:=a.length_eq;have:=bu z wh fc b;omega);have hl:a7=K.length:=by rw[hR.a,show 0+1=1 from R,JS,a.length_eq]
  have a3:K.length<=1000000:=by rw[a.length_eq];exact bu z wh fc b
  have ew:a_ Zh ((K.length:Nat):Int)=((K.length:Nat):Int):=Vh;have e1:(((0+1:Nat):Int)==1)=Zk:=WW;have P:∀W,Gr p W->zm g w W/\a5 W:=λW k=>⟨zm.of (o_ v k),mi.st _ _ y (p_ k)⟩;subst hl;go_wp2_with(first|(refine ZD (w+1) PA (by with_reducible exact q) hz ?_)|(go_at_fn l;apply Q.mono;rintro e w1 ⟨lb,C,rfl,G,j,B⟩)|(go_at_call 94;refine(b2 _ _ _ j B).mono ?_;rintro e w2 ⟨rfl,H⟩));go_ret;exact⟨R,P _ (o_ G H)⟩
 have e1:(((d+1:Nat):Int)==1)=Zl:=Vp;have b3:∀lb C W,Gr p W->Jp C W->It c_ M lb vr (λ_=>False) C K W->i_ c_ 95 #[.func (.func M) #[] lb,.func (.func 96) #[] #[ZI w.heap.size,ZI (w.heap.size+1),ZI (w.heap.size+2)]] W λe w'=>e=Zd (I Zh (a7:Nat))/\zm g w w'/\a5 w':=λlb C W E j B=>by
  have b0:=mi.st _ _ y (p_ E);have b1:=m.fx aw (zm.of E) O O O b0;obtain⟨S1,a1,T⟩:=mi.ob W b0;have a4:=ZR E;have:=Mz B a6.ei (λk a9=>(j k a9).1) g (j.not aw T) O w.heap.size (w.heap.size+1) (w.heap.size+2) (λx=>z_ d (zE z b x) (!wh) (kB fc x.1 x.2.1 4) (vK z x.1 x.2.1)) (Mg g n a5 D l wn PA (d+1) w.heap.size (w.heap.size+1) (w.heap.size+2))
   (λA A' hA f=>hA.low f O O O (hA.wt.low b1.wt f) (mi.st _ _ hA.i (f.mono λk _ _ a9=>O))) b1
   (λf t u hx V hV=>(M3 O mi aw ih o r w.heap.size (w.heap.size+1) (w.heap.size+2) O O O f t u (a.mem_iff.1 hx) V hV).mono λe V' k=>?_) (by rw[F7 a d];exact pb hd z wh fc b)
  .apply this.mono;rintro e w' ⟨rfl,k1,k2⟩;exact⟨by rw[F7 a d,hR.a],zm.trans (zm.of (o_ v E)) k1,k2.i⟩
  exact⟨k.1,k.2.1,hV.fx aw k.2.1 O O O k.2.2⟩
 go_wp2_with(first|(refine ZD (w+1) PA (by with_reducible exact q) hz ?_)|(go_at_fn l;apply Q.mono;rintro e w1 ⟨lb,C,rfl,G,j,B⟩)|(go_at_call 95;refine(b3 _ _ _ G j B).mono ?_;rintro e w2 ⟨rfl,H⟩));go_ret;exact⟨R,H⟩
structure Pw(g n:Nat)(I:I6->Prop)(ga gm:Nat)(wn:Int)(PA Q:I0)(b1 b2 b3:Nat)(w W:I6):Prop where
 c:W.heap[b1]?=S (Z (C_ ga gm wn g n) 78)
 p:W.heap[b2]?=S (Z PA 70)
 q:W.heap[b3]?=S (Z Q 117)
 wt:Wt W
 i:I W
 fx:zm g w W
def Pw.next{u:I6->Prop}{wn:Int}{Q:I0}{b:I6}(h:Pw g n u j k wn PA Q d e i w W)(a:LD g)(f:zm g W b)(l:d≠g)(m:e≠g)(o:i≠g)(r:u b):Pw g n u j k wn PA Q d e i w b:=⟨f.at h.c l,f.at h.p m,f.at h.q o,h.wt.fx a f,r,zm.trans h.fx f⟩
def Pw.c3{i:I6->Prop}{wn:Int}{Q:I0}{a b:Nat}(h:Pw g n i e f wn PA Q a b d w W):W.cell? ⟨a,3,N⟩=S (F_ g n):=by rw[qn h.c];rfl
def Pw.cs{i:I6->Prop}{b:Nat}{wn:Int}{Q:I0}{a:Nat}(h:Pw g n i b d wn PA Q a e f w W):W.cell? a=S (.func (.func b) #[] #[])/\W.cell? ⟨a,1,N⟩=S (.func (.func d) #[] #[])/\W.cell? ⟨a,2,N⟩=S (I L wn):=by refine⟨?_,?_,?_⟩<;>(rw[qn h.c];rfl)
def HZ{b0:I6->Prop}{u gi:Nat}{wn:Int}(mi:Qh g n b0)(aw:LD g)(wy:LB wn u x gi):∀d:Nat,d<=3->Mb g n b0 u x wn d:=by
 intro d;induction d with
 | zero=>
  intro _ z wh fc b h gg PA o r w l b1;have a0:∀W,Gr w W->zm g w W/\b0 W:=λW k=>⟨zm.of k,mi.st _ _ l (p_ k)⟩;show i_ c_ 25 #[C_ u x wn g n,PA,I L 0] w λe w'=>e=I Zh 1/\zm g w w'/\b0 w';go_in;go_wp2;go_ret;exact⟨R,a0 _ ZN.al⟩
 | succ d ih=>
  intro hd z wh fc b h gg PA o r w l b1;have G:Sw g n b0 u x wn (d+1):=M2 mi aw wy d hd (ih O);have hz:=r.size;obtain⟨S0,a8,a3⟩:=mi.ob w l;have a9:g<w:=(qB.1 a3).1;obtain⟨x1,x2⟩:=x6 w (Z (C_ u x wn g n) 78) (Z PA 70);have A:Gr w ((w.alloc (Z (C_ u x wn g n) 78)).alloc (Z PA 70)):=ZN.al;have a7:((w.alloc (Z (C_ u x wn g n) 78)).alloc (Z PA 70)).heap.size=w.heap.size+2:=WU
  have M:∀W,i_ c_ 45 #[PA,I L (d+1:Nat),wn] W λe w'=>∃a,e=Zd (qA a ((d+1:Nat):Int) wn)/\jE z wh fc b 0 0 a/\Gr W w':=λW=>Qa r _ _ W;have D:∀a,jE z wh fc b 0 0 a->∀W,b0 W->i_ c_ 46 #[Zc #[F_ g n],qA a ((d+1:Nat):Int) wn] W λe w'=>(e=Ze #[I Zh 0,Zl]\/e=Ze #[I Zh (z_ (d+1) z wh fc b:Nat),Zk])/\Gr W w':=λa C W l=>mi.rc o C (d+1) O hd wn W l;have E:∀a,jE z wh fc b 0 0 a->∀W,b0 W->i_ c_ 48 #[Zc #[F_ g n],qA a ((d+1:Nat):Int) wn,I Zh (z_ (d+1) z wh fc b:Nat)] W λe w'=>(∃v,e=Zd v)/\zm g W w'/\b0 w':=λa C W l=>mi.rm o C (d+1) O hd wn W l;have V:∀W,b0 W->Wt W->i_ c_ 47 #[C_ u x wn g n,PA,I L (d+1:Nat)] W λe w'=>e=I Zh (z_ (d+1) z wh fc b:Nat)/\zm g W w'/\b0 w':=λW l b1=>G o r W l b1;have b4:∀W W',b0 W->Gr W W'->b0 W':=λW W' l k=>mi.st W W' l (p_ k);have b7:∀a d n,jE z wh fc b 0 0 a->(qA a d n).size=74/\(qA a d n).all (·.oneCell')=Zk:=λa d n C=>⟨fY C.size d n,H1 (qx C) d n⟩;have e0:(((d+1:Nat):Int)==0)=Zl:=Vp
  generalize z_ _ _ _ _ _=c5 at D E V|-;go_in;go_upto_region 3 with fail;generalize (w.alloc _).alloc _=w0 at x1 x2 A a7|-;have a1:=b4 _ _ l A;have a4:=b1.gr A;have c2:w0.cell? ⟨w,2,N⟩=I L wn:=by rw[qn x1];rfl
  go_upto_region 4 with(first|(refine ZD (w+1) PA (by with_reducible exact x2) hz ?_)|(go_at_call 45;refine(M _).mono ?_;rintro e w1 ⟨a,rfl,C,T⟩;have y1:=Z7 w1 (Z zeroCells117 117);obtain⟨H,b6⟩:=b7 a ((d+1:Nat):Int) wn C)|(refine ZU R 117 _ _ R w1 (qA a ((d+1:Nat):Int) wn) R R 117 zeroCells117 UI (by rw[H];exact BW) (by rw[H];exact Pd) b6 ?_));have y:Pw g n b0 u x wn PA (qA a ((d+1:Nat):Int) wn) w.heap.size (w.heap.size+1) w1.heap.size w ((w1.alloc (Z zeroCells117 117)).setRow w1.heap.size (qA a ((d+1:Nat):Int) wn)):=by
   have hk:Gr w1 ((w1.alloc (Z zeroCells117 117)).setRow w1 (qA a ((d+1:Nat):Int) wn)):=ZN.setRow _ Zy _;have B:=o_ T hk;exact⟨(Zz B (xe x1)).trans x1,(Zz B (xe x2)).trans x2,Zt y1,a4.gr B,b4 _ _ a1 B,zm.of (o_ A B)⟩
  have K:w1≠g:=by have:=ZR T;omega
  generalize ((w1.alloc (Z zeroCells117 117)).setRow w1 (qA a ((d+1:Nat):Int) wn))=w2 at y|-;generalize w1.heap.size=b3 at y K|-;have P:w≠g:=O
  have b5:w+1≠g:=O
  have j:=D a C;have F:=E a C;generalize qA a ((d+1:Nat):Int) wn=Q at y j F H|-;have c3:=y.c3;have b2:=y.q
  go_upto_region 5 with(first|(refine ZV R 117 _ R b3 R 117 Q (0,0) _ (by with_reducible exact b2) underlying117 rfl (by rw[H];exact BW) ?_)|(go_at_call 46;refine(j _ y.i).mono ?_;rintro e w3 ⟨rfl|rfl,m⟩))
  .have f:=y.next aw (zm.of m) P b5 K (b4 _ _ y.i m);obtain⟨d0,d1,d2⟩:=f.cs;have d3:=f.c3;have dp:=f.p
   go_upto_region 8 with(first|(refine ZD (w+1) PA (by with_reducible exact dp) hz ?_)|(refine ZV R 78 _ R w R 78 (C_ u x wn g n) (0,0) _ (by with_reducible exact f.c) underlying78 rfl Jc ?_)|(go_at_call 47;refine Z0 (V _ f.i f.wt) λw4⟨c4,a2⟩=>?_));have J:=f.next aw c4 P b5 K a2;have c3:=J.c3;have b2:=J.q
   go_wp2_with(first|(refine ZV R 117 _ R b3 R 117 Q (0,0) _ (by with_reducible exact b2) underlying117 rfl (by rw[H];exact BW) ?_)|(go_at_call 48;refine(F _ J.i).mono ?_;rintro e w5 ⟨⟨v,rfl⟩,a5,a6⟩));go_ret;exact⟨R,zm.trans J.fx a5,a6⟩
  have f:=y.next aw (zm.of m) P b5 K (b4 _ _ y.i m);go_wp2;go_ret;exact⟨R,f.fx,f.i⟩
def He{g:Int}(o:Ok z wh fc b h g)(r:jE z wh fc b h g PA){t:Nat}(j:(f,t,u)∈xC z wh fc b)(w:I6):i_ c_ 106 #[Zc PA,Zc (ZJ f t u)] w λe w'=>∃Q,e=Zd (Zc Q)/\jE (zE z b (f,t,u)) (!wh) (kB fc f t 4) (vK z f t) (kK z f t h) (kj wh g) Q/\Gr w w':=by obtain⟨c0,c1,c2,c3⟩:=o.clk;obtain⟨a,d,i,_,_⟩:=o.mv j;have l:=(C8 o.good o.b0 o.b1 a d i).2 ((je o.good o.b0 o.b1 _).2 j);refine(qxg r f t a d u i c0 c1 c2 c3 w).mono ?_;rintro e w' ⟨Q,rfl,m,k⟩;exact⟨Q,R,bT o.good c1 c3 a d i l m,k⟩
def JD{g:Int}(o:Ok z wh fc b h g)(r:jE z wh fc b h g PA)(w:I6):i_ c_ 54 #[Zc PA] w λe w'=>∃v,e=Zd v/\np w.heap.size v (yY z wh fc b) w'/\Gr w w':=by obtain⟨c0,c1,c2,c3⟩:=o.clk;exact ai r o.good o.b0 o.b1 c0 c1 c2 c3 w
def eO(d:Nat)(z:I2)(wh:Bool)(fc:I5)(b:Int)(x:Mv):Nat:=z_ d (zE z b x) (!wh) (kB fc x.1 x.2.1 4) (vK z x.1 x.2.1)
structure Rp(w:I6)(PA:I0)(w1 W:I6):Prop where
 p:W.heap[w.heap.size]?=S (Z PA 70)
 gr:Gr w1 W
def Rp.next(h:Rp w PA w1 W)(g:Gr W a):Rp w PA w1 a:=⟨(Zz g (xe h.p)).trans h.p,o_ h.gr g⟩
def na:∀(d:Nat),d<=3->∀{z:Nat->UInt8}{wh:Bool}{fc:Nat->Bool}{b h g:Int}{PA:I0},Ok z wh fc b h g->jE z wh fc b h g PA->∀w:I6,ZL 163 #[Zc PA,I L d] w (I Zh (z_ d z wh fc b:Nat)):=by
 intro d;induction d with
 | zero=>
  intro _ z wh fc b h g PA o r w;show ZL 163 #[Zc PA,I L 0] w (I Zh 1);unfold ZL;go_in;go_wp2;go_ret;exact⟨R,ZN⟩
 | succ d ih=>
  intro hd z wh fc b h g PA o r w;have hz:=r.size;have x:Y (∀W:I6,i_ c_ 54 #[Zc PA] W λe w'=>∃v,e=Zd v/\np W.heap.size v (yY z wh fc b) w'/\Gr W w'):=X λW=>JD o r W;have F:=Kj o.good o.b0 o.b1
  have m:Y (∀f t u,(f,t,u)∈yY z wh fc b->∀W:I6,i_ c_ 106 #[Zc PA,Zc (ZJ f t u)] W λe w'=>∃Q,e=Zd (Zc Q)/\(∀V:I6,ZL 163 #[Zc Q,I L d] V (I Zh (eO d z wh fc b (f,t,u):Nat)))/\Gr W w'):=X λf t u hx W=>by
   have a5:=F.mem_iff.1 hx;refine(He o r a5 W).mono ?_;rintro e w' ⟨Q,rfl,hq,hg⟩;exact⟨Q,R,λV=>ih O (o.next a5) hq V,hg⟩
  have a1:(yY z wh fc b).length<=20480:=iW _ _ _ _ 64;have a:Y (((yY z wh fc b).map (eO d z wh fc b)).sum=z_ (d+1) z wh fc b):=X (F7 F d);have q:Y (((yY z wh fc b).map (eO d z wh fc b)).sum<=1000000000000000000):=X (by rw[a.a];exact pb hd z wh fc b)
  have j:Y (d=0->((yY z wh fc b).length:Nat)=z_ (d+1) z wh fc b):=X λe=>by
   subst e;rw[show 0+1=1 from R,JS,F.length_eq]
  generalize z_ (d+1) z wh fc b=T at a j|-;generalize eO d z wh fc b=b5 at m a q;generalize yY z wh fc b=ys at x m a1 a q j;have y1:=Z7 w (Z PA 70);have M:Gr w (w.alloc (Z PA 70)):=ZN;obtain⟨D,hD⟩:∃D:Int,Y (D=((d+1:Nat):Int)):=⟨_,X R⟩;rw[<-hD.a];have e0:(D==0)=Zl:=by have:=hD.a;rw[qM];omega
  unfold ZL;go_in;go_upto_region 3 with fail;generalize w.alloc (Z PA 70)=w0 at y1 M|-;have d1:=X (qy y1);have d0:=xe y1
  go_upto_region 4 with(first|(go_at_call 54;refine(x.a _).mono ?_;rintro e w1 ⟨v,rfl,hv,c4⟩;obtain⟨pp,cap,rfl,b3,c6⟩:=bt hv)|(refine ql Vb _ R w.heap.size R hz d1.a ?_));have a0:=X (o_ M c4);have a2:=X ((Zz c4 d0).trans y1);have d2:=X c6;by_cases h1:d=0
  .subst h1;have hT:=j.a R;subst hT;have e1:(D==1)=Zk:=(by have:=hD.a;rw[YF];omega);have ew:a_ Zh (ys.length:Int)=(ys.length:Int):=Vh
   go_wp2;go_ret;exact⟨R,a0.a⟩
  have e1:(D==1)=Zl:=by have:=hD.a;rw[qM];omega
  have ed:a_ L (D-1)=(d:Int):=by have:=hD.a;rw[YO];omega
  have a6:a_ L (d:Int)=d:=Vc
  go_wp2;go_loopg [6,7] ys.length (λg n i wr=>∃k:Nat,k+g=ys.length/\i=I L k/\n=I Zh ((((ys.take k).map b5).sum:Nat):Int)/\Gr w1 wr)
  case atStart=>exact⟨0,O,R,R,ZO⟩
  case round=>
   obtain⟨k,k1,rfl,rfl,E⟩:=hrel;by_cases b6:k<ys.length
   .obtain⟨gg,rfl,x0,x1,x2⟩:=d2.a k b6;have A:gg<w1.heap.size:=Zx x0;have z0:=x0;have z1:=x1;have z2:=x2;have a3:=X ((Zz E (xe a2.a)).trans a2.a);have b4:=X (qy a3.a);have B:ys[k]∈ys:=Xs _;have b7:ys.take (k+1)=ys.take k++[ys[k]]:=Yd b6;have J:ys.take k++[ys[k]]<+:ys:=(by rw[<-b7];exact List.take_prefix _ _);have G:=LQ (f:=b5) J;have H:Y (((ys.take (k+1)).map b5).sum=((ys.take k).map b5).sum+b5 ys[k]):=X (by rw[b7,Ys,List.sum_append,YM,Wi,List.sum_cons,List.sum_nil,Nat.add_zero]);have a4:=q.a;generalize ys[k]=y at z0 z1 z2 B G H;obtain⟨f,t,u⟩:=y;have c5:=X (m.a f t u B);generalize ((ys.take k).map b5).sum=sv at G H|-;generalize b5 (f,t,u)=xv at G H c5;have b2:a_ Zh ((sv:Int)+xv)=((sv+xv:Nat):Int):=Vh
    have d3:=X E;have k0:0<=(k:Int):=O
    have kl:(k:Int)<(ys.length:Int):=O
    go_upto_region 10 with fail;have P:Rp w PA w1 wr.drew:=⟨a3.a,d3.a.drew⟩;refine ZT (S:=Rp w PA w1) WR P (λl=>?_);refine tq 0 (I Zh sv) l ?_;refine ty 1 (Zc PA) R (zy hz Vb _ R w.heap.size R (λ_ h=>qy h.p)) l ?_;refine tq 2 (Zq (S gg) ys.length cap) l ?_;refine tq 3 (I L k) l ?_;refine tq 4 (.pointer (S ⟨gg,k*3,N⟩)) l ?_
    refine wpAnyH_take (i:=5) (v:=Zc (ZJ f t u)) R WR WR WR (λ_ _ _ h=>h) (Zi ⟨Vb,λw' CQ=>(by
     have e0:=(ZW CQ.gr A).trans z0;have e1:=(ZW CQ.gr A).trans z1;have e2:=(ZW CQ.gr A).trans z2;go_simp;try rfl)⟩) l ?_
    simp only[py];refine ZB 7 (I L D) R (λw' CQ=>by go_simp;try rfl) l ?_;refine ZB 8 (I L d) R (λw' CQ=>by go_simp;first|done|exact ed|exact a6) l ?_;refine rd 6 λK hK=>?_;go_simp;refine(c5.a _).mono ?_;rintro e w2 ⟨Q,rfl,hq,a7⟩;refine hK.out _ _ (l.next a7) λl=>?_;try simp only[py]
    refine rd 9 λK hK=>?_;go_simp;refine Z0 (hq _) λw3 a8=>?_;refine hK.out _ _ (l.next a8) λl=>?_;try simp only[py]
    refine ZB 10 (I Zh (sv+xv:Nat)) R (λw' CQ=>by go_simp;try exact b2) l ?_;refine rd 11 λK hK=>?_;go_simp;refine hK.out _ _ l λl=>?_;try simp only[py]
    refine ZZ WR ?_ _;have a9:=X l.gr;go_wp2;go_roundg (gk-1)
    .exact⟨k+1,O,Vg,by rw[H.a,Int.natCast_add],a9.a⟩
    omega
   have ek:k=ys.length:=O
   subst ek;have hT:((ys.take ys.length).map b5).sum=T:=(by rw[XA];exact a.a);rw[hT];go_wp2;go_ret;exact⟨R,o_ a0.a E⟩
