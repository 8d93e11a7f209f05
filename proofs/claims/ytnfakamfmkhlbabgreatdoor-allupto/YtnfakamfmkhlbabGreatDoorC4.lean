import Derived.Test.YtnfakamfmkhlbabGreatDoorC3
set_option maxRecDepth 100000
set_option maxHeartbeats 4000000
set_option linter.all false
open Go.Value renaming int->I,bool->Za,string->Zb,agg->Zc,tuple->Ze,slice->Zq
open Go.IntKind renaming i64->L,u8->Zg,u64->Zh,wrap->a_
open Go.Obj renaming cells->Z
open Go.Ending renaming returned->Zd
open Or renaming inl->Zi,inr->Zj
open Option renaming some->S,none->N
open Bool renaming true->Zk,false->Zl
open Decidable renaming decide->Zm
open Go.RowKit renaming Hid->Y
open Go renaming World->I6,Value->I7,Calls->i_,undef->m_
open Go.Proofs.Tryz renaming zeroCells70->b_,prog->c_
open Go.Lib renaming decDigits->d_,indexByte->e_,join->f_,cut->g_
open List renaming range->h_
open UInt8 renaming ofNat->j_
open Go.Op renaming stringOp->k_
open Go.Instr renaming index->l_
open Go.Code renaming wp->n_
namespace Go.Proofs.YtnfakamfmkhlbabGreatDoor.C
open Go.ChangeShapes Go.WideShapes Go.ChangeAt Go.RowKit Go.Shelf Tryz
attribute [local go_sem] qd qe Oper.semAt_some
variable {z:I2}{wh:Bool}{b h m:Int}{PA A M:I0}{fc:I5}{w W a w' w1 V:I6}{f n i k g base d e l j x B Bp:Nat}{v:I7}{u:UInt8}{Q:Nat->Obj->Prop}{rs:I3}{y:I1}
def wV(p:pH)(n:Int):List Mv:=if n=1 then yo (xM p) p.white p.castle p.behind else xC (xM p) p.white p.castle p.behind
def yc(s:I4)(n:Int)(base:Nat)(e:Ending)(w':I6):Prop:=
 (xG s=N/\e=Zd (Ze #[mU,I L 1])) ∨
 (∃p,xG s=S p/\xP p=Zl/\e=Zd (Ze #[mU,I L 2])) ∨
 (∃p,xG s=S p/\xP p=Zk/\¬(n=1\/n=2)/\e=Zd (Ze #[mU,I L 3])) ∨
 (∃p v,xG s=S p/\xP p=Zk/\(n=1\/n=2)/\e=Zd (Ze #[v,I L 0])/\yt base v (ud (jI (wV p n))) w')
def Ab{f:I3}(h:yt base v f w)(i:d<=base):yt d v f w:=by
 refine⟨h.1,?_⟩;obtain⟨a,b⟩|⟨g,cap,cur,e,j,r⟩:=h.2
 .exact Zi ⟨a,b⟩
 exact Zj ⟨g,cap,cur,e,q7 i j,r⟩
def lR{p:pH}(h:xP p=Zk):xO (xM p)=Zk:=by unfold xP k6 at h;simp only[qH]at h;exact h.1
def nU{s:I4}{n k:Int}(h:iP s k):yc s n base (Zd (Ze #[mU,k])) w':=by
 obtain⟨rfl,h⟩|⟨rfl,p,a,b⟩:=h
 .exact Zi ⟨h,R⟩
 exact Zj (Zi ⟨p,a,b,R⟩)
def qkd(s:I4)(a2:s.size<4294967281)(n:Int)(Q:∀p,xG s=S p->xP p=Zk->lg (xM p) p.white p.castle p.behind)(m:Int)(w:I6)(E:Ct m w)(P:uV w):i_ c_ 15 #[s,n] w λe w'=>yc s n w e w'/\Gr w w':=by
 have a1:=qzg s a2 m w E.mx E.ml E.tab E.homes;obtain⟨p,a0,a,b⟩|⟨k,hk,D,b⟩:=xy s
 .have K:ZL 34 #[s] w (Ze #[jV p,I L 0]):=a1.mono λe w' h=>⟨b e h.1,h.2⟩;have d:=jo a0;have J:=d.size;have ho:=qx d;have a3:=qjv a0;have a6:∀W:I6,Gr w W->∀q,(n=1/\q=mc\/n=2/\q=jP)->i_ c_ 36 #[q,jV p] W λe w'=>∃v,e=Zd v/\yt W v (ud (jI (wV p n))) w'/\Gr W w':=by
   rintro W T q (⟨rfl,rfl⟩|⟨rfl,rfl⟩)
   .exact qxz J (mkL d (Q p a0 a) W (P.gr T).st)
   exact qxz J (mkS d (lR a) a3.1 a3.2 W (E.gr T).tab (P.gr T).cas)
  have j:∀base v w',(n=1\/n=2)->yt base v (ud (jI (wV p n))) w'->yc s n base (Zd (Ze #[v,I L 0])) w':=λbase v w' o a4=>Zj (Zj (Zj ⟨p,v,a0,a,o,R,a4⟩));have F:∀base w',¬(n=1\/n=2)->yc s n base (Zd (Ze #[mU,I L 3])) w':=λbase w' o=>Zj (Zj (Zi ⟨p,a0,a,o,R⟩));generalize jV p=A at K J ho a6;go_in;go_upto_region 2 with(first|(go_at_call 34;refine Z0 K λi y=>?_)|(refine ZC i A Zv J ho ?_));generalize C:(i.alloc (Z b_ 70)).setRow i A=w4;have B:Tb w i A w4:=⟨o_ y (by rw[<-C];exact ZN.setRow _ Zy _),by rw[<-C];exact Zt (Z7 i _),by rw[<-C,Xa,Z3];omega⟩;generalize i.heap.size=b1 at B|-;go_upto_region 4 with fail;by_cases o:n=1\/n=2
  .obtain⟨q,hq,r,a7⟩:∃q,(n=1/\q=mc\/n=2/\q=jP)/\FV n=Ze #[q,Zk]/\(∃u x,q=zG u x):=by
    obtain rfl|rfl:=o
    .exact⟨mc,Zi ⟨R,R⟩,R,_,_,R⟩
    exact⟨jP,Zj ⟨R,R⟩,R,_,_,R⟩
   obtain⟨u,x,rfl⟩:=a7;have g:∀W,ZL 35 #[n] W (Ze #[zG u x,Zk]):=λW=>(by rw[<-r];exact sJ n W);have G:=o;have a8:=hq;go_upto_region 5 with(first|(go_at_call 35;refine Z0 (g _) λf z=>?_)|(refine ZU R 74 _ _ R f (zG u x) R R 74 ku Zv yU R (qxi _ _) ?_));have M:Gr f ((f.alloc (Z #[.nilFunc,.nilFunc] 74)).setRow f (zG u x)):=ZN.setRow _ Zy _;have H:((f.alloc (Z #[.nilFunc,.nilFunc] 74)).setRow f (zG u x)).heap[f.heap.size]?=Z (zG u x) 74:=Zt (Z7 f _);have l:=B.next (o_ z M);generalize (f.alloc _).setRow _ _=w6 at H l|-;generalize f.heap.size=b2 at H|-;go_wp2_with(first|(refine ZD b1 A (Tb.p (w:=w) l) J ?_)|(refine ZV R 74 _ R b2 R 74 (zG u x) (0,0) _ H underlying74 rfl yU ?_)|(go_at_call 36;refine(a6 _ l.gr _ a8).mono ?_;rintro e w7 ⟨v,rfl,a4,V⟩));go_ret2;exact⟨j _ _ _ G (Ab a4 (ZR l.gr)),o_ l.gr V⟩
  have r:FV n=Ze #[ku,Zl]:=by rw[FV,qF (λh=>o (Zi h)),qF (λh=>o (Zj h))]
  have g:∀W,ZL 35 #[n] W (Ze #[ku,Zl]):=λW=>by rw[<-r];exact sJ n W
  have G:=o;go_wp2_with(first|(go_at_call 35;refine Z0 (g _) λf z=>?_)|(refine ZU R 74 _ _ R f ku R R 74 ku Zv yU R gF ?_));go_ret2;exact⟨F _ _ G,o_ (o_ B.gr z) (ZN.setRow _ Zy _)⟩
 have K:ZL 34 #[s] w (Ze #[b_,k]):=a1.mono λe w' h=>⟨b e h.1,h.2⟩;have j:∀base w',yc s n base (Zd (Ze #[mU,k])) w':=λbase w'=>nU D;go_in;go_upto_region 2 with(first|(go_at_call 34;refine Z0 K λi y=>?_)|(refine ZC i b_ Zv xF xH ?_));have a5:Gr w ((i.alloc (Z b_ 70)).setRow i b_):=o_ y (ZN.setRow _ Zy _);generalize (i.alloc _).setRow _ _=w4 at a5|-;go_wp2;go_ret2;exact⟨j _ _,a5⟩
def qjq{B:I0}(q:xO z=Zk)(A:B.size=64)(y:∀i,i<64->B[i]?=I Zg (z i).toNat)(d:Int)(v:0<=d)(x:d<=63)(k:Bool)(w:I6):ZL 60 #[B,d,k] w (xV (xD z 64) d k):=by
 have a:=db q A y;have b:(w.alloc (Z B 67)).heap[w.heap.size]?=Z B 67:=Z7 w _;have o:Gr w (w.alloc (Z B 67)):=ZN;have f:∀M W,jS (xD z 64) M->ZL 127 #[M,d,k] W (xV (xD z 64) d k):=λM W h=>qq0 _ M h d v x k W;generalize xV _ _ _=F at f|-;generalize xD _ _=m at a f;unfold ZL;go_in;go_upto_region 2 with(first|(refine ZV R 67 _ R w R 67 B (0,0) _ b t_ rfl (by rw[A];exact x7) ?_)|(go_at_call 126;refine(a _).mono ?_;rintro e j ⟨M,rfl,l,p⟩)|(refine ZU R 197 _ _ R j M R R 197 _ Zv l.info l.1.symm l.ones ?_));generalize g:(j.alloc (Z #[I Zh 0,I Zh 0,I Zh 0,I Zh 0,I Zh 0,I Zh 0,I Zh 0,I Zh 0,I Zh 0,I Zh 0,I Zh 0,I Zh 0] 197)).setRow j M=C;have n:C.heap[j.heap.size]?=Z M 197:=by rw[<-g];exact Zt (Z7 j _)
 have r:Gr w C:=o_ (o_ o p) (by rw[<-g];exact ZN.setRow _ Zy _);generalize j.heap.size=D at n|-;go_wp2_with(first|(refine ZV R 197 _ R D R 197 M (0,0) _ n underlying197 rfl l.info ?_)|(go_at_call 127;refine Z0 (f M _ l) λE u=>?_));go_ret;exact⟨R,o_ r u⟩
def yB(c:UInt8):Bool:=c==46||c==75||c==107
def vG(c:UInt8):Bool:=c==78||c==110||c==66||c==98
def ws(z:I2)(k:Nat):Nat:=((h_ k).filter λi=>vG (z i)).length
def uw(z:I2):Bool:=(h_ 64).all (λi=>yB (z i)||vG (z i))&&Zm (ws z 64<=1)
def sU(z:I2)(k:Nat):ws z (k+1)=ws z k+if vG (z k)then 1 else 0:=by unfold ws;rw[YI,YJ,qZ];cases h:vG (z k)<;>simp[h]
def EH(z:I2)(k:Nat):ws z k<=k:=by have:=Y8 (λi=>vG (z i)) (h_ k);unfold ws;exact OY
def tT(a:k<64)(h:(yB (z k)||vG (z k))=Zl):uw z=Zl:=by grind[uw,yB,vG,qK]
def tU(h:∀j,j<64->(yB (z j)||vG (z j))=Zk):uw z=Zm (((ws z 64:Nat):Int)<=1):=by grind[uw,yB,vG,qW,qK]
def DO(c:UInt8):Prop:=(yB c=Zk/\vG c=Zl/\((c.toNat:Int)=46\/(c.toNat:Int)=75\/(c.toNat:Int)=107))\/(yB c=Zl/\vG c=Zk/\((c.toNat:Int)=78\/(c.toNat:Int)=110\/(c.toNat:Int)=66\/(c.toNat:Int)=98))\/((yB c||vG c)=Zl/\∀n∈[(46:Int),75,107,78,110,66,98],((c.toNat:Int)==n)=Zl)
instance (c:UInt8):Decidable (DO c):=by unfold DO;infer_instance
structure Ck(w:I6)(ga gm:Nat)(PA:I0)(W:I6):Prop where
 q:W.heap[w.heap.size]?=S (Z (zG ga gm) 74)
 pa:W.heap[w.heap.size+1]?=S (Z PA 70)
 gr:Gr w W
def Ck.next{b:Nat}(h:Ck w b d PA W)(g:Gr W a):Ck w b d PA a:=⟨ZE g h.q,ZE g h.pa,o_ h.gr g⟩
def ta(w:I6)(a b:Nat)(PA:I0):Ck w a b PA ((w.alloc (Z (zG a b) 74)).alloc (Z PA 70)):=by obtain⟨d,e⟩:=x6 w (Z (zG a b) 74) (Z PA 70);exact⟨d,e,ZN.al⟩
def kz(z:I2)(wh:Bool):Bool:=xV (xD z 64) (xR z wh) (!wh)
def fp{g:Int}(r:jE z wh fc b h g PA)(j:xO z=Zk)(u:0<=xR z wh)(v:xR z wh<=63)(w:I6):ZL 124 #[jP,PA] w (kz z wh):=by obtain⟨p,m⟩:=FN r;have x:=r.size;have l:=r.wh;have f:=λW=>gP z _ m wh W;have d:=λW=>qjq j p m (xR z wh) u v (!wh) W;unfold kz;generalize xV _ _ _=e at d|-;generalize xR _ _=B at f d;have i:=ta w 60 61 PA;simp only[jP,zG];unfold ZL;go_in;go_upto_region 1 with fail;show n_ _ _ _ _ ((w.alloc (Z (zG 60 61) 74)).alloc (Z PA 70));generalize (w.alloc _).alloc _=D at i|-;refine ZT (S:=Ck w 60 61 PA) WR (i.next ZO.drew) (λa=>?_);apply tq 0 _ a;refine ZB 1 (.func (.func 60) #[] #[]) R (λw' k=>by have A:w'.cell? w=S (.func (.func 60) #[] #[]):=(by rw[Zs k.q];rfl);go_simp) a ?_;apply tq 2 _ a;apply ty 3 _ R (DB x Vb _ R (w+1) R (λ_ h=>qy h.pa)) a;apply tq 4 _ a;apply ty 5 _ R (DB x Vb _ R (w+1) R (λ_ h=>qy h.pa)) a;apply tq 6 _ a;apply ZB 7 _ R (λw' k=>Uk) a;apply tq 9 _ a;apply ZB 10 _ R (λw' k=>Uk) a;apply tq 11 _ a;refine rd 8 λK hK=>?_;go_simp;refine Z0 (f _) λE n=>?_;refine hK.out _ _ (a.next n) λa=>?_;refine rd 12 λK hK=>?_;go_simp;refine Z0 (d _) λF o=>?_;refine hK.out _ _ (a.next o) λa=>?_;refine rd 13 λK hK=>?_;go_simp;refine hK.out _ _ a λa=>?_;exact OT
def yO(z:I2)(c:Bool)(n:Int):Int:=if n=0 then(if c then 1 else 2)else if uw z then 3 else 0
def xB(c:Bool)(n o:Int):I0:=#[Za c,I L n,I L o]
def vI:(c_.info? 186).map (·.size)=S 3:=WR
def xw(c:Bool)(n o:Int):(xB c n o).all (·.oneCell')=Zk:=by simp[xB,Value.oneCell']
def bx(z:I2)(wh:Bool)(fc:I5)(b:Int):I0:=xB (kz z wh) ((xC z wh fc b).length:Int) (yO z (kz z wh) ((xC z wh fc b).length:Int))
def rz{s:I4}{p:pH}(e:xG s=p)(d:xP p=Zk):jI (wV p 1)=jI (wV p 2)/\(jI (wV p 2)).Pairwise λx y=>yJ x<yJ y:=by obtain⟨h,a,b⟩:=Fp e d;exact Fd h a b
def BH{s:I4}{p:pH}(e:xG s=p)(d:xP p=Zk):lg (xM p) p.white p.castle p.behind:=by obtain⟨h,a,b⟩:=Fp e d;exact qjw h a b
def l7{a:I3}(h:yt base v a w):∃p cap,v=Zq p a.length cap/\a.length<=cap/\∀i (b:i<a.length),∃g,p=S ⟨g,0,N⟩/\w.cell? ⟨g,i,N⟩=a[i]:=by
 obtain⟨rfl,d⟩|⟨g,cap,cur,rfl,k,j,d,l,f,e⟩:=h.2
 .have:a=[]:=VG;subst this;exact⟨N,0,R,Zy,λi b=>w_ b (Yy i)⟩
 refine⟨_,_,R,d,λi b=>⟨g,R,?_⟩⟩;simp only[World.cell?];rw[j];show cur[i]?=_;rw[<-qO,<-Xi (show i<a.length*1 from O),e,YN,Yf b];rfl
def DQ(T:I3)(k:Int)(e:Ending)(w':I6):Prop:=∃p cap,e=Zd (Ze #[Zq p T.length cap,I L k])/\T.length<=cap/\∀i (hi:i<T.length),∃g,p=S ⟨g,0,N⟩/\w'.cell? ⟨g,i,N⟩=S (Zb T[i])
def G8{T:I3}{p:Option Addr}{b:I6}(h:∀i (a:i<T.length),∃g,p=S ⟨g,0,N⟩/\W.cell? ⟨g,i,N⟩=T[i])(f:Gr W b):∀i (a:i<T.length),∃g,p=S ⟨g,0,N⟩/\b.cell? ⟨g,i,N⟩=T[i]:=λi a=>by
 obtain⟨g,e,d⟩:=h i a;exact⟨g,e,(ZW f (p:=⟨g,i,N⟩) (Ye W _ d)).trans d⟩
def El(p:Option Addr)(T:I3)(W:I6):Prop:=∀i (hi:i<T.length),∃g,p=S ⟨g,0,N⟩/\W.cell? ⟨g,i,N⟩=S (Zb T[i])
def El.gr{T:I3}{p:Option Addr}(h:El p T W)(b:Gr W a):El p T a:=G8 h b
def qka(T:I3)(i:T.length<=1000000)(p1 p2:Option Addr)(c1 c2:Nat)(w:I6)(f:El p1 T w)(h:El p2 T w):ZL 27 #[Zq p1 T.length c1,Zq p2 T.length c2] w Zk:=by exact WA
def dh:List Mv:=[(4,12,0),(4,13,0),(4,5,0),(4,3,0),(4,11,0)]
def yS:List Mv:=[(4,3,0),(4,11,0),(4,12,0),(4,5,0),(4,13,0)]
def mj:(xG yT).map (λp=>yo (xM p) p.white p.castle p.behind)=dh:=WS
def fH:yS.Pairwise λx y=>yJ x<yJ y:=WS
def qvr:(dh.all λx=>yS.contains x)=Zk/\(yS.all λx=>dh.contains x)=Zk:=WS
def kW:I3:=[⟨#[101,49,100,49]⟩,⟨#[101,49,100,50]⟩,⟨#[101,49,101,50]⟩,⟨#[101,49,102,49]⟩,⟨#[101,49,102,50]⟩]
def mi:ud yS=kW:=WS
def sh:∃p,xG yT=S p/\xP p=Zk/\jI (wV p 1)=yS/\jI (wV p 2)=yS:=by
 obtain⟨p,b,e⟩:=fJ;have d:=mj;rw[b]at d;have d:yo (xM p) p.white p.castle p.behind=dh:=VG;obtain⟨l,f,g⟩:=Fp b e;have n:=qjw l f g;obtain⟨k,m⟩:=rz b e;have j:jI (wV p 1)=yS:=by
  refine zu (λa c h=>List.lt_asymm h) _ _ (by rw[k];exact m) fH λx=>?_;rw[(xq _).mem_iff];show x∈yo (xM p) p.white p.castle p.behind↔_;rw[d];constructor
  .intro i;have:=qW.1 qvr.1 x i;exact OY
  intro i;have:=qW.1 qvr.2 x i;exact OY
 exact⟨p,b,e,j,by rw[<-k];exact j⟩
def fK(n:Int)(i:n=1\/n=2)(m:Int)(w:I6)(r:Ct m w)(x:uV w):i_ c_ 15 #[yT,n] w λe w'=>DQ kW 0 e w'/\Gr w w':=by
 obtain⟨p,f,k,l,o⟩:=sh;refine(qkd yT WS n (λq a b=>BH a b) m w r x).mono λe w' h=>⟨?_,h.2⟩;have u:jI (wV p n)=yS:=by obtain rfl|rfl:=i;exact l;exact o
 obtain⟨a,_⟩|⟨q,a,b,_⟩|⟨q,_,_,a,_⟩|⟨q,v,a,_,_,rfl,j⟩:=h.1
 .rw[f]at a;cases a
 .rw[f]at a;rw[<-qP a,k]at b;cases b
 .exact w_ i a
 rw[f]at a;rw[<-qP a,u,mi]at j;obtain⟨y,cap,rfl,d,g⟩:=l7 j;exact⟨y,cap,R,d,g⟩
structure Pm(w:I6)(PA:I0)(f t:Nat)(u:UInt8)(W:I6):Prop where
 pa:W.heap[w.heap.size]?=S (Z PA 70)
 mv:W.heap[w.heap.size+1]?=S (Z (ZJ f t u) 125)
 lt:w.heap.size+1<W.heap.size
 gr:Gr w W
def Pm.next{t:Nat}(h:Pm w PA f t u W)(g:Gr W a):Pm w PA f t u a:=⟨(Zz g (Nat.lt_of_succ_lt h.lt)).trans h.pa,(Zz g h.lt).trans h.mv,qN h.lt (ZR g),o_ h.gr g⟩
def Pm.start(w:I6)(PA:I0)(f t:Nat)(u:UInt8):Pm w PA f t u ((w.alloc (Z PA 70)).alloc (Z (ZJ f t u) 125)):=by obtain⟨a,b⟩:=eQ (w:=w) (PA:=PA) (o:=(ZJ f t u)) (ty:=70) (ty2:=125) ZO;exact⟨a,b,UA,ZN.al⟩
def Pm.cells{t:Nat}(h:Pm w PA f t u W):W.cell? ⟨w+1,0,N⟩=I L f/\W.cell? ⟨w+1,1,N⟩=I L t/\W.cell? ⟨w+1,2,N⟩=S (I Zg u.toNat):=⟨UK,UK,UK⟩
def Pm.at{t:Nat}(h:Pm w PA f t u W)(a:PA[k]?=v):W.cell? ⟨w,k,N⟩=v:=by rw[qn h.pa];exact a
def qvy(wh:Bool)(fc:I5)(f t:Nat)(u:UInt8):zK wh fc f t u=-1\/∃i:Nat,i<4/\zK wh fc f t u=(i:Int):=by
 have a:zK wh fc f t u=if jZ wh fc f t u 0 then 0 else if jZ wh fc f t u 1 then 1 else if jZ wh fc f t u 2 then 2 else if jZ wh fc f t u 3 then 3 else -1:=R;rw[a];split
 .exact Zj ⟨0,O,R⟩
 split
 .exact Zj ⟨1,O,R⟩
 split
 .exact Zj ⟨2,O,R⟩
 split
 .exact Zj ⟨3,O,R⟩
 exact Zi R
def m4{g:Int}(r:jE z wh fc b h g PA)(f t:Nat)(hf:f<64)(ht:t<64)(u:UInt8)(w:I6):ZL 191 #[PA,ZJ f t u] w (j9 z wh fc b f t u):=by
 have hz:=r.size;have a4:=Pm.start w PA f t u;have c4:=X (λW=>Dv r W);have g9:=X (λ(c:UInt8) W=>za c W);have h0:=X (λW=>zp (z f) W);have f8:0<=(f:Int):=O;have f9:(f:Int)<64:=O;have g5:0<=(t:Int):=O;have g6:(t:Int)<64:=O;have c6:=r.sq f hf;have d0:=r.sq t ht;have p:=X (vF a4.pa);obtain⟨bs,bA⟩:=FN r;have H:=X (λ(k:Nat)(hk:k<=5) W=>qzz _ (zI z) bA bs k hk (xK wh) (f:Int) (t:Int) O O O O W);have E:=X (λW=>qxf r f t u W);have v:=X (λi hi W=>tF r i hi W);have h1:=X (λW (h:zJ w PA W)=>sP h);have a3:(c_.info? 67).map (·.size)=S (PA.toList.take 64).length:=by rw[x7];simp[r.size]
 have D:=X a3;have f7:=r.b;have b7:=X r.sq;generalize (PA.toList.take 64)=h4 at H h1 D;obtain⟨V,hV⟩:∃V,Y (V=j9 z wh fc b f t u):=⟨_,X R⟩;rw[<-hV.a];unfold ZL;go_in;go_upto_region 2 with(first|(go_at_call 116;refine Z0 (c4.a _) λw1 b3=>?_)|(refine ql Vb _ R w R hz p.a ?_));have y:=a4.next b3;obtain⟨m0,m1,m2⟩:=y.cells;have cf:=y.at c6;have ct:=y.at d0;have Q:=X (λW (h:Pm w PA f t u W)=>h.cells);have T:=X (λW (h:Pm w PA f t u W)=>(⟨h.at c6,h.at d0⟩:_/\_));have j:=X y.gr;by_cases c1:vB (z f)=xK wh
 case neg=>have a5:Y (V=Zl):=X (by rw[hV.a];unfold j9;rw[qE c1];simp);have d1:(vB (z f)!=xK wh)=Zk:=qU.2 c1;obtain⟨m0,m1,m2⟩:=Q.a _ y;obtain⟨cf,ct⟩:=T.a _ y;exact Ie
 case pos=>
  have d1:(vB (z f)!=xK wh)=Zl:=by rw[c1];simp
  by_cases c2:vB (z t)=xK wh
  case pos=>have a5:Y (V=Zl):=X (by rw[hV.a];unfold j9;rw[qJ c2];simp);have o:(vB (z t)==xK wh)=Zk:=YF.2 c2;obtain⟨m0,m1,m2⟩:=Q.a _ y;obtain⟨cf,ct⟩:=T.a _ y;exact Ie
  case neg=>
   have o:(vB (z t)==xK wh)=Zl:=(by rw[qM];exact c2);obtain⟨m0,m1,m2⟩:=Q.a _ y;obtain⟨cf,ct⟩:=T.a _ y;have h3:Y (zO t=(((t:Int)/8==0)||((t:Int)/8==7))):=X (by
    unfold zO
    have e0:Zm (t/8=0)=((t:Int)/8==0):=by
     by_cases q:t/8=0
     .rw[qJ q];symm;rw[YF];omega
     rw[qE q];symm;rw[qM];omega
    have e7:Zm (t/8=7)=((t:Int)/8==7):=by
     by_cases q:t/8=7
     .rw[qJ q];symm;rw[YF];omega
     rw[qE q];symm;rw[qM];omega
    rw[e0,e7])
   have b5:((u.toNat:Int)!=0)=Zm (u≠0):=(by exact Iq);obtain⟨k,f1,a2⟩:=aD c1;rw[a2]at h0;by_cases k0:k=0
   .subst k0;have h0:Y (∀W,i_ c_ 107 #[I Zg (z f).toNat] W λe w'=>e=Zd (I L 0)/\w'=W):=h0;have M:∀a l,Zm (u≠0)=a->zO t=l->V=((a==l)&&BD z wh b f t):=λa l ea el=>(by rw[hV.a];unfold j9;rw[qJ c1,qE c2,ea,el,a2];simp);have M:=X M;go_upto_region 6 with(first|(go_at_call 115;refine Z1 (g9.a _ _) ?_)|(go_at_call 107;refine Z1 (h0.a _) ?_));go_cut [8]from 37 (λs8 wx=>s8=(zO t)/\wx=w1)
    .exact O3
    obtain⟨rfl,rfl⟩:=hcut;obtain⟨a,ha⟩:=Zn (Zm (u≠0));obtain⟨l,hl⟩:=Zn (zO t);rw[ha.a]at b5;rw[hl.a];have h2:=X (M.a a l ha.a hl.a);have P:Y (∀W,ZL 247 #[h4.toArray,I L 0,xK wh,f,t] W (xS (zI z) 0 (xK wh) (f:Int) (t:Int))):=X (H.a 0 O);obtain⟨AT,g8⟩:=Zn (xS (zI z) 0 (xK wh) (f:Int) (t:Int));rw[g8.a]at P;by_cases a6:a=l
    case neg=>
     have f4:(!a==l)=Zk:=by cases a<;>cases l<;>simp at a6|-
     have J:Y (V=Zl):=X (by rw[h2.a,qM.2 a6];rfl);go_wp2;go_ret;exact⟨by rw[J.a];rfl,j.a⟩
    case pos=>
     subst a6;have f4:(!a==a)=Zl:=by cases a<;>rfl
     have J:Y (V=BD z wh b f t):=X (by rw[h2.a];simp);have G:Y (V=if AT then Zm (vB (z t)=xK (!wh))||decide ((t:Int)=b)else Zm (f%8=t%8)&&Zm (z t=46)&&DC z wh f t):=X (by rw[J.a,<-g8.a];rfl);have p:=X (vF y.pa);go_upto_region 10 with(first|(go_at_call 247;refine Z0 (P.a _) λw2 a1=>?_)|(refine Yo R 67 _ R w 0 R h4 _ (h1.a _ p.a) t_ rfl D.a ?_));have F:=y.next a1;have j:=X F.gr;obtain⟨m0,m1,m2⟩:=Q.a _ F;obtain⟨cf,ct⟩:=T.a _ F;have cb:=F.at f7;cases AT
     .have A:Y (V=(Zm (f%8=t%8)&&Zm (z t=46)&&DC z wh f t)):=G;by_cases m:f%8=t%8
      case neg=>have a9:((f:Int)%8==(t:Int)%8)=Zl:=Vp;have f5:((f:Int)%8 !=(t:Int)%8)=Zk:=V3;have K:Y (V=Zl):=X (by rw[A.a,qE m];rfl);go_wp2;go_ret;exact⟨by rw[K.a];rfl,j.a⟩
      case pos=>
       have a9:((f:Int)%8==(t:Int)%8)=Zk:=UP;have f5:((f:Int)%8 !=(t:Int)%8)=Zl:=(by have:(f:Int)%8=t%8:=O;rw[this];simp);by_cases s2:z t=46
       case neg=>
        have b6:(((z t).toNat:Int)!=46)=Zk:=(by rw[qU];intro e;exact s2 (q6.1 UE));have g4:(((z t).toNat:Int)==46)=Zl:=(by rw[qM];intro e;exact s2 (q6.1 UE));have K:Y (V=Zl):=X (by rw[A.a,qE s2];simp);go_wp2;go_ret;exact⟨by rw[K.a];rfl,j.a⟩
       case pos=>
        have b6:(z t).toNat=46:=(by rw[s2];rfl);rw[b6]at ct;have K:Y (V=DC z wh f t):=X (by rw[A.a,qJ m,qJ s2];rfl);have a0:Y (V=(Zm (uI f t=xK wh)||(Zm (uI f t=2*xK wh)&&Zm (f/8=(if wh then 1 else 6))&&Zm (z (if wh then f+8 else f-8)=46)))):=K;have c5:Y (uI f t=(t:Int)/8-f/8):=X (by unfold uI;omega);have g7:a_ L ((t:Int)/8-f/8)=(t:Int)/8-f/8:=Vc;rw[c5.a]at a0;obtain⟨d,hd⟩:=Zn ((t:Int)/8-f/8);cases wh
        .have d2:Y (V=(Zm (d=-1)||(Zm (d=-2)&&Zm (f/8=6)&&Zm (z (f-8)=46)))):=X (by rw[a0.a,hd.a];rfl);have a7:xK Zl=-1:=R;rw[a7];go_upto_region 26 with fail;rw[hd.a];have f6:=X (show(t:Int)/8-f/8=d from hd.a);by_cases d1:d=-1
         case pos=>have B:Y (V=Zk):=X (by rw[d2.a,d1];rfl);subst d1;go_wp2;go_ret;exact⟨Up,j.a⟩
         case neg=>
          have e1:(d==-1)=Zl:=(by rw[qM];exact d1);by_cases o:d=-2
          case neg=>
           have e2:(d==-2)=Zl:=(by rw[qM];exact o);exact Id
          case pos=>
           subst o;by_cases d3:f/8=6
           case neg=>have e3:((f:Int)/8==6)=Zl:=Vp;have B:Y (V=Zl):=X (by rw[d2.a,qE d3];rfl);go_wp2;go_ret;exact⟨Up,j.a⟩
           case pos=>
            have e3:((f:Int)/8==6)=Zk:=UP;obtain⟨n,hn⟩:=Zn (f-8);have a8:n<64:=(by have:=hn.a;omega);have e4:a_ L ((f:Int)+(-8))=(n:Int):=(by rw[YO];have:=hn.a;omega);exact WQ
        have d2:Y (V=(Zm (d=1)||(Zm (d=2)&&Zm (f/8=1)&&Zm (z (f+8)=46)))):=X (by rw[a0.a,hd.a];rfl);have a7:xK Zk=1:=R;rw[a7];go_upto_region 26 with fail;rw[hd.a];have f6:=X (show(t:Int)/8-f/8=d from hd.a);by_cases d1:d=1
        case pos=>have B:Y (V=Zk):=X (by rw[d2.a,d1];rfl);subst d1;go_wp2;go_ret;exact⟨Up,j.a⟩
        case neg=>
         have e1:(d==1)=Zl:=(by rw[qM];exact d1);by_cases o:d=2
         case neg=>
          have e2:(d==2)=Zl:=(by rw[qM];exact o);exact Id
         case pos=>
          subst o;by_cases d3:f/8=1
          case neg=>have e3:((f:Int)/8==1)=Zl:=Vp;have B:Y (V=Zl):=X (by rw[d2.a,qE d3];rfl);go_wp2;go_ret;exact⟨Up,j.a⟩
          case pos=>
           have e3:((f:Int)/8==1)=Zk:=UP;obtain⟨n,hn⟩:=Zn (f+8);have a8:n<64:=(by have:=hn.a;omega);have e4:a_ L ((f:Int)+8)=(n:Int):=(by rw[YO];have:=hn.a;omega);exact WQ
     have A:Y (V=(Zm (vB (z t)=xK (!wh))||decide ((t:Int)=b))):=G;have g3:a_ L (-(xK wh))=xK (!wh):=Vn;by_cases m:vB (z t)=xK (!wh)
     case pos=>have a9:(vB (z t)==xK (!wh))=Zk:=YF.2 m;have K:Y (V=Zk):=X (by rw[A.a,qJ m];rfl);go_wp2_with(go_at_call 115;refine Z1 (g9.a _ _) ?_);go_ret;exact⟨by rw[K.a];rfl,j.a⟩
     case neg=>
      have a9:(vB (z t)==xK (!wh))=Zl:=(by rw[qM];exact m);have K:Y (V=((t:Int)==b)):=X (by rw[A.a,qE m,Xo];by_cases e:(t:Int)=b<;>simp[e]);go_wp2_with(go_at_call 115;refine Z1 (g9.a _ _) ?_);go_ret;exact⟨by rw[K.a];rfl,j.a⟩
   have g0:((k:Int)==0)=Zl:=Vp;have g1:((k:Int)!=0)=Zk:=V3;have M:∀a,Zm (u≠0)=a->V=(!a&&EE z wh fc k f t u):=λa ea=>by rw[hV.a];unfold j9;rw[qJ c1,qE c2,ea,a2,qE (show ¬((k:Int)=0) from O),qF (show ¬((k:Int)=0) from O)];cases a<;>simp
   have M:=X M;go_upto_region 6 with(first|(go_at_call 115;refine Z1 (g9.a _ _) ?_)|(go_at_call 107;refine Z1 (h0.a _) ?_));go_cut [8]from 37 (λs8 wx=>s8=(zO t)/\wx=w1)
   .exact O3
   obtain⟨rfl,rfl⟩:=hcut;obtain⟨a,ha⟩:=Zn (Zm (u≠0));obtain⟨l,hl⟩:=Zn (zO t);rw[ha.a]at b5;rw[hl.a];have h2:=X (M.a a ha.a);have P:=X (H.a k f1);obtain⟨AT,g8⟩:=Zn (xS (zI z) k (xK wh) (f:Int) (t:Int));rw[g8.a]at P;cases a
   case true=>have J:Y (V=Zl):=X (by rw[h2.a];rfl);go_wp2;go_ret;exact⟨by rw[J.a];rfl,j.a⟩
   case false=>
    have J:Y (V=if AT then Zk else Zm (k=5)&&Zm (0<=zK wh fc f t u)&&km z (zK wh fc f t u).toNat):=X (by rw[h2.a,<-g8.a];rfl);have p:=X (vF y.pa);go_upto_region 11 with(first|(go_at_call 247;refine Z0 (P.a _) λw2 a1=>?_)|(refine Yo R 67 _ R w 0 R h4 _ (h1.a _ p.a) t_ rfl D.a ?_));have F:=y.next a1;have j:=X F.gr;obtain⟨m0,m1,m2⟩:=Q.a _ F;have p:=X (vF F.pa);cases AT
    case true=>have G:Y (V=Zk):=J;go_wp2;go_ret;exact⟨by rw[G.a];rfl,j.a⟩
    case false=>
     have G:Y (V=(Zm (k=5)&&Zm (0<=zK wh fc f t u)&&km z (zK wh fc f t u).toNat)):=J;have b2:=qvy wh fc f t u;obtain⟨C,b0⟩:=Zn (zK wh fc f t u);rw[b0.a]at E G b2;go_upto_region 14 with(first|(go_at_call 108;refine Z0 (E.a _) λw3 b4=>?_)|(refine ql Vb _ R w R hz p.a ?_));have b1:=F.next b4;have j:=X b1.gr;have p:=X (vF b1.pa);by_cases k5:k=5
     case neg=>have f2:((k:Int)!=5)=Zk:=V3;have f3:((k:Int)==5)=Zl:=Vp;have A:Y (V=Zl):=X (by rw[G.a,qE k5];rfl);go_wp2;go_ret;exact⟨by rw[A.a];rfl,j.a⟩
     case pos=>
      have f2:((k:Int)!=5)=Zl:=(by rw[k5];rfl);have f3:((k:Int)==5)=Zk:=(by rw[k5];rfl);obtain rfl|⟨i,hi,rfl⟩:=b2
      .have A:Y (V=Zl):=X (by rw[G.a];simp);go_wp2;go_ret;exact⟨by rw[A.a];rfl,j.a⟩
      have A:Y (V=km z i):=X (by rw[G.a,qJ k5];simp);have g2:((i:Int)<0)=False:=WU;have d4:=X (v.a i hi);go_wp2_with(first|(go_at_call 248;refine Z0 (d4.a _) λw4 d5=>?_;have f0:=X (o_ j.a d5))|(refine ql Vb _ R w R hz p.a ?_));go_ret;exact⟨by rw[A.a];rfl,f0.a⟩
def toB(f t k:Nat):Bool:=Zm ((f:Int)=xY k)||decide ((f:Int)=zD k)||decide ((t:Int)=xY k)||decide ((t:Int)=zD k)
def cM(fc:I5)(f t:Nat)(n:Nat)(k:Nat):Bool:=fc k&&!(Zm (k<n)&&toB f t k)
def oZ(z:I2)(f t:Nat):Bool:=Zm (vE (z f)=0)&&Zm (uI f t=2\/uI f t=-2)
def oA(z:I2)(wh:Bool)(f t:Nat):Int:=if oZ z f t then(f:Int)+8*xK wh else -1
def iQ(z:I2)(b:Int)(f t:Nat):Bool:=Zm (vE (z f)=0)||(!decide (z t=46)||uP z b f t)
def Cd(z:I2)(b:Int)(f t:Nat)(h:Int):Int:=if iQ z b f t then 0 else if h<65535 then h+1 else h
def Ce(wh:Bool)(g:Int):Int:=if !wh&&Zm (g<65535)then g+1 else g
structure Bh(w:I6)(PA:I0)(f t:Nat)(u:UInt8)(B:Nat)(Q:I0)(W:I6):Prop where
 pm:Pm w PA f t u W
 rs:W.heap[w.heap.size+2]?=S (Z b_ 70)
 q:W.heap[B]?=S (Z Q 70)
 lo:w.heap.size+2<B
 hi:B<W.heap.size
def Bh.next{Q:I0}{t:Nat}(h:Bh w PA f t u B Q W)(g:Gr W a):Bh w PA f t u B Q a:=⟨h.pm.next g,(Zz g (Nat.lt_trans h.lo h.hi)).trans h.rs,(Zz g h.hi).trans h.q,h.lo,qN h.hi (ZR g)⟩
def Bh.set{Q:I0}{t:Nat}(h:Bh w PA f t u B Q W)(i:Nat)(v:I7):Bh w PA f t u B (Q.setIfInBounds i v) (W.setCell ⟨B,i,N⟩ v):=by have a:Fr (λk _=>k≠B) W (W.setCell ⟨B,i,N⟩ v):=ZP.setCell _ (λo _ q=>q R);have d:=h.lo;have b:(W.setCell ⟨B,i,N⟩ v).heap.size=W.heap.size:=World.size_setCell ..;refine⟨⟨a.same _ _ h.pm.pa O,a.same _ _ h.pm.mv O,by rw[b];exact h.pm.lt,Yr h.pm.gr (show w<=B from O) _⟩,a.same _ _ h.rs O,qv h.q,d,by rw[b];exact h.hi⟩
def Bh.drew{Q:I0}{t:Nat}(h:Bh w PA f t u B Q W):Bh w PA f t u B Q W.drew:=⟨⟨h.pm.pa,h.pm.mv,h.pm.lt,h.pm.gr.drew⟩,h.rs,h.q,h.lo,h.hi⟩
def Bh.at{Q:I0}{t:Nat}(h:Bh w PA f t u B Q W)(a:Q[k]?=v):W.cell? ⟨B,k,N⟩=v:=by rw[qn h.q];exact a
def Bh.op{Q:I0}{t:Nat}(h:Bh w PA f t u B Q W)(k:Nat):W.frozen? ⟨B,k,N⟩=Zl:=xr h.q
def Dx(u:UInt8):dP u<6:=by unfold dP;split;omega;split;omega;split<;>omega
def Dy:∀u∈U5,u≠0->e_ [112,110,98,114,113,107] u=((dP u:Nat):Int):=WS
def qvi(u:UInt8)(b:u∈U5)(a:u≠0)(w:I6):i_ c_ 111 #[Zb ⟨#[112,110,98,114,113,107]⟩,I Zg u.toNat] w λe w'=>e=Zd ((dP u:Nat))/\w'=w:=by rw[<-Dy u b a];exact xa ⟨#[112,110,98,114,113,107]⟩ WS u w
def GI(k:Nat)(a:k<6)(b:Bool)(w:I6):i_ c_ 195 #[(k:Nat),xK b] w λe w'=>e=I Zg (yP k b).toNat/\w'=w:=by
 have:k=0\/k=1\/k=2\/k=3\/k=4\/k=5:=O;obtain rfl|rfl|rfl|rfl|rfl|rfl:=this
 .exact IS
 .cases b
  .show i_ c_ 195 #[I L 1,I L (-1)] w _;exact Wy
  show i_ c_ 195 #[I L 1,I L 1] w _;exact Wy
 .cases b
  .show i_ c_ 195 #[I L 2,I L (-1)] w _;exact Wy
  show i_ c_ 195 #[I L 2,I L 1] w _;exact Wy
 .exact IR
 .cases b
  .show i_ c_ 195 #[I L 4,I L (-1)] w _;exact Wy
  show i_ c_ 195 #[I L 4,I L 1] w _;exact Wy
 exact IQ
def qxg{g:Int}(r:jE z wh fc b h g PA)(f t:Nat)(hf:f<64)(ht:t<64)(u:UInt8)(hu:u∈U5)(h0:0<=h)(h1:h<=65535)(g0:0<=g)(g1:g<=65535)(w:I6):i_ c_ 106 #[Zc PA,Zc (ZJ f t u)] w λe w'=>∃Q,e=Zd (Zc Q)/\jE (ua z wh fc b f t u) (!wh) (cM fc f t 4) (oA z wh f t) (Cd z b f t h) (Ce wh g) Q/\Gr w w':=by
 have hz:=r.size;have g8:=X (qx r);obtain⟨x1,x2,x3,x4⟩:=jG w (Z PA 70) (Z (ZJ f t u) 125) (Z b_ 70);have h5:=(Pm.start w PA f t u).next (ZO.alloc b_ 70);have r6:=X (λW=>Dv r W);have k8:=X (λW=>zp (z f) W);have f9:=X (λW=>bZ r f t hf ht u W);have b6:=X (λW=>qxf r f t u W);have x9:0<=(f:Int):=O;have y0:(f:Int)<64:=O;have y5:0<=(t:Int):=O;have y6:(t:Int)<64:=O;have r7:=r.sq f hf;have w0:=r.sq t ht;have w2:=r.wh;have o:=X (vF h5.pa);have s9:=X x3;have m6:=X x4;clear x1 x2 x3 x4;go_in;go_upto_region 2 with(first|(go_at_call 116;refine Z0 (r6.a _) λw1 f6=>?_)|(refine ql Vb _ R w.heap.size R hz o.a ?_));have h6:=h5.next f6;have k9:w.heap.size+2<w1.heap.size:=qN (by rw[m6.a];omega) (ZR f6);have h2:=X ((YG f6 (w.heap.size+2) (by rw[m6.a];omega)).trans s9.a);clear h5 f6 o r6 s9 m6;have o:=X (vF h6.pa);go_upto_region 3 with(first|(refine ql Vb _ R w.heap.size R hz o.a ?_)|(refine ZU R 70 _ _ R w1.heap.size PA R R 70 b_ Zv (by rw[hz];exact q9) (by rw[hz];rfl) g8.a ?_));show n_ _ _ _ _ ((w1.alloc (Z b_ 70)).setRow w1.heap.size PA);have k3:Gr w1 ((w1.alloc (Z b_ 70)).setRow w1.heap.size PA):=ZN.setRow _ Zy _;have a5:Bh w PA f t u w1.heap.size PA ((w1.alloc (Z b_ 70)).setRow w1.heap.size PA):=⟨h6.next k3,(Zz k3 k9).trans h2.a,Zt (Z7 w1 _),k9,by rw[Xa,Z3];omega⟩;generalize ((w1.alloc (Z b_ 70)).setRow w1.heap.size PA)=w3 at a5|-;generalize w1.heap.size=B at a5|-;clear h6 k9 h2 o k3;obtain⟨V,b3⟩:=Zn (vE (z f));rw[b3.a]at k8;obtain⟨PS,b4⟩:=Zn (uP z b f t);have f9:Y (∀W,ZL 194 #[Zc PA,Zc (ZJ f t u)] W (Za PS)):=X (λW=>by rw[<-b4.a];exact f9.a W);obtain⟨TK,n3⟩:=Zn (!decide (z t=46));have v9:(((z t).toNat:Int)!=46)=TK:=by rw[<-n3.a];exact If
 have j:=X (λ(Q:I0) W (h:Bh w PA f t u B Q W)=>h.pm.cells);have l:=X (λ(Q:I0) W (h:Bh w PA f t u B Q W)=>(⟨h.pm.at r7,h.pm.at w0⟩:_/\_));obtain⟨H,m1,m2⟩:=j.a _ _ a5;obtain⟨cf,ct⟩:=l.a _ _ a5;have o:=X (vF a5.pm.pa);go_upto_if 38 with(first|(go_at_call 107;refine Z1 (k8.a _) ?_)|(go_at_call 194;refine Z0 (f9.a _) λw5 p7=>?_)|(refine ql Vb _ R w.heap.size R hz o.a ?_));have a6:=a5.next p7;clear a5 p7 H m1 m2 cf ct o k8 f9 v9 g8;obtain⟨n1,f8⟩:∃n,Y (n=f/8*8+t%8):=⟨_,X R⟩;go_cut [8]from 39 (λs8 m0=>∃Q,s8=Za (TK||PS)/\Bh w PA f t u B Q m0/\jE (wC z b f t) wh fc b h g Q)
 case first=>
  cases PS
  .have l1:Y (wC z b f t=z):=X (by unfold wC;rw[b4.a];rfl);clear b6 j l b4;go_wp2;go_meet
   case rel=>exact⟨PA,WU,a6,by rw[l1.a];exact r⟩
  .have l1:Y (wC z b f t=vW z n1 46):=X (by unfold wC;rw[b4.a,f8.a];rfl);have g7:n1<64:=(by have:=f8.a;omega);have e1:a_ L ((f:Int)/8*8)=(f:Int)/8*8:=Vc;have e2:a_ L ((f:Int)/8*8+(t:Int)%8)=(n1:Int):=(by rw[YO];have:=f8.a;omega);have e3:0<=(n1:Int):=O;have e4:(n1:Int)<64:=O;obtain⟨H,m1,m2⟩:=j.a _ _ a6;have cn:=a6.at (r.sq n1 g7);have on:=a6.op n1;have G:=X (a6.set n1 (I Zg 46));have b0:=X (r.setSq n1 g7 46);clear b6 j l b4 a6;go_wp2;go_meet
   case rel=>exact⟨PA.setIfInBounds n1 (I Zg 46),WU,G.a,by rw[l1.a];exact b0.a⟩
 case rest=>
  obtain⟨Q1,rfl,a7,h7⟩:=hcut;clear a6 f8 r;obtain⟨H,m1,m2⟩:=j.a _ _ a7;obtain⟨cf,ct⟩:=l.a _ _ a7;have qt:=a7.at (h7.sq t ht);have ot:=a7.op t;have E:Y (∀w',(∃Q,Bh w PA f t u B Q w')->(∃Q,Bh w PA f t u B Q w')/\w'.cell? ⟨w.heap.size+1,0,N⟩=S (I L f)/\w'.cell? ⟨w.heap.size+1,1,N⟩=S (I L t)/\w'.cell? ⟨w.heap.size,f,N⟩=S (I Zg (z f).toNat)):=X (λw' h=>⟨h,by obtain⟨Q,h⟩:=h;exact⟨h.pm.cells.1,h.pm.cells.2.1,h.pm.at r7⟩⟩);have l3:wc.drew.cell? ⟨B,t,N⟩=S (I Zg (wC z b f t t).toNat):=qt;have l2:wc.drew.frozen? ⟨B,t,N⟩=Zl:=ot;have m:=a7.drew;clear qt ot H m1 m2 cf ct;go_upto_region 9 with fail;go_region_held3 (λw'=>(∃Q,Bh w PA f t u B Q w')/\w'.cell? ⟨w.heap.size+1,0,N⟩=S (I L f)/\w'.cell? ⟨w.heap.size+1,1,N⟩=S (I L t)/\w'.cell? ⟨w.heap.size,f,N⟩=S (I Zg (z f).toNat)) (first|exact E.a _ ⟨_,m⟩|exact E.a _ ⟨_,Bh.set m _ _⟩|exact E.a _ (And.left ‹_›)) (fail);show Exit.then _ _ _ _ (wc.setCell ⟨B,t,N⟩ (I Zg (z f).toNat)).drew;have a8:=(a7.set t (I Zg (z f).toNat)).drew;have f3:Y (jE (vW (wC z b f t) t (z f)) wh fc b h g (Q1.setIfInBounds t (I Zg (z f).toNat))):=X (h7.setSq t ht (z f));rename_i v0;clear v0 a7 h7 m l3 l2 E;generalize (wc.setCell ⟨B,t,N⟩ (I Zg (z f).toNat)).drew=w9 at a8|-;generalize Q1.setIfInBounds t (I Zg (z f).toNat)=Q9 at a8 f3;obtain⟨H,m1,m2⟩:=j.a _ _ a8;have qf:=a8.at (f3.a.sq f hf);have of:=a8.op f;go_upto_region 11 with fail;show n_ _ _ _ _ (w9.setCell ⟨B,f,N⟩ (I Zg 46));have A:=a8.set f (I Zg 46);have a0:Y (jE (CY z b f t) wh fc b h g (Q9.setIfInBounds f (I Zg 46))):=X (f3.a.setSq f hf 46);clear qf of H m1 m2 a8 f3;generalize w9.setCell ⟨B,f,N⟩ (I Zg 46)=l4 at A|-;generalize Q9.setIfInBounds f (I Zg 46)=t0 at A a0;obtain⟨H,m1,m2⟩:=j.a _ _ A;obtain⟨NU,f2⟩:=Zn (Zm (u≠0));have v3:((u.toNat:Int)!=0)=NU:=by rw[<-f2.a];exact Iq
  go_upto_if 64 with fail;clear v3;go_cut [7]from 65 (λs7 m0=>∃Q,s7=I L V/\Bh w PA f t u B Q m0/\jE (n9 z wh b f t u) wh fc b h g Q)
  case first=>
   clear b6;cases NU
   .have c5:u=0:=(by simpa using f2.a);have T:Y (n9 z wh b f t u=CY z b f t):=X (by unfold n9;rw[qI c5]);clear c5;go_wp2;go_meet
    case rel=>exact⟨t0,R,A,by rw[T.a];exact a0.a⟩
   .have c5:u≠0:=(by simpa using f2.a);have g9:=X (λW=>qvi u hu c5 W);have z2:=X (λW=>GI (dP u) (Dx u) wh W);have b0:=X (a0.a.setSq t ht (yP (dP u) wh));have T:Y (n9 z wh b f t u=vW (CY z b f t) t (yP (dP u) wh)):=X (by unfold n9;rw[qF c5]);have E:Y (∀w',(∃Q,Bh w PA f t u B Q w')->(∃Q,Bh w PA f t u B Q w')/\w'.cell? ⟨w.heap.size+1,1,N⟩=S (I L t)/\w'.cell? ⟨w.heap.size+1,2,N⟩=S (I Zg u.toNat)):=X (λw' h=>⟨h,by obtain⟨Q,h⟩:=h;exact⟨h.pm.cells.2.1,h.pm.cells.2.2⟩⟩);have l3:l4.drew.cell? ⟨B,t,N⟩=S (I Zg (CY z b f t t).toNat):=A.at (a0.a.sq t ht);have l2:l4.drew.frozen? ⟨B,t,N⟩=Zl:=A.op t;have m:=A.drew;have G:=X (A.set t (I Zg ((yP (dP u) wh).toNat:Int))).drew;clear H m1 m2 j l c5;generalize yP (dP u) wh=ML at z2 b0 T G;generalize ((dP u:Nat):Int)=PU at g9 z2;go_upto_region 12 with fail;go_region_held3 (λw'=>(∃Q,Bh w PA f t u B Q w')/\w'.cell? ⟨w.heap.size+1,1,N⟩=S (I L t)/\w'.cell? ⟨w.heap.size+1,2,N⟩=S (I Zg u.toNat)) (first|exact E.a _ ⟨_,m⟩|exact E.a _ ⟨_,Bh.set m _ _⟩|exact E.a _ (And.left ‹_›)) (first|(go_at_call 111;refine Z1 (g9.a _) ?_)|(go_at_call 195;refine Z1 (z2.a _) ?_));show Exit.then _ _ _ _ (l4.setCell ⟨B,t,N⟩ (I Zg ML.toNat)).drew;exact IC
  case rest=>
   obtain⟨h3,rfl,b1,a1⟩:=hcut;clear A a0 f2 H m1 m2;obtain⟨C,c6⟩:=Zn (zK wh fc f t u);rw[c6.a]at b6;have f4:=X (qvy wh fc f t u);rw[c6.a]at f4;obtain⟨H,m1,m2⟩:=j.a _ _ b1;have o:=X (vF b1.pm.pa);go_upto_region 14 with(first|(go_at_call 108;refine Z0 (b6.a _) λw7 g6=>?_)|(refine ql Vb _ R w.heap.size R hz o.a ?_));have J:=b1.next g6;clear b1 g6 H m1 m2 o b6;obtain⟨KC,z0⟩:=Zn (Zm (V=5)&&Zm (0<=C));go_cut [82]from 77 (λw4 m0=>w4=Za KC/\m0=w7)
   case first=>
    clear j l;by_cases k5:V=5
    .have d5:(V==5)=Zk:=YF.2 k5;by_cases c0:0<=C
     .have p:Y (KC=Zk):=X (by rw[<-z0.a,qJ k5,qJ c0];rfl);clear k5;exact OB
     .have p:Y (KC=Zl):=X (by rw[<-z0.a,qJ k5,qE c0];rfl);have c1:C<0:=O;clear k5;exact OB
    .have d5:(V==5)=Zl:=(by rw[qM];exact k5);have p:Y (KC=Zl):=X (by rw[<-z0.a,qE k5];rfl);clear k5;exact OB
   case rest=>
    obtain⟨rfl,rfl⟩:=hcut;go_upto_if 82 with fail;go_cut [7]from 83 (λs7 m0=>∃Q,s7=I L V/\Bh w PA f t u B Q m0/\jE (ua z wh fc b f t u) wh fc b h g Q)
    case first=>
     cases KC
     .have T:Y (ua z wh fc b f t u=n9 z wh b f t u):=X (by
       have:sm z wh fc f t u=Zl:=(by unfold sm;rw[b3.a,c6.a];exact z0.a);unfold ua;rw[this];rfl)
      clear j l;go_wp2;go_meet
      case rel=>exact⟨h3,R,J,by rw[T.a];exact a1⟩
     .have p8:sm z wh fc f t u=Zk:=(by unfold sm;rw[b3.a,c6.a];exact z0.a);have v1:0<=C:=(by have:=z0.a;rw[qH,qG,qG]at this;exact this.2);obtain⟨ci,k2,eC⟩:∃i:Nat,i<4/\C=(i:Int):=by
       obtain e|e:=f4.a
       .omega
       .exact e
      obtain⟨rr,r2,er⟩:∃n:Nat,n<64/\zD ci=(n:Int):=⟨hR ci,(zi ci k2).2.2.1,(dq ci k2).2.2⟩;obtain⟨mm,l0⟩:∃n,Y (n=(f+t)/2):=⟨_,X R⟩;have f0:mm<64:=(by have:=l0.a;omega);have T:Y (ua z wh fc b f t u=vW (vW (n9 z wh b f t u) rr 46) mm (yP 3 wh)):=X (by unfold ua;rw[p8,qI R,c6.a,eC,YE,er,YE,l0.a]);have b7:Y (∀W,i_ c_ 196 #[I L C] W λe w'=>e=Zd (Ze #[I L (xY ci),I L (vN ci),I L rr,I L (xK (Zm (ci<2)))])/\w'=W):=X (λW=>by rw[eC,<-er];exact zr ci k2 W);have z2:=X (λW=>DF wh W);have r0:0<=(rr:Int):=O;have r1:(rr:Int)<64:=O;have n0:0<=(mm:Int):=O;have y8:(mm:Int)<64:=O;have e1:a_ L ((f:Int)+t)=(f:Int)+t:=Vc;have e2:((f:Int)+t)/2=(mm:Int):=(by have:=l0.a;omega);have e3:((f:Int)+t).tdiv 2=(mm:Int):=(by rw[Int.tdiv_eq_ediv_of_nonneg O];exact e2);have e4:a_ L (mm:Int)=mm:=Vc;have qr:=J.at (a1.sq rr r2);have or:=J.op rr;clear p8 v1 eC er z0 f4;go_upto_region 17 with(go_at_call 196;refine Z1 (b7.a _) ?_);show n_ _ _ _ _ (wc.setCell ⟨B,rr,N⟩ (I Zg 46));have K:=J.set rr (I Zg 46);have d2:Y (jE (vW (n9 z wh b f t u) rr 46) wh fc b h g (h3.setIfInBounds rr (I Zg 46))):=X (a1.setSq rr r2 46);clear J a1 qr or b7;generalize wc.setCell ⟨B,rr,N⟩ (I Zg 46)=l5 at K|-;generalize h3.setIfInBounds rr (I Zg 46)=t1 at K d2;have b0:=X (d2.a.setSq mm f0 (yP 3 wh));have E:Y (∀w',(∃Q,Bh w PA f t u B Q w')->(∃Q,Bh w PA f t u B Q w')/\w'.cell? ⟨w.heap.size+1,0,N⟩=S (I L f)/\w'.cell? ⟨w.heap.size+1,1,N⟩=S (I L t)):=X (λw' h=>⟨h,by obtain⟨Q,h⟩:=h;exact⟨h.pm.cells.1,h.pm.cells.2.1⟩⟩);obtain⟨ov,v4⟩:∃v,t1[mm]?=S v:=⟨_,d2.a.sq mm f0⟩;have l3:l5.drew.cell? ⟨B,mm,N⟩=S ov:=K.at v4;have l2:l5.drew.frozen? ⟨B,mm,N⟩=Zl:=K.op mm;have m:=K.drew;have G:=X (K.set mm (I Zg (yP 3 wh).toNat)).drew;clear j l;generalize yP 3 wh=ML at z2 b0 T G;go_region_held3 (λw'=>(∃Q,Bh w PA f t u B Q w')/\w'.cell? ⟨w.heap.size+1,0,N⟩=S (I L f)/\w'.cell? ⟨w.heap.size+1,1,N⟩=S (I L t)) (first|exact E.a _ ⟨_,m⟩|exact E.a _ ⟨_,Bh.set m _ _⟩|exact E.a _ (And.left ‹_›)) (first|(go_at_call 195;refine Z1 (z2.a _) ?_));show Exit.then _ _ _ _ (l5.setCell ⟨B,mm,N⟩ (I Zg ML.toNat)).drew;exact IC
    case rest=>
     obtain⟨t2,rfl,g4,g5⟩:=hcut;clear J a1 z0 f4;have a9:=X (g5.castle (fc':=cM fc f t 0) (λi _=>by unfold cM;simp));obtain⟨Z4,n5⟩:=Zn (ua z wh fc b f t u);rw[n5.a]at a9;clear g5;go_wp2;go_loopg [15] 4 (λgm k wr=>∃(d:Nat)(Q:I0),d+gm=4/\k=I L d/\Bh w PA f t u B Q wr/\jE Z4 wh (cM fc f t d) b h g Q)
     case atStart=>exact⟨0,t2,O,R,g4,a9.a⟩
     case round=>
      clear g4 a9;obtain⟨d,Qd,d1,rfl,m,a4⟩:=hrel;by_cases hd:d<4
      .have b7:=X (λW=>zr d hd W);obtain⟨H,m1,m2⟩:=j.a _ _ m;obtain⟨TB,b5⟩:=Zn (toB f t d);go_upto_region 22 with(go_at_call 196;refine Z1 (b7.a _) ?_);go_cut [135]from 103 to 138 (λs0 m0=>s0=Za TB/\m0=wr)
       case first=>
        have c4:Y (TB=(((f:Int)==xY d)||((f:Int)==zD d)||((t:Int)==xY d)||((t:Int)==zD d))):=X (by
         rw[<-b5.a];unfold toB
         have e:∀a c:Int,Zm (a=c)=(a==c):=λa c=>by
          by_cases q:a=c
          .rw[qJ q,YF.2 q]
          .rw[qE q,qM.2 q]
         rw[e,e,e,e])
        clear j l b5 b7;obtain⟨y1,e1⟩:=Zo ((f:Int)==xY d);obtain⟨y2,e2⟩:=Zo ((f:Int)==zD d);obtain⟨y3,e3⟩:=Zo ((t:Int)==xY d);obtain⟨y4,e4⟩:=Zo ((t:Int)==zD d);rw[e1,e2,e3,e4]at c4;cases y1
        .cases y2
         .cases y3
          .cases y4
           .exact OP
           .exact OP
          .exact OP
         .exact OP
        .exact OP
       case rest=>
        obtain⟨rfl,rfl⟩:=hcut;clear b7;go_upto_if 135 with fail;cases TB
        .have F:=X (a4.castle (fc':=cM fc f t (d+1)) (λi _=>by
          unfold cM;by_cases e:i=d
          .subst e;rw[b5.a];simp
          .have:Zm (i<d+1)=Zm (i<d):=by
            by_cases q:i<d
            .rw[qJ q,qJ O]
            .rw[qE q,qE O]
           rw[this]))
         clear a4 b5;go_wp2;go_roundg (gk-1)
         case measure=>omega
         case rel=>exact⟨d+1,Qd,O,Vg,m,F.a⟩
        .have F:=X ((a4.setC d hd Zl).castle (fc':=cM fc f t (d+1)) (λi _=>by
          unfold cM;by_cases e:i=d
          .subst e;rw[b5.a];simp
          .have:Zm (i<d+1)=Zm (i<d):=by
            by_cases q:i<d
            .rw[qJ q,qJ O]
            .rw[qE q,qE O]
           rw[this,qF e]))
         have qc:=m.at (a4.c d hd);have oc:=m.op (65+d);have w6:=X (m.set (65+d) (Za Zl));have x5:0<=(d:Int):=O;have x8:(d:Int)<4:=O;clear a4 b5 m;go_wp2;go_roundg (gk-1)
         case measure=>omega
         case rel=>exact⟨d+1,Qd.setIfInBounds (65+d) (Za Zl),O,Vg,w6.a,F.a⟩
      .have ed:d=4:=O;subst ed;have qb:=m.at a4.b;have ob:=m.op 69;go_upto_region 25 with fail;show n_ _ _ _ _ (wr.setCell ⟨B,69,N⟩ (I L (-1)));have D:=m.set 69 (I L (-1));have z1:Y (jE Z4 wh (cM fc f t 4) (-1) h g (Qd.setIfInBounds 69 (I L (-1)))):=X (a4.setB (-1));clear m a4 qb ob;generalize wr.setCell ⟨B,69,N⟩ (I L (-1))=w8 at D|-;generalize Qd.setIfInBounds 69 (I L (-1))=t3 at D z1;obtain⟨TW,d4⟩:=Zn (oZ z f t);obtain⟨H,m1,m2⟩:=j.a _ _ D;go_cut [152]from 139 (λs1 m0=>s1=Za TW/\m0=w8)
       case first=>
        by_cases k0:V=0
        .have d5:(V==0)=Zk:=YF.2 k0;obtain⟨dd,f5⟩:=Zn ((t:Int)/8-f/8);have y7:a_ L ((t:Int)/8-f/8)=dd:=(by rw[YO];have:=f5.a;omega);have n7:=X (λW=>xh dd (by have:=f5.a;omega) (by have:=f5.a;omega) W);have p:Y (TW=(ab dd==2)):=X (by
          rw[<-d4.a];unfold oZ;have e:uI f t=dd:=(by rw[<-f5.a];unfold uI;omega);rw[b3.a,qJ k0,e,Xc];unfold ab;by_cases q:dd<0
          .rw[qI q];by_cases q2:dd=-2
           .rw[q2];rfl
           .rw[qE O];symm;rw[qM];omega
          .rw[qF q];by_cases q2:dd=2
           .rw[q2];rfl
           .rw[qE O];symm;rw[qM];omega)
         clear j l k0;go_wp2_with(go_at_call 197;refine Z1 (n7.a _) ?_);go_meet
         case rel=>exact⟨UG,R⟩
        .have d5:(V==0)=Zl:=(by rw[qM];exact k0);have p:Y (TW=Zl):=X (by rw[<-d4.a];unfold oZ;rw[b3.a,qE k0];rfl);clear j l k0;exact OB
       case rest=>
        obtain⟨rfl,rfl⟩:=hcut;go_upto_if 152 with fail;go_cut [7]from 153 (λs7 m0=>∃Q,s7=I L V/\Bh w PA f t u B Q m0/\jE Z4 wh (cM fc f t 4) (oA z wh f t) h g Q)
        case first=>
         cases TW
         .have p:Y (oA z wh f t=-1):=X (by unfold oA;rw[d4.a];rfl);clear j l;go_wp2;go_meet
          case rel=>exact⟨t3,R,D,by rw[p.a];exact z1.a⟩
         .have p:Y (oA z wh f t=(f:Int)+8*xK wh):=X (by unfold oA;rw[d4.a];rfl);obtain⟨sv,r5⟩:=Zn ((f:Int)+8*xK wh);have r4:-1<=xK wh/\xK wh<=1:=Vn;have e1:a_ L (8*xK wh)=8*xK wh:=Vc;have e2:a_ L ((f:Int)+8*xK wh)=sv:=(by rw[YO];have:=r5.a;omega);rw[r5.a]at p;have qb:=D.at z1.a.b;have ob:=D.op 69;have w6:=X (D.set 69 (I L sv));have F:=X (z1.a.setB sv);clear j l D z1;exact IB
        case rest=>
         obtain⟨t4,rfl,z3,P⟩:=hcut;clear D z1 d4 H m1 m2;obtain⟨bb,p0⟩:=Zn (oA z wh f t);rw[p0.a]at P;have qh:=z3.at P.h;obtain⟨HL,f1⟩:=Zn (Zm (h<65535));have v2:Zm (h<65535)=HL:=f1.a;go_upto_if 161 with fail;clear v2;obtain⟨hh,f7⟩:=Zn (if h<65535 then h+1 else h);go_cut [7]from 162 (λs7 m0=>∃Q,s7=I L V/\Bh w PA f t u B Q m0/\jE Z4 wh (cM fc f t 4) bb hh g Q)
         case first=>
          cases HL
          .have p:Y (hh=h):=X (by rw[<-f7.a,qF (of_decide_eq_false f1.a)]);clear j l;go_wp2;go_meet
           case rel=>exact⟨t4,R,z3,by rw[p.a];exact P⟩
          .have p:Y (hh=h+1):=X (by rw[<-f7.a,qI (q8 f1.a)]);have e1:a_ L (h+1)=hh:=(by rw[YO];have:=p.a;omega);have oh:=z3.op 70;have w6:=X (z3.set 70 (I L hh));have F:=X (P.setH hh);clear j l z3 P;go_wp2;go_meet
           case rel=>exact⟨_,R,w6.a,F.a⟩
         case rest=>
          obtain⟨t5,rfl,M,a2⟩:=hcut;clear z3 P qh f1;obtain⟨ZH,h9⟩:=Zn (iQ z b f t);have g3:Y (ZH=(Zm (V=0)||(TK||PS))):=X (by rw[<-h9.a];unfold iQ;rw[b3.a,n3.a,b4.a]);obtain⟨TP,n4⟩:=Zn (TK||PS);rw[n4.a]at g3|-;go_upto_region 29 with fail;go_cut [170]from 166 (λs2 m0=>s2=Za ZH/\m0=wc)
          case first=>
           clear j l;by_cases k0:V=0
           .have d5:(V==0)=Zk:=YF.2 k0;have p:Y (ZH=Zk):=X (by rw[g3.a,qJ k0];rfl);clear k0;exact OB
           .have d5:(V==0)=Zl:=(by rw[qM];exact k0);have p:Y (ZH=TP):=X (by rw[g3.a,qE k0];rfl);clear k0;exact OB
          case rest=>
           obtain⟨rfl,y⟩:=hcut;subst y;go_upto_if 170 with fail;obtain⟨bh,k1⟩:=Zn (Cd z b f t h);go_cut [7]from 171 (λs7 m0=>∃Q,s7=I L V/\Bh w PA f t u B Q m0/\jE Z4 wh (cM fc f t 4) bb bh g Q)
           case first=>
            cases ZH
            .have p:Y (bh=hh):=X (by rw[<-k1.a];unfold Cd;rw[h9.a,<-f7.a];rfl);clear j l;go_wp2;go_meet
             case rel=>exact⟨t5,R,M,by rw[p.a];exact a2⟩
            .have p:Y (bh=0):=X (by rw[<-k1.a];unfold Cd;rw[h9.a];rfl);have qh:=M.at a2.h;have oh:=M.op 70;have w6:=X (M.set 70 (I L 0));have F:=X (a2.setH 0);clear j l M a2;exact IB
           case rest=>
            obtain⟨t9,rfl,z4,a3⟩:=hcut;clear M a2 g3 n4 f7;obtain⟨GF,d0⟩:=Zn (!wh&&Zm (g<65535));have qg:=z4.at a3.g;obtain⟨SD,h8⟩:=Zn (xK wh);rw[h8.a];go_upto_region 31 with fail;go_cut [178]from 172 (λs5 m0=>s5=Za GF/\m0=wc)
            case first=>
             clear j l;cases wh
             .have r4:SD<0:=(by rw[<-h8.a];decide);have p:Y (GF=Zm (g<65535)):=X d0.a.symm;exact OB
             .have r4:¬SD<0:=(by rw[<-h8.a];decide);have p:Y (GF=Zl):=X d0.a.symm;exact OB
            case rest=>
             obtain⟨rfl,y⟩:=hcut;subst y;go_upto_if 178 with fail;obtain⟨gg,k4⟩:=Zn (Ce wh g);go_cut [7]from 179 (λs7 m0=>∃Q,s7=I L V/\Bh w PA f t u B Q m0/\jE Z4 wh (cM fc f t 4) bb bh gg Q)
             case first=>
              cases GF
              .have p:Y (gg=g):=X (by rw[<-k4.a];unfold Ce;rw[d0.a];rfl);clear j l;go_wp2;go_meet
               case rel=>exact⟨t9,R,z4,by rw[p.a];exact a3⟩
              .have p:Y (gg=g+1):=X (by rw[<-k4.a];unfold Ce;rw[d0.a];rfl);have e1:a_ L (g+1)=gg:=(by rw[YO];have:=p.a;omega);have og:=z4.op 71;have w6:=X (z4.set 71 (I L gg));have F:=X (a3.setG gg);clear j l z4 a3;go_wp2;go_meet
               case rel=>exact⟨_,R,w6.a,F.a⟩
             case rest=>
              obtain⟨n2,rfl,z5,d3⟩:=hcut;clear z4 a3 d0 qg j l;have cw:=z5.pm.at w2;have qw:=z5.at d3.wh;have ow:=z5.op 64;go_upto_region 34 with fail;show n_ _ _ _ _ (wc.setCell ⟨B,64,N⟩ (Za (!wh)));have z9:=z5.set 64 (Za (!wh));have b2:jE Z4 (!wh) (cM fc f t 4) bb bh gg (n2.setIfInBounds 64 (Za (!wh))):=d3.setWh (!wh);clear z5 d3 cw qw ow;generalize wc.setCell ⟨B,64,N⟩ (Za (!wh))=x0 at z9|-;generalize n2.setIfInBounds 64 (Za (!wh))=h4 at z9 b2;have g2:=b2.size;have v5:=qx b2;have o:=X (vF z9.q);have r3:Y (x0.heap[w.heap.size+1+1]?=S (Z b_ 70)):=X z9.rs;go_wp2_with(first|(refine ql Vb _ R B R g2 o.a ?_)|(refine ZU R 70 _ _ R (w.heap.size+1+1) h4 R R 70 b_ r3.a (by rw[g2];exact q9) (by rw[g2];rfl) v5 ?_));refine ZS (v:=Zc h4) (Yp results106 _ _ (w.heap.size+1+1) 70 _ (0,0) _ R (Zt r3.a) s_ rfl (by rw[g2];exact q9)) R ⟨h4,R,?_,z9.pm.gr.setRow _ O _⟩;rw[n5.a,p0.a,k1.a,k4.a];exact b2
def m3(d:kJ z wh fc b)(l:-1<=b)(m:b<=63){t:Nat}(e:f<64)(g:t<64)(o:u∈U5)(n:j9 z wh fc b f t u=Zk):∃y:Nat,y<64/\xR (ua z wh fc b f t u) wh=(y:Int):=by obtain⟨i,j,h,k,a⟩:=(qjy d e g o).1 n;rw[pC d j e g h k a];exact(jy d l m j e g h k a).1
def yY(z:I2)(wh:Bool)(fc:I5)(b:Int):List Mv:=yE z wh fc b 64
def E8:∀i,i<64->pQ i<64:=WS
def bL:∀f,f<64->pQ (pQ f)=f:=WS
def gH:∀i,i<64->∀j,j<64->i<j->xQ (pQ i)<xQ (pQ j):=WS
def wM{a b c d:I1}(e:a.length=b.length)(h:a<b):a++c<b++d:=by
 induction a generalizing b with
 | nil=>
  cases b with
  | nil=>exact w_ h (List.lt_irrefl _)
  | cons _ _=>cases e
 | cons x r ih=>
  cases b with
  | nil=>cases e
  | cons y s=>
   rw[YA,YA,List.cons_lt_cons_iff];rw[List.cons_lt_cons_iff]at h;obtain h|⟨f,g⟩:=h
   .exact Zi h
   exact Zj ⟨f,ih VI g⟩
def lY{a c d:I1}(h:c<d):a++c<a++d:=by
 induction a with
 | nil=>exact h
 | cons x r ih=>rw[YA,YA,List.cons_lt_cons_iff];exact Zj ⟨R,ih⟩
def BT(m:kJ z wh fc b)(q:-1<=b)(r:b<=63)(x:Mv):x∈yY z wh fc b↔x∈yo z wh fc b:=by
 unfold yY yE eH kr;simp only[YX,qK];constructor
 .rintro⟨i,j,a⟩;split at a
  .obtain⟨k,w,a⟩:=YX.1 a;obtain⟨u,p,rfl⟩:=YL.1 a;obtain⟨p,o⟩:=qV.1 p;exact(C8 m q r (E8 i j) (E8 k (qK.1 w)) (List.mem_of_mem_take p)).1 o
  cases a
 intro a;obtain⟨i,f,t,u,rfl,j,n,l,v,A,h⟩:=(Ay m).1 (qV.1 a).1;obtain⟨y,e,u0,u1⟩:=wX h;have:u=y:=Vo;subst this;have d:u∈U5:=by unfold U5;rcases u1 with e|e|e|e|e<;>(rw[e];simp)
 refine⟨pQ f,E8 f n,?_⟩;rw[bL f n,qI (ja j v)];refine YX.2 ⟨pQ t,qK.2 (E8 t l),?_⟩;rw[bL t l];refine YL.2 ⟨u,qV.2 ⟨?_,(C8 m q r n l d).2 a⟩,R⟩;have g:=(pg l d).1 h;rw[YF]at g;rw[ED,ro j v];by_cases k:(i:Int)=0/\zO t=Zk
 .rw[qI k];exact d
 rw[qF k];have:Zm (u≠0)=Zl:=by
  rw[g];cases o:zO t with
  | false=>simp
  | true=>
   rw[qE (λe=>k ⟨O,o⟩)];rfl
 have:u=0:=by simpa using this
 rw[this];simp[U5]
def wQ(z:I2)(wh:Bool)(fc:I5)(b:Int):(yY z wh fc b).Pairwise λx y=>yJ x<yJ y:=by
 have g:∀f t n,∀x∈kr z wh fc b f t n,x.1=f/\x.2.1=t:=λf t n x d=>by obtain⟨u,_,rfl⟩:=YL.1 d;exact⟨R,R⟩
 have o:∀f n,∀x∈eH z wh fc b f n,x.1=f:=λf n x d=>by obtain⟨k,_,d⟩:=YX.1 d;exact(g _ _ _ x d).1
 unfold yY yE;rw[X4];constructor
 .intro i _;split
  .rw[eH,X4];constructor
   .intro k _;rw[kr,List.pairwise_map];refine List.Pairwise.filter _ (List.Pairwise.sublist (List.take_sublist _ _) ?_);unfold U5;unfold yJ uY;simp only;have e:∀i,i<5->∀j,j<5->i<j->xQ (pQ i)=xQ (pQ i):=λ_ _ _ _ _=>R;apply List.Pairwise.imp (R:=λu v:UInt8=>(if u=0 then[]else[u])<(if v=0 then([]:I1)else[v])) (λ{a c} h=>lY h);decide
   refine(List.pairwise_lt_range (n:=64)).imp_of_mem λ{a c} ha hc hlt x d y hy=>?_;obtain⟨l,p⟩:=g _ _ _ x d;obtain⟨m,q⟩:=g _ _ _ y hy;unfold yJ uY;rw[l,p,m,q,qS,qS];exact lY (wM R (gH a (qK.1 ha) c (qK.1 hc) hlt))
  exact List.Pairwise.nil
 refine(List.pairwise_lt_range (n:=64)).imp_of_mem λ{a c} ha hc hlt x d y hy=>?_;split at d
 .split at hy
  .have l:=o _ _ x d;have m:=o _ _ y hy;unfold yJ uY;rw[l,m,qS,qS];exact wM R (gH a (qK.1 ha) c (qK.1 hc) hlt)
  cases hy
 cases d
def qk3(f:kJ z wh fc b)(d:-1<=b)(e:b<=63):yY z wh fc b=jI (xC z wh fc b):=by obtain⟨i,g⟩:=Fd f d e;refine zu (λa c h=>List.lt_asymm h) _ _ (wQ z wh fc b) g λx=>?_;rw[BT f d e,je f d e,(xq _).mem_iff]
structure Lg(w w4:I6)(PA:I0)(B:Nat)(Q:I0)(W:I6):Prop where
 pa:zJ w.heap.size PA W
 q:zJ B Q W
 gr:Gr w4 W
def Lg.next{b:I6}{Q:I0}(h:Lg w b PA B Q W)(g:Gr W a):Lg w b PA B Q a:=⟨h.pa.gr g,h.q.gr g,o_ h.gr g⟩
def qjj{g:Int}(r:jE z wh fc b h g PA)(hC:kJ z wh fc b)(a1:-1<=b)(a2:b<=63)(h0:0<=h)(h1:h<=65535)(g0:0<=g)(g1:g<=65535)(f t:Nat)(hf:f<64)(ht:t<64)(u:UInt8)(hu:u∈U5)(w:I6):ZL 105 #[Zc PA,Zc (ZJ f t u)] w (Za (vo z wh fc b f t u)):=by
 have b2:=r.size;have l:=Pm.start w PA f t u;have T:=X (λW=>Dv r W);have H:=X (λW=>m4 r f t hf ht u W);have M:=X (λW=>qxg r f t hf ht u hu h0 h1 g0 g1 W);have d:=X (vF l.pa);obtain⟨m0,m1,m2⟩:=l.cells;have J:=X (m3 hC a1 a2 hf ht hu);have b0:Y (vo z wh fc b f t u=(j9 z wh fc b f t u&&!(zM (ua z wh fc b f t u) (xR (ua z wh fc b f t u) wh) (!wh)))):=R;generalize vo _ _ _ _ _ _ _=V at b0|-;clear r hC;generalize j9 _ _ _ _ _ _ _=G at H J b0;unfold ZL;go_in;go_upto_region 2 with(first|(go_at_call 191;refine Z0 (H _) λw1 b4=>?_)|(refine ql Vb _ R w R b2 d.a ?_));have k:=l.next b4;clear l b4 d H m0 m1 m2;obtain⟨m0,m1,m2⟩:=k.cells;have d:=X (vF k.pa);cases G
 .have b3:=X k.gr;go_wp2;go_ret;exact⟨by rw[b0.a];rfl,b3⟩
 .go_upto_region 5 with(first|(go_at_call 106;refine(M _).mono ?_;rintro e j ⟨Q,rfl,b1,P⟩;have o:=b1.size;have b5:=qx b1)|(refine ZU R 70 _ _ R j Q R R 70 b_ Zv (by rw[o];exact q9) (by rw[o];rfl) b5 ?_)|(refine ql Vb _ R w R b2 d.a ?_));show n_ _ _ _ _ ((j.alloc (Z b_ 70)).setRow j Q);have F:Gr j ((j.alloc (Z b_ 70)).setRow j Q):=ZN.setRow _ Zy _;have n:((j.alloc (Z b_ 70)).setRow j Q).heap[j.heap.size]?=Z Q 70:=Zt (Z7 j _);have m:=(k.next P).next F;generalize ((j.alloc (Z b_ 70)).setRow j Q)=w4 at F n m|-;generalize j.heap.size=B at n|-;obtain⟨y,a5,hy⟩:=J x_;obtain⟨qs,qA⟩:=FN b1;have a0:Y (∀W:I6,ZL 193 #[(Q.toList.take 64).toArray,xK wh] W y):=λW=>by rw[<-hy];exact qzo _ _ qA wh W
  obtain⟨av,E⟩:=Zn (zM (ua z wh fc b f t u) (y:Int) (!wh));have b7:Y (∀W:I6,ZL 192 #[(Q.toList.take 64).toArray,y,xK (!wh)] W av):=λW=>by rw[<-E.a];exact ju _ _ qs qA (y:Int) O O (!wh) W
  have b6:Y (V=!av):=(by rw[b0.a,hy,E.a];rfl);have a4:Y (a_ L (-(xK wh))=xK (!wh)):=X Vn;have b3:=X m.gr;have i:Lg w w4 PA B Q w4.drew:=⟨(vF m.pa).gr ZO.drew,(vF n).gr ZO.drew,ZO.drew⟩;clear m k P F n M J b0 d m0 m1 m2 qs qA b1 b5 E hy;refine ZT (S:=Lg w w4 PA B Q) WR i (λa=>?_);clear i;apply tq 0 _ a;apply ty 1 ((Q.toList.take 64).toArray) R (DB o Vb _ R B R (λ_ h=>h.q)) a;apply tq 2 _ a;apply ty 3 ((Q.toList.take 64).toArray) R (DB o Vb _ R B R (λ_ h=>h.q)) a;apply ty 4 PA R (zy b2 Vb _ R w R (λ_ h=>h.pa)) a;apply ty 7 PA R (zy b2 Vb _ R w R (λ_ h=>h.pa)) a;refine rd 5 λK hK=>?_;go_simp;refine Z0 (T _) λa6 p=>?_;refine hK.out _ _ (a.next p) λa=>?_;clear hK K p;try simp only[py]
  refine rd 6 λK hK=>?_;go_simp;refine Z0 (a0 _) λa7 x=>?_;refine hK.out _ _ (a.next x) λa=>?_;clear hK K x;try simp only[py]
  refine rd 8 λK hK=>?_;go_simp;refine Z0 (T _) λa8 A=>?_;refine hK.out _ _ (a.next A) λa=>?_;clear hK K A;try simp only[py]
  refine ZB 9 (I L (xK (!wh))) R (λw _=>by go_simp;exact a4) a ?_;refine rd 10 λK hK=>?_;go_simp;refine Z0 (b7 _) λa9 D=>?_;refine hK.out _ _ (a.next D) λa=>?_;clear hK K D;try simp only[py]
  refine rd 11 λK hK=>?_;go_simp;refine hK.out _ _ a λa=>?_;clear hK K;try simp only[py]
  refine ZZ WR ?_ _;have a3:=X (o_ b3 a.gr);clear a;go_wp2;go_ret;exact⟨by rw[b6.a];rfl,a3⟩
def Eb:(c_.info? 125).map (λi=>(i.zero,i.size,i.bytes))=S (S (Zc #[I L 0,I L 0,I Zg 0]),3,24):=WR
def np(base:Nat)(v:I7)(xs:List Mv)(w:I6):Prop:=w.ownsRow base 125 3 v xs.length (vO xs)
def mW{l:List Mv}(h:np base v l w):∀k,v.ownBlock=S k->base<=k:=by exact No
def C2{q:Nat}(a:q<5):U5.getD q 0∈U5/\U5.take (q+1)=U5.take q++[U5.getD q 0]:=by have:q=0\/q=1\/q=2\/q=3\/q=4:=O;rcases this with rfl|rfl|rfl|rfl|rfl<;>decide
def cu(z:I2)(wh:Bool)(fc:I5)(b:Int)(f t n:Nat):(kr z wh fc b f t n).length<=5:=by rw[kr,YD];apply q7 (Y8 _ _);rw[Xt];exact q7 (Nat.min_le_right _ _) (qL 5)
theorem du{α β:Type}(F:α->List β)(c:Nat)(h:∀a,(F a).length<=c):∀l:List α,(l.flatMap F).length<=l.length*c
 | []=>by simp
 | a::r=>by
  rw[List.flatMap_cons,qZ,Yq,Nat.add_mul];have:=du F c h r;have:=h a;omega
def iV(z:I2)(wh:Bool)(fc:I5)(b:Int)(f n:Nat):(eH z wh fc b f n).length<=n*5:=by have:=du (λk=>kr z wh fc b f (pQ k) (ED z f (pQ k))) 5 (λk=>cu z wh fc b f _ _) (h_ n);rw[List.length_range]at this;exact this
def iW(z:I2)(wh:Bool)(fc:I5)(b:Int)(n:Nat):(yE z wh fc b n).length<=n*320:=by
 have:=du (λi=>if vB (z (pQ i))=xK wh then eH z wh fc b (pQ i) 64 else[]) 320 (λi=>by
  split
  .exact q7 (iV z wh fc b _ 64) O
  simp) (h_ n)
 rw[List.length_range]at this;exact this
def se(t:Nat):zO t=(((t:Int)/8==0)||((t:Int)/8==7)):=by grind[zO,qJ,qE,qM]
def qvh{β:Type}(F:Nat->List β)(n:Nat):(h_ (n+1)).flatMap F=(h_ n).flatMap F++F n:=by rw[YI,Xj];simp
def ln(z:I2)(wh:Bool)(fc:I5)(b:Int)(f t q:Nat)(a:q<5):kr z wh fc b f t (q+1)=kr z wh fc b f t q++(if vo z wh fc b f t (U5.getD q 0)then[(f,t,U5.getD q 0)]else[]):=by
 rw[kr,(C2 a).2,YJ,Ys];congr 1;by_cases h:vo z wh fc b f t (U5.getD q 0)=Zk
 .rw[List.filter_cons_of_pos h,qI h];rfl
 rw[List.filter_cons_of_neg h,qF h];rfl
def ai{g:Int}(r:jE z wh fc b h g PA)(hC:kJ z wh fc b)(g4:-1<=b)(g5:b<=63)(h0:0<=h)(h1:h<=65535)(g0:0<=g)(g1:g<=65535)(w:I6):i_ c_ 54 #[PA] w λe w'=>∃v,e=Zd v/\np w v (yY z wh fc b) w'/\Gr w w':=by
 obtain⟨i0,hi,h5,h6,h7⟩:=We Eb;have g8:=X hi;clear hi;have hz:=r.size;have a9:=X (λW=>Dv r W);have l2:=X r.sq;have a3:=X (λ(n:Nat) W=>za (z n) W);have a6:=X (λ(n:Nat) W=>zp (z n) W);have a7:=X (λ(f t:Nat)(B:f<64)(ht:t<64)(u:UInt8)(hu:u∈U5) W=>qjj r hC g4 g5 h0 h1 g0 g1 f t B ht u hu W);have a2:Y ((w.alloc (Z PA 70)).heap[w.heap.size]?=Z PA 70/\w<(w.alloc (Z PA 70)).heap.size):=X ⟨Zv,Vj⟩;have b6:Y (Gr w (w.alloc (Z PA 70))):=X ZN;clear r hC;go_in;go_upto_region 2 with fail;generalize g2:w.alloc (Z PA 70)=J at a2 b6|-;have d2:Y (∀W,Gr J W->W.heap[w.heap.size]?=Z PA 70):=X (λW g=>(Zz g a2.a.2).trans a2.a.1);clear g2 a2;go_wp2;go_loopg [3,4] 64 (λgm v i wr=>∃d:Nat,d+gm=64/\i=d/\np J v (yE z wh fc b d) wr/\Gr J wr)
 case atStart=>exact⟨0,O,R,⟨R,Zi ⟨R,R⟩⟩,ZO⟩
 case round=>
  obtain⟨d,d1,rfl,q,o⟩:=hrel;have a:=X q;have k:=X o;clear q o;obtain⟨d3,d4⟩:∃x,x=gk:=⟨_,R⟩;subst d4;by_cases hd:d<64
  .obtain⟨f,a4⟩:∃f,Y (f=pQ d):=⟨_,X R⟩;have B:f<64:=(by rw[a4.a];exact E8 d hd);have e1:a_ L ((d:Int)%8*8)=(d:Int)%8*8:=Vc;have e2:a_ L ((d:Int)%8*8+(d:Int)/8)=(f:Int):=(by have:=a4.a;unfold pQ at this;rw[YO];omega);have f0:0<=(f:Int):=O;have f1:(f:Int)<64:=O;obtain⟨CB,l3⟩:=Zn (vB (z f)!=xK wh);have g6:(vB (z f)!=xK wh)=CB:=l3.a;go_upto_region 6 with fail;have E:zJ w PA wr.drew/\Gr J wr.drew:=⟨(vF (d2.a _ k.a)).gr ZO.drew,k.a.drew⟩;refine ZT (S:=λW=>zJ w PA W/\Gr wr W) WR ⟨E.1,ZO.drew⟩ (λG=>?_);clear E;refine ZB 0 f R (λw hw=>VX) G ?_;refine ZB 1 (ZI w) R (λw hw=>VX) G ?_;refine ZB 2 (.pointer (S ⟨w,f,N⟩)) R (λw hw=>VX) G ?_;refine ZB 3 (I Zg (z f).toNat) R (λw hw=>VX) G ?_;refine ty 5 PA R (zy hz Vb _ R w R (λ_ h=>h.1)) G ?_;refine rd 4 λK hK=>?_;go_simp;refine Z0 (a3.a f _) λwa l=>?_;subst l;refine hK.out _ _ G λG=>?_;clear hK K;try simp only[py]
   refine rd 6 λK hK=>?_;go_simp;refine Z0 (a9.a _) λwb c5=>?_;refine hK.out _ _ ⟨G.1.gr c5,o_ G.2 c5⟩ (λG=>?_);clear hK K c5;try simp only[py]
   refine tq 7 CB G ?_;refine ZZ WR ?_ _;have c4:=X (o_ k.a G.2);have A:=X (dU a.a G.2);clear G a k g6;have b1:Y (yE z wh fc b (d+1)=yE z wh fc b d++(if vB (z f)=xK wh then eH z wh fc b f 64 else[])):=X (by unfold yE;rw[qvh,a4.a]);clear a4 e1 e2;cases CB
   .have l4:vB (z f)=xK wh:=(by simpa using l3.a);have m0:Y (yE z wh fc b (d+1)=yE z wh fc b d++eH z wh fc b f 64):=X (by rw[b1.a,qI l4]);clear b1 l4 l3;obtain⟨p,hX⟩:=Zn (yE z wh fc b d);have k5:p.length<=d*320:=(by rw[<-hX.a];exact iW z wh fc b d);rw[hX.a]at A m0;clear hX;go_wp2;go_loopg [3,6] 64 (λgm v kk wr=>∃e:Nat,e+gm=64/\kk=e/\np J v (p++eH z wh fc b f e) wr/\Gr J wr)
    case atStart=>exact⟨0,O,R,by rw[show eH z wh fc b f 0=[]from R,Yh];exact A.a,c4.a⟩
    case round=>
     clear A c4;obtain⟨e,k1,rfl,q,o⟩:=hrel;have a:=X q;have k:=X o;clear q o;obtain⟨f9,d5⟩:∃x,x=gk:=⟨_,R⟩;subst d5;by_cases he:e<64
     .obtain⟨t,a8⟩:∃t,Y (t=pQ e):=⟨_,X R⟩;have ht:t<64:=(by rw[a8.a];exact E8 e he);have e1:a_ L ((e:Int)%8*8)=(e:Int)%8*8:=Vc;have e2:a_ L ((e:Int)%8*8+(e:Int)/8)=(t:Int):=(by have:=a8.a;unfold pQ at this;rw[YO];omega);obtain⟨V,M⟩:=Zn (ED z f t);have k3:V<=5:=(by rw[<-M.a];unfold ED;split<;>omega);have T:Y (eH z wh fc b f (e+1)=eH z wh fc b f e++kr z wh fc b f t V):=X (by unfold eH;rw[qvh,<-M.a,a8.a]);obtain⟨l1,hY⟩:=Zn (eH z wh fc b f e);have k8:l1.length<=e*5:=(by rw[<-hY.a];exact iV z wh fc b f e);rw[hY.a]at a T;clear hY a8;obtain⟨MB,m⟩:=Zn (Zm (vE (z f)=0)&&zO t);have cf:wr.cell? ⟨w,f,N⟩=I Zg (z f).toNat:=(by rw[qn (d2.a _ k.a)];exact l2.a f B);obtain⟨KD,a0⟩:=Zn (vE (z f));have P:=X (a6.a f);rw[a0.a]at P m;have Q:Y (zO t=(((t:Int)/8==0)||((t:Int)/8==7))):=X (se t);go_upto_region 12 with fail;clear e1 e2;go_cut [55]from 30 to 73 (λk2 wx=>k2=MB/\wx=wr)
      case first=>
       obtain⟨y1,q1⟩:=Zo ((t:Int)/8==0);obtain⟨y2,q2⟩:=Zo ((t:Int)/8==7);rw[q1,q2]at Q;by_cases k0:KD=0
       .have h2:(KD==0)=Zk:=YF.2 k0;have D:Y (MB=(y1||y2)):=X (by rw[<-m.a,qJ k0,Q.a,Xc]);clear k0 m Q a7 a3 a9 a6;cases y1
        .go_wp2_with(go_at_call 107;refine Z1 (P.a _) ?_);exact Iw
        .go_wp2_with(go_at_call 107;refine Z1 (P.a _) ?_);exact Iw
       .have h2:(KD==0)=Zl:=(by rw[qM];exact k0);have D:Y (MB=Zl):=X (by rw[<-m.a,qE k0];rfl);clear k0 m Q a7 a3 a9 a6;go_wp2_with(go_at_call 107;refine Z1 (P.a _) ?_);go_meet
        case rel=>exact⟨by rw[D.a],R⟩
      case rest=>
       obtain⟨rfl,l⟩:=hcut;subst l;clear cf P Q;go_upto_if 55 with fail;go_cut [8]from 56 to 73 (λs8 wx=>s8=V/\wx=wc)
       case first=>
        cases MB
        .have D:Y (V=1):=X (by
          rw[<-M.a];unfold ED;rw[a0.a,qF];rintro⟨h8,h9⟩;have:=m.a;rw[qJ h8,h9]at this;cases this)
         go_wp2;exact Iw
        .have D:Y (V=5):=X (by
          rw[<-M.a];unfold ED;rw[a0.a,qI];have:=m.a;rw[qH,qG]at this;exact this)
         go_wp2;exact Iw
       case rest=>
        obtain⟨rfl,l⟩:=hcut;subst l;clear m M a0;go_wp2;go_loopg [3,9] V (λgm v qq wr=>∃n:Nat,n+gm=V/\qq=n/\np J v (p++l1++kr z wh fc b f t n) wr/\Gr J wr)
        case atStart=>exact⟨0,O,R,by rw[show kr z wh fc b f t 0=[]from R,Yh];exact a.a,k.a⟩
        case round=>
         clear a k;obtain⟨n,n1,rfl,q,o⟩:=hrel;have a:=X q;have k:=X o;clear q o;by_cases hn:n<V
         .obtain⟨u,b0⟩:∃u,Y (u=U5.getD n 0):=⟨_,X R⟩;have h4:u∈U5:=(by rw[b0.a];exact(C2 O).1);obtain⟨LG,b4⟩:=Zn (vo z wh fc b f t u);have F:Y (kr z wh fc b f t (n+1)=kr z wh fc b f t n++(if LG then[(f,t,u)]else[])):=X (by rw[ln z wh fc b f t n O,<-b4.a,b0.a]);have f3:Y (∀W,ZL 105 #[PA,ZJ f t u] W LG):=X (λW=>by rw[<-b4.a];exact a7.a f t B ht u h4 W);have g9:∀W:I6,(l_ 9 (Zb ⟨#[0,98,110,113,114]⟩) n).run c_ W=.ok (I Zg u.toNat) W:=by have h3:n=0\/n=1\/n=2\/n=3\/n=4:=O;have hh:=b0.a;intro W;rcases h3 with rfl|rfl|rfl|rfl|rfl<;>(rw[hh];rfl)
          have nl:(n:Int)<V:=O;have g3:(kr z wh fc b f t n).length<=5:=cu z wh fc b f t n;obtain⟨m1,hZ⟩:=Zn (kr z wh fc b f t n);rw[hZ.a]at a F g3;clear b0 b4 hZ;have a5:Y (Gr wr (wr.alloc (Z (ZJ f t u) 125))):=X ZN;go_upto_region 18 with fail;show n_ _ _ _ _ (wr.alloc (Z (ZJ f t u) 125));have D:=ZQ wr (Z (ZJ f t u) 125);generalize (wr.alloc (Z (ZJ f t u) 125))=wm at a5 D|-;generalize wr.heap.size=Bm at D|-;have y0:wm.cell? Bm=I L f:=(by rw[qn D];rfl);have y1:wm.cell? ⟨Bm,1,N⟩=I L t:=(by rw[qn D];rfl);have y2:wm.cell? ⟨Bm,2,N⟩=I Zg u.toNat:=(by rw[qn D];rfl);have a1:Bm<wm:=Zx y0;have l5:=X (o_ k.a a5.a);have b3:=X (vF (d2.a _ l5.a));clear D g9 a7 a3 a6 a9 l2;go_upto_if 69 with(first|(go_at_call 105;refine Z0 (f3.a _) λw2 H=>?_)|(refine ql Vb _ R w R hz b3.a ?_));have b7:=o_ l5.a H;have y:=X (dU a.a (o_ a5.a H));have y0:=(ZW H (p:=Bm) a1).trans y0;have y1:=(ZW H (p:=⟨Bm,1,N⟩) a1).trans y1;have y2:=(ZW H (p:=⟨Bm,2,N⟩) a1).trans y2;have l0:=ZR b7;have b2:=X b7;clear H a5 l5 k a b3 f3 a1 b7;cases LG
          .have f4:Y (np J u3 (p++l1++kr z wh fc b f t (n+1)) w2):=X (by rw[F.a,qF WU,Yh];exact y.a);clear y;go_wp2;go_roundg (gk-1)
           case measure=>omega
           case rel=>exact⟨n+1,O,Vg,f4.a,b2.a⟩
          .have g7:∀j u',[I L (f:Int),I L t,I Zg u.toNat][j]?=S u'->(w2.alloc (Z (ZJ f t u) 125)).cell? ((⟨w2,0,N⟩:Addr).add j)=S u':=λj u' hu=>(by rw[X2,Z2,Z8 _ _ _ _ R,<-qO];exact hu);have f2:(p++l1++m1).length<=20805:=(by rw[qZ,qZ];omega);obtain⟨XX,b5⟩:=Zn (p++l1++m1);rw[b5.a]at y f2;have f8:Y (p++l1++kr z wh fc b f t (n+1)=XX++[(f,t,u)]):=X (by rw[F.a,qI R,<-qS,b5.a]);clear F b5;go_wp2_with(at_builtin;refine Xv _ R (.tmp 70) (.tmp 72) 131 rfl J 125 i0 (Zc #[I L 0,I L 0,I Zg 0]) 3 24 underlying131 g8.a h5 h6 h7 R WW u3 XX.length (vO XX) R (y.a.alloc _) ⟨w2,0,N⟩ 1 1 [I L f,I L t,I Zg u.toNat] R R g7 Vi Vk O WX ?_;intro v' w3 d0 c6 k4);go_roundg (gk-1)
           case measure=>omega
           case rel=>
            refine⟨n+1,O,Vg,?_,?_⟩
            .unfold np;rw[f8.a,pt,qZ];exact d0
            .exact(b2.a.alloc _ _).grown c6 WX (mW y.a)
         .have en:n=V:=O;subst en;have f6:Y (np J u3 (p++eH z wh fc b f (e+1)) wr):=X (by rw[T.a,<-qS];exact a.a);have k9:¬((n:Int)<n):=O;clear a T;go_wp2;go_roundg (f9-1)
          case measure=>omega
          case rel=>exact⟨e+1,O,Vg,f6.a,k.a⟩
     .have ee:e=64:=O;subst ee;have f7:Y (np J u3 (yE z wh fc b (d+1)) wr):=X (by rw[m0.a];exact a.a);clear a m0;go_wp2;go_roundg (d3-1)
      case measure=>omega
      case rel=>exact⟨d+1,O,Vg,f7.a,k.a⟩
   .have l4:¬vB (z f)=xK wh:=(by simpa using l3.a);have f5:Y (np J u3 (yE z wh fc b (d+1)) wb):=X (by rw[b1.a,qF l4,Yh];exact A.a);clear l4 l3 b1 A;go_wp2;go_roundg (d3-1)
    case measure=>omega
    case rel=>exact⟨d+1,O,Vg,f5.a,c4.a⟩
  .have ed:d=64:=O;subst ed;go_wp2;go_ret;exact⟨u3,R,qxn a.a (ZR b6.a),o_ b6.a k.a⟩
def bt{a:List Mv}(h:np base v a w):∃p cap,v=Zq p a.length cap/\a.length<=cap/\∀i (e:i<a.length),∃g,p=S ⟨g,0,N⟩/\w.cell? ⟨g,i*3,N⟩=(a[i].1:Int)/\w.cell? ⟨g,i*3+1,N⟩=(a[i].2.1:Int)/\w.cell? ⟨g,i*3+2,N⟩=I Zg (a[i].2.2.toNat:Int):=by
 obtain⟨rfl,j⟩|⟨g,cap,cur,rfl,q,m,o,u,l,d⟩:=h.2
 .have f:=j;exact⟨N,0,by rw[f],O,λi n=>w_ n O⟩
 refine⟨_,_,R,o,λi e=>⟨g,R,?_⟩⟩;have b:∀c,c<3->w.cell? ⟨g,i*3+c,N⟩=(pU a[i]).toList[c]?:=λc r=>by have k:i*3+c<a.length*3:=O;simp only[World.cell?];rw[m];show cur[i*3+c]?=_;rw[<-qO,<-Xi k,d,ut,show(i*3+c)/3=i from O,show(i*3+c)%3=c from O,Yf e];rfl
 exact⟨b 0 WW,b 1 WW,b 2 WW⟩
def ou(m:Int)(w:I6)(M:Ct m w)(a2:uV w):ZL 12 #[] w Zk:=by
 have D:∀n:Int,(n=1\/n=2)->∀W,Gr w W->i_ c_ 15 #[yT,n] W λe w'=>DQ kW 0 e w'/\Gr W w':=λn Q W E=>fK n Q m W (M.gr E) (a2.gr E);have G:∀(p1 p2:Option Addr)(c1 c2:Nat)(W:I6),El p1 kW W->El p2 kW W->ZL 27 #[Zq p1 kW.length c1,Zq p2 5 c2] W Zk:=λp1 p2 c1 c2 W a b=>qka kW WW p1 p2 c1 c2 W a b;unfold ZL;go_in;generalize a1:(⟨#[52,107,51,47,56,47,56,47,56,47,56,47,56,47,56,47,52,75,51,32,119,32,45,32,45,32,48,32,49]⟩:I4)=F;rw[show yT=F from a1]at D;go_upto_region 2 with(go_at_call 15;refine(D 1 (Zi R) _ ZO).mono ?_;rintro e w1 ⟨⟨p1,J,rfl,H,l⟩,x⟩);have g:El p1 kW w1:=l;go_upto_region 3 with(go_at_call 15;refine(D 2 (Zj R) _ x).mono ?_;rintro e v ⟨⟨p2,K,rfl,a5,o⟩,y⟩);have q:=o_ x y;have f:=g.gr y;have h:El p2 kW v:=o;go_upto_region 4 with fail;have a0:=ZQ v (Z #[Zb ⟨#[101,49,100,49]⟩,Zb ⟨#[101,49,100,50]⟩,Zb ⟨#[101,49,101,50]⟩,Zb ⟨#[101,49,102,49]⟩,Zb ⟨#[101,49,102,50]⟩] 9);have j:=(q_ v).alloc #[Zb ⟨#[101,49,100,49]⟩,Zb ⟨#[101,49,100,50]⟩,Zb ⟨#[101,49,101,50]⟩,Zb ⟨#[101,49,102,49]⟩,Zb ⟨#[101,49,102,50]⟩] 9;show n_ _ _ _ _ (v.alloc (Z #[Zb ⟨#[101,49,100,49]⟩,Zb ⟨#[101,49,100,50]⟩,Zb ⟨#[101,49,101,50]⟩,Zb ⟨#[101,49,102,49]⟩,Zb ⟨#[101,49,102,50]⟩] 9));have d:El (S ⟨v,0,N⟩) kW (v.alloc (Z #[Zb ⟨#[101,49,100,49]⟩,Zb ⟨#[101,49,100,50]⟩,Zb ⟨#[101,49,101,50]⟩,Zb ⟨#[101,49,102,49]⟩,Zb ⟨#[101,49,102,50]⟩] 9)):=λi P=>⟨_,R,by
  rw[qn a0];have a6:i<5:=P;have:i=0\/i=1\/i=2\/i=3\/i=4:=O
  rcases this with rfl|rfl|rfl|rfl|rfl<;>rfl⟩
 generalize v.alloc _=T at j d|-;generalize v.heap.size=a3 at d|-;have r:=o_ q j;have z:=f.gr j;have A:=h.gr j;go_upto_region 5 with(go_at_call 27;refine Z0 (G _ _ _ _ _ z d) λV k=>?_);have u:=o_ r k;have B:=A.gr k;have p:=d.gr k;go_upto_region 6 with(go_at_call 27;refine Z0 (G _ _ _ _ _ B p) λa4 C=>?_);have E:=o_ u C;go_wp2;go_ret;exact⟨R,E⟩
def dN(s:I4)(w:I6):ZL 118 #[s] w (Ze #[I Zg ((aw s).1.toNat:Int),(aw s).2]):=by
 by_cases h:0<s.size
 .have a:(aw s)=(s[0],Zm (0<=e_ uf s[0])):=by rw[aw,Wf h]
  have d:(s.toList==[])=Zl:=by
   rw[qM];intro e;have:s.toList.length=0:=Tg;have i:s.toList.length=s.size:=(by rw[Xl];exact ZX);omega
  rw[a];have b:=λW=>Tryz.strings_IndexByte ⟨#[113,114,98,110]⟩ (s[0].toNat:Int) W;have g:(0:Int)<(s.size:Int):=O;unfold ZL;go_in;go_upto_region 3 with fail;go_quiet((go_at_call 200;exact YT (b _)));all_goals
   go_wp2;go_ret2;exact⟨R,r_ (q_ w) _⟩
 have a:(aw s)=(0,Zk):=by rw[aw,dif_neg h]
 rw[a];have f:s=⟨#[]⟩:=by have:s.size=0:=O;exact ByteArray.size_eq_zero_iff.1 this
 subst f;unfold ZL;go_in;go_wp2;go_ret2;exact⟨R,ZO⟩
def z8(x:Nat×Nat×UInt8):I0:=#[I L (x.1:Int),I L (x.2.1:Int),I Zg (x.2.2.toNat:Int)]
def yy(s:I4):I7:=match yn s with
 | some x=>Ze #[Zc (z8 x),Za Zk]
 | none=>Ze #[Zc (z8 (0,0,0)),Za Zl]
def E7(s:I4):Int×Bool:=match uX s with|some n=>((n:Int),Zk)|none=>(0,Zl)
def xW:(c_.info? 87).map (·.size)=S 3:=WR
def eM(s:I4)(w:I6):ZL 117 #[s] w (Ze #[(E7 s).1,(E7 s).2]):=by
 unfold E7;cases h:uX s with
 | none=>exact(pl s h w).mono λe w' q=>⟨q.1,by rw[q.2];exact ZO⟩
 | some n=>exact qz7 s n h w
def mX(s:I4)(a5:s.size<4294967281)(w:I6):ZL 56 #[s] w (yy s):=by
 have g:=X ((q_ w).alloc #[I L 0,I L 0,I Zg 0] 87);have j:=X (λx W=>eM x W);have q:=X (λx W=>dN x W);by_cases d:s.size=4\/s.size=5
 .obtain⟨V,D⟩:=Zn (yy s);rw[D.a];have P:(4:Int)<=(s.size:Int)/\(s.size:Int)<=5:=O;obtain⟨a6,l5⟩:=P;unfold ZL;go_in;obtain⟨r,l⟩:=Zn (E7 (s.extract 0 2));obtain⟨u,m⟩:=Zn (E7 (s.extract 2 4));obtain⟨y,n⟩:=Zn (aw (s.extract 4 s.size));have b:Y (V=if r.2&&u.2&&y.2 then Ze #[Zc #[r.1,u.1,I Zg (y.1.toNat:Int)],Zk]else Ze #[Zc #[I L 0,I L 0,I Zg 0],Zl]):=X (by
   rw[<-D.a,<-l.a,<-m.a,<-n.a];unfold yy yn E7;rw[qI d];cases uX (s.extract 0 2)with
   | none=>rfl
   | some f=>
    cases uX (s.extract 2 4)with
    | none=>rfl
    | some t=>
     simp only;cases (aw (s.extract 4 s.size)).2<;>rfl)
  have G:Y (∀W,ZL 117 #[s.extract 0 2] W (Ze #[r.1,r.2])):=X (λW=>by rw[<-l.a];exact j _ W);have H:Y (∀W,ZL 117 #[s.extract 2 4] W (Ze #[u.1,u.2])):=X (λW=>by rw[<-m.a];exact j _ W);have C:Y (∀W,ZL 118 #[s.extract 4 s.size] W (Ze #[I Zg (y.1.toNat:Int),y.2])):=X (λW=>by rw[<-n.a];exact q _ W);have o:=X (Z7 w (Z #[I L 0,I L 0,I Zg 0] 87));have p:Y (w<(w.alloc (Z #[I L 0,I L 0,I Zg 0] 87)).heap.size):=X Vj;have a:=d;obtain⟨J,M⟩:=r;obtain⟨K,a4⟩:=u;obtain⟨a2,e⟩:=y;simp only at b G H C;generalize ((a2.toNat:Nat):Int)=u3 at b C;go_upto_region 1 with fail;generalize w.alloc _=a3 at g o p|-;go_cut [17]from 10 (λa1 a0=>a1=Zl/\a0=a3)
  .obtain h|h:=a
   .have v:((s.size:Int)!=4)=Zl:=Us;exact OZ
   have v:((s.size:Int)!=4)=Zk:=Us;have n2:((s.size:Int)!=5)=Zl:=Us;exact OZ
  obtain⟨rfl,F⟩:=hcut;subst F;go_upto_region 3 with fail;go_upto_region 4 with(go_at_call 117;refine Z0 (G _) λw1 z=>?_);go_upto_region 5 with(go_at_call 117;refine Z0 (H _) λw2 A=>?_);go_upto_region 6 with(go_at_call 118;refine Z0 (C _) λT B=>?_);have E:=o_ z (o_ A B);have k:=(Zz E p).trans o;have i:=X (o_ g E);cases M
  .exact WI
  cases a4
  .exact WI
  cases e
  .exact WI
  go_wp2_with(refine ZU R 87 _ _ R w #[J,K,I Zg u3] R R 87 #[I L 0,I L 0,I Zg 0] k xW R Vi ?_);exact ZS (v:=Ze #[Zc #[J,K,I Zg u3],Zk]) (qj results56 _ _ w 87 _ (0,0) _ R (Zt k) underlying87 rfl xW) R ⟨Tc,i.setRow _ Zy _⟩
 have Q:yy s=Ze #[z8 (0,0,0),Zl]:=by unfold yy yn;rw[qF d]
 rw[Q];have n4:((s.size:Int)!=4)=Zk:=V3;have n5:((s.size:Int)!=5)=Zk:=V3;unfold ZL;go_in;go_wp2;exact ZS (v:=Ze #[Zc #[I L 0,I L 0,I Zg 0],Zl]) (qj results56 _ _ w 87 _ (0,0) _ R (Z7 w _) underlying87 rfl xW) R ⟨R,g⟩
