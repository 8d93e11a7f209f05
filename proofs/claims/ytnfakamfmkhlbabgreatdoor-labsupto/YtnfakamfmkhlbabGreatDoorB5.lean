import Derived.Test.YtnfakamfmkhlbabGreatDoorB4
set_option maxRecDepth 100000
set_option maxHeartbeats 4000000
set_option linter.all false
open Go.Value renaming int->I,bool->Za,string->Zb,agg->Zc,tuple->Ze,slice->Zq
open Go.IntKind renaming i64->L,u8->Zg,u64->Zh
open Go.Obj renaming cells->Z
open Go.Ending renaming returned->Zd
open Or renaming inl->Zi,inr->Zj
open Option renaming some->S,none->N
open Bool renaming true->Zk,false->Zl
open Decidable renaming decide->Zm
open Go.RowKit renaming Hid->Y
open Go renaming World->I6,Value->I7
namespace Go.Proofs.YtnfakamfmkhlbabGreatDoor.C
open Go.ChangeShapes Go.WideShapes Go.ChangeAt Go.RowKit Go.Shelf Go.Proofs.YtnfakamfmkhlbabGreatDoor.P Tryz
attribute [local go_sem] qd qe Oper.semAt_some
variable {z:I2}{wh:Bool}{b h m:Int}{PA A M:I0}{fc:I5}{w W a w' w1 V:I6}{f n i k g base d e l j x B Bp:Nat}{v:I7}{u:UInt8}{Q:Nat->Obj->Prop}{rs:I3}{y:I1}
def zJ(b:Nat)(A:I0)(w:I6):Prop:=b<w.heap.size/\w.rangeAt b 0 A.toList
theorem zJ.gr{b:Nat}(h:zJ b A w)(g:Gr w w'):zJ b A w' :=
 ⟨qN h.1 (ZR g),λj v a=>(ZW g (p:=⟨b,0+j,N⟩) h.1).trans (h.2 j v a)⟩
theorem jJ:(prog.info? 70).map (·.size)=S 72:=WR
theorem ql{e:Array Oper}{d:List Oper}{o:Oper}{a:Act}{Q:Exit->Act->I6->Prop}(i:Region.wanted o (yielded e a.tmps)=Zk)(x:Operand)(g:o.op=.load 70 x)(b:Nat)(j:a.eval x=ZI b)(k:A.size=72)(f:zJ b A w)
 (h:wpList prog e Q d (a.put o.dst (Zc A)) w):wpList prog e Q (o :: d) a w :=
 wpList_step λK hK=>by rw[qI i];refine wp_load_mid (P:=prog) 70 x g b 0 j A.toList _ f.2 underlying70 rfl (by rw[jJ];simp[k]) ?_;rw[Yb];exact hK _ _ h
structure Sp(w:I6)(PA:I0)(bM:Nat)(M:I0)(wh:Bool)(cur:I6):Prop where
 row:zJ w.heap.size PA cur
 wh:cur.cell? ⟨w.heap.size,64,N⟩=S (Za wh)
 men:vh bM M cur
 tab:jF cur
 homes:vJ cur
 gr:Gr w cur
theorem Sp.next{cur:I6}{bM:Nat}(h:Sp w PA bM M wh cur)(g:Gr cur a):Sp w PA bM M wh a :=
 ⟨h.row.gr g,(ZW g (p:=⟨w.heap.size,64,N⟩) h.row.1).trans h.wh,h.men.gr g,h.tab.gr g,h.homes.gr g,Gr.trans h.gr g⟩
def cK(z:I2)(wh:Bool)(f:I5)(b h g:Int)(m:I8):Bool:=vM m Zk&&vM m Zl&&jH z f&&xX z wh b&&zP h g&&!(kD m wh)
def k6(z:I2)(wh:Bool)(f:I5)(b h g:Int):Bool:=xO z&&cK z wh f b h g (xD z 64)
theorem db{B:I0}(a:xO z=Zk)(j:B.size=64)(f:∀i,i<64->B[i]?=S (I Zg (z i).toNat))(w:I6):Calls prog 126 #[Zc B] w λe w'=>∃M,e=Zd (Ze #[Zc M,Za Zk])/\jS (xD z 64) M/\Gr w w' :=
 (lE z B j f w).mono λe w' h=>by obtain⟨⟨M,b,_,d⟩,g⟩:=h;rw[a]at b;exact⟨M,b,d a,g⟩
theorem EJ{B:I0}(a:xO z=Zl)(j:B.size=64)(d:∀i,i<64->B[i]?=S (I Zg (z i).toNat))(w:I6):Calls prog 126 #[Zc B] w λe w'=>∃M m,e=Zd (Ze #[Zc M,Za Zl])/\jS m M/\Gr w w' :=
 (lE z B j d w).mono λe w' h=>by obtain⟨⟨M,b,⟨m,g⟩,_⟩,f⟩:=h;rw[a]at b;exact⟨M,m,b,g,f⟩
theorem t6{f:I5}{g:Int}(r:jE z wh f b h g PA)(w:I6)(hT:jF w)(hH:vJ w)(V:xO z=Zk):ZL 63 #[Zc PA] w (Za (cK z wh f b h g (xD z 64))):=by
 have D:Gr w (w.alloc (Z PA 70)):=ZN;have hc:∀o,(w.alloc (Z PA 70)).cell? ⟨w.heap.size,o,N⟩=PA[o]?:=λo=>Z8 _ _ _ _ R;have F:zJ w.heap.size PA (w.alloc (Z PA 70)):=⟨Vj,λj v p=>by rw[hc,Z2,<-qO];exact p⟩;have a1:(w.alloc (Z PA 70)).rangeAt w.heap.size 0 (PA.toList.take 64):=λj v p=>by
  rw[hc,Z2,<-qO];rw[Yv]at p;split at p
  .exact p
  .cases p
 have B:(PA.toList.take 64).length=64:=by simp[r.size]
 have hB:∀i,i<64->(PA.toList.take 64).toArray[i]?=S (I Zg (z i).toNat):=λi hi=>by rw[Xu,Yv,qI hi,qO];exact r.sq i hi
 have n:=X (db V (by simpa using B) hB);have H:(w.alloc (Z PA 70)).cell? ⟨w.heap.size,64,N⟩=S (Za wh):=by rw[hc];exact r.wh
 have hz:=r.size;have r':=X r;have Q:=X (hT.gr D);have P:=X (hH.gr D);have E:=X D;have x:=X a1;have y:Y ((prog.info? 67).map (·.size)=S (PA.toList.take 64).length):=X (by rw[B];exact x7);have l:=X F;have G:=X H;clear r hT hH D a1 F hB hc H B V;generalize PA.toList.take 64=a7 at n x y;generalize xD z 64=m at n |-;have k0:Y (∀(a0:Bool)(M:I0)(W:I6),jS m M->jF W->ZL 142 #[Zc M,Za a0] W (Za (vM m a0))):=X λa0 M W h t=>bO m M h a0 W t;have k2:Y (∀W:I6,vJ W->ZL 143 #[Zc PA] W (Za (jH z f))):=X λW t=>tj r'.a W t;have k3:Y (∀W:I6,ZL 144 #[Zc PA] W (Za (xX z wh b))):=X λW=>nS r'.a W;have k4:Y (∀W:I6,ZL 145 #[Zc PA] W (Za (zP h g))):=X λW=>fh r'.a W;have k5:Y (∀(M:I0)(W:I6),jS m M->jF W->ZL 146 #[Zc M,Za wh] W (Za (kD m wh))):=X λM W h t=>mS m M h wh W t;have d:Y (cK z wh f b h g m=(vM m Zk&&vM m Zl&&jH z f&&xX z wh b&&zP h g&&!(kD m wh))):=X R;generalize vM m=qs at k0 d;generalize jH z f=q2 at k2 d;generalize xX z wh b=q3 at k3 d;generalize zP h g=q4 at k4 d;generalize kD m wh=q5 at k5 d;obtain⟨q0,a3⟩:=Zn (qs Zk);obtain⟨q1,a4⟩:=Zn (qs Zl);have a6:Y (cK z wh f b h g m=(q0&&q1&&q2&&q3&&q4&&!q5)):=X (by rw[d.a,a3.a,a4.a]);clear d;go_enter func63,ntmps63;go_upto_region 2 with(first
  | (refine Yo R 67 _ R w.heap.size 0 R a7 _ x.a underlying67 rfl y.a ?_)
  | (go_at_call 126;refine(n.a _).mono ?_;rintro e u ⟨M,rfl,K,a5⟩)
  | (refine ZU R 197 _ _ R u.heap.size M R R 197 _ Zv K.info K.1.symm K.ones ?_))
 generalize J:(u.alloc (Z #[I Zh 0,I Zh 0,I Zh 0,I Zh 0,I Zh 0,I Zh 0,I Zh 0,I Zh 0,I Zh 0,I Zh 0,I Zh 0,I Zh 0] 197)).setRow u.heap.size M=w3;have a2:w3.heap[u.heap.size]?=S (Z M 197):=by rw[<-J];exact Zt (Z7 u _)
 have T:Gr u w3:=by rw[<-J];exact ZN.setRow _ Zy _
 have k:Gr (w.alloc (Z PA 70)) w3:=Gr.trans a5 T;have a:Sp w PA u.heap.size M wh w3:=⟨l.a.gr k,(ZW k (p:=⟨w.heap.size,64,N⟩) l.a.1).trans G.a,jt a2 K.1,Q.a.gr k,P.a.gr k,Gr.trans E.a k⟩;have A:=a.wh;clear J a2 T k a5 n x y l G Q P E r';rcases(show q0=Zl\/q0=Zk/\(q1=Zl\/q1=Zk/\(q2=Zl\/q2=Zk/\(q3=Zl\/q3=Zk/\(q4=Zl\/q4=Zk/\(q5=Zl\/q5=Zk))))) from WU)with rfl|⟨rfl,rfl|⟨rfl,rfl|⟨rfl,rfl|⟨rfl,rfl|⟨rfl,rfl|rfl⟩⟩⟩⟩⟩;all_goals
  go_wp2_with(first
   | (refine qp Vb _ R u.heap.size R (Sp.men (w:=w) (PA:=PA) (wh:=wh) ‹_›) ?_)
   | (refine ql Vb _ R w.heap.size R hz (Sp.row (bM:=u.heap.size) (M:=M) (wh:=wh) ‹_›) ?_)
   | (go_at_call 142;refine Z0 (k0.a _ M _ K (Sp.tab (w:=w) (PA:=PA) (bM:=u.heap.size) (M:=M) (wh:=wh) ‹_›)) λw' C=>?_;(first|rw[a3.a]|rw[a4.a]);have a:=Sp.next ‹_› C;have A:=a.wh)
   | (go_at_call 143;refine Z0 (k2.a _ (Sp.homes (w:=w) (PA:=PA) (bM:=u.heap.size) (M:=M) (wh:=wh) ‹_›)) λw' C=>?_;have a:=Sp.next ‹_› C;have A:=a.wh)
   | (go_at_call 144;refine Z0 (k3.a _) λw' C=>?_;have a:=Sp.next ‹_› C;have A:=a.wh)
   | (go_at_call 145;refine Z0 (k4.a _) λw' C=>?_;have a:=Sp.next ‹_› C;have A:=a.wh)
   | (go_at_call 146;refine Z0 (k5.a M _ K (Sp.tab (w:=w) (PA:=PA) (bM:=u.heap.size) (M:=M) (wh:=wh) ‹_›)) λw' C=>?_;have a:=Sp.next ‹_› C;have A:=a.wh))
  go_ret;exact⟨by rw[a6.a];rfl,a.gr⟩
theorem Eo{f:I5}{g:Int}(r:jE z wh f b h g PA)(w:I6)(A:xO z=Zl):ZL 63 #[Zc PA] w (Za Zl):=by
 have q:Gr w (w.alloc (Z PA 70)):=ZN;have G:∀o,(w.alloc (Z PA 70)).cell? ⟨w.heap.size,o,N⟩=PA[o]?:=λo=>Z8 _ _ _ _ R;have p:(w.alloc (Z PA 70)).rangeAt w.heap.size 0 (PA.toList.take 64):=λj v D=>by
  rw[G,Z2,<-qO];rw[Yv]at D;split at D
  .exact D
  .cases D
 have l:(PA.toList.take 64).length=64:=by simp[r.size]
 have F:∀i,i<64->(PA.toList.take 64).toArray[i]?=S (I Zg (z i).toNat):=λi H=>by rw[Xu,Yv,qI H,qO];exact r.sq i H
 have k:=X (EJ A (by simpa using l) F);have n:=X q;have a:=X p;have d:Y ((prog.info? 67).map (·.size)=S (PA.toList.take 64).length):=X (by rw[l];exact x7);have J:=r.size;clear r q p F G l A;generalize PA.toList.take 64=P at k a d;go_enter func63,ntmps63;go_upto_region 2 with(first
  | (refine Yo R 67 _ R w.heap.size 0 R P _ a.a underlying67 rfl d.a ?_)
  | (go_at_call 126;refine(k.a _).mono ?_;rintro e C ⟨M,m,rfl,E,x⟩)
  | (refine ZU R 197 _ _ R C.heap.size M R R 197 _ Zv E.info E.1.symm E.ones ?_))
 generalize B:(C.alloc (Z #[I Zh 0,I Zh 0,I Zh 0,I Zh 0,I Zh 0,I Zh 0,I Zh 0,I Zh 0,I Zh 0,I Zh 0,I Zh 0,I Zh 0] 197)).setRow C.heap.size M=K;have y:Gr C K:=by rw[<-B];exact ZN.setRow _ Zy _
 have u:Gr w K:=Gr.trans n.a (Gr.trans x y);clear B y x k a d n;go_wp2_with(fail);go_ret;exact⟨R,u⟩
theorem CX{f:I5}{g:Int}(r:jE z wh f b h g PA)(w:I6)(i:jF w)(d:vJ w):ZL 63 #[Zc PA] w (Za (k6 z wh f b h g)):=by
 cases a:xO z
 .refine(Eo r w a).mono λe w' k=>⟨k.1.trans ?_,k.2⟩;rw[k6,a];rfl
 .refine(t6 r w i d a).mono λe w' k=>⟨k.1.trans ?_,k.2⟩;rw[k6,a];rfl
def jB(c:UInt8):Int:=Lib.indexByte xU c
def vE(c:UInt8):Int:=if 6<=jB c then jB c-6 else jB c
def vB(c:UInt8):Int:=if jB c<0 then 0 else if jB c<6 then 1 else -1
def xK(b:Bool):Int:=if b then 1 else -1
def zI(z:I2)(i:Nat):Int:=((z i).toNat:Int)
def zM(z:I2)(y:Int)(b:Bool):Bool:=(List.range 64).any λn=>Zm (vB (z n)=xK b)&&xS (zI z) (vE (z n)).toNat (xK b) (n:Int) y
def vk(b:Bool):UInt8:=if b then 75 else 107
def xR(z:I2)(b:Bool):Int:=match (List.range 64).find? (λn=>z n==vk b)with|some n=>(n:Int)|none=>-1
theorem rn(c:UInt8):-1<=jB c/\jB c<12:=by have:∀n:Fin 256,-1<=jB (UInt8.ofNat n.val)/\jB (UInt8.ofNat n.val)<12:=WS;have:=this ⟨c.toNat,c.toNat_lt⟩;exact OY
def vf(z:I2)(n:Nat):Bool:=!(z n==46)&&(Zm (vE (z n)<0)||(Zm (vE (z n)=0)&&(Zm (n/8=0)||decide (n/8=7))))
def ka(z:I2)(b:Bool)(k:Nat):Nat:=((List.range k).filter λn=>Zm (vB (z n)=xK b)).length
def vZ(z:I2)(b:Bool)(k:Nat):Nat:=((List.range k).filter λn=>Zm (jB (z n)=(bg b+5:Nat))).length
theorem dc(z:Nat->UInt8)(p:Nat):∀k,k<=64->∀n,n<64->(xD z k p).getLsbD n=Zm (n<k/\jB (z n)=(p:Int))
 | 0,_,n,_=>by
  show(0#64).getLsbD n=_;rw[XM];simp
 | k+1,hk,n,hn=>by
  have g:=dc z p k O n hn;show(xD z k p ||| (if Lib.indexByte xU (z k)=(p:Int)then 1#64 <<< k else 0#64)).getLsbD n=_;rw[Yx,g];by_cases e:Lib.indexByte xU (z k)=(p:Int)
  .rw[qI e,ze k O n hn];by_cases d:n=k
   .subst d;have f:jB (z n)=(p:Int):=e;simp[f]
   .have:(n<k+1/\jB (z n)=(p:Int))↔(n<k/\jB (z n)=(p:Int)):=by constructor<;>rintro⟨a,b⟩<;>exact⟨O,b⟩
    simp[d,this]
  .rw[qF e,XM,Bool.or_false]
   have:(n<k+1/\jB (z n)=(p:Int))↔(n<k/\jB (z n)=(p:Int)):=by
    constructor
    .rintro⟨a,b⟩;refine⟨?_,b⟩;by_cases d:n=k
     .subst d;exact absurd b e
     .omega
    .rintro⟨a,b⟩;exact⟨O,b⟩
   simp[this]
theorem vH(z:I2)(p n:Nat)(a:n<64):(xD z 64 p).getLsbD n=Zm (jB (z n)=(p:Int)):=by rw[dc z p 64 Zy n a];simp[a]
theorem qxd{f g:I5}(l:List Nat)(h:∀n∈l,f n=g n):l.filter f=l.filter g:=List.filter_congr h
theorem qxu(z:I2)(b:Bool):(vD (xD z 64 (bg b+5))).length=vZ z b 64:=by unfold vD vZ;rw[qxd _ (λn a=>vH z (bg b+5) n (qK.1 a))]
theorem iu(z:Nat->UInt8)(b n:Nat)(a:n<64):∀k,(wZ (xD z 64) b k).getLsbD n=Zm ((b:Int)<=jB (z n)/\jB (z n)<(b:Int)+k)
 | 0=>by
  show(0#64).getLsbD n=_;rw[XM];symm;rw[qX];omega
 | k+1=>by
  have d:=iu z b n a k;show(wZ (xD z 64) b k ||| xD z 64 (b+k)).getLsbD n=_;rw[Yx,d,vH z (b+k) n a,<-Bool.decide_or];apply XB.2;omega
theorem qjt(z:I2)(b:Bool)(n:Nat)(a:n<64):(xZ (xD z 64) b).getLsbD n=Zm (vB (z n)=xK b):=by
 unfold xZ;rw[iu z (bg b) n a 6];apply XB.2;have:=rn (z n);unfold vB xK bg;cases b
 .simp only[qR,YH];exact Iu
 .simp only[YS];exact Iu
theorem rC(z:I2)(b:Bool):(vD (xZ (xD z 64) b)).length=ka z b 64:=by unfold vD ka;rw[qxd _ (λn a=>qjt z b n (qK.1 a))]
theorem pi(z:I2)(n:Nat)(a:n<64):(j0 (xD z 64)).getLsbD n=Zm (0<=jB (z n)):=by grind[j0,qjt,rn,vB,xK,qR]
theorem aA:∀n,n<64->(18374686479671623935#64).getLsbD n=(Zm (n/8=0)||decide (n/8=7)):=WS
theorem qkw(s:BitVec 64):s=0#64↔∀n,n<64->s.getLsbD n=Zl:=by grind
theorem EK:(18374686479671623935:Int)=U 18374686479671623935#64:=WS
theorem qv2(s:BitVec 64):U s=0↔s=0#64:=by
 constructor
 .intro h;exact pE (h.trans WS)
 .rintro rfl;decide +kernel
theorem Ft(z:I2)(b:Bool):bits .and Zh (U (xD z 64 (bg b))) 18374686479671623935=0↔∀n,n<64->jB (z n)=(bg b:Nat)->¬ (n/8=0\/n/8=7):=by
 rw[EK,im,qv2,qkw];constructor
 .intro h n a e;have:=h n a;rw[Yl,vH z (bg b) n a,aA n a]at this;simp[e]at this;omega
 .intro h n a;rw[Yl,vH z (bg b) n a,aA n a];by_cases e:jB (z n)=(bg b:Nat)
  .have:=h n a e;simp at this;simp[this]
  .simp[e]
theorem bf(c:UInt8):ew c=(c==46||decide (0<=jB c)):=R
theorem lV(z:I2):((List.range 64).all λn=>!(vf z n))=Zk↔xO z=Zk/\∀b:Bool,∀n,n<64->jB (z n)=(bg b:Nat)->¬ (n/8=0\/n/8=7):=by
 rw[qW];constructor
 .intro h;constructor
  .refine Fy λj p=>?_;have a:=h j (qK.2 p);rw[bf];have:=rn (z j);unfold vf vE at a;by_cases d:(z j==46)=Zk
   .simp[d]
   .simp only[XH]at d;rw[d]at a |-;simp only[X3,Xc,YK,Bool.or_eq_false_iff,qX]at a;have g:=a.1;simp only[Xo,qG];split at g<;>omega
  .intro b n k e u;have a:=h n (qK.2 k);have m:bg b=0\/bg b=6:=Tw;have d:(z n==46)=Zl:=by
    cases q:(z n==46)with
    | false=>rfl
    | true =>
     have:z n=46:=Ul
     rw[this]at e;have r:jB 46=-1:=uo;omega
   unfold vf vE at a;rw[d]at a;have i:(if 6<=jB (z n)then jB (z n)-6 else jB (z n))=0:=by split<;>omega
   rw[i]at a;simp at a;omega
 .rintro⟨a,g⟩ n k;have f:=qK.1 k;have l:ew (z n)=Zk:=qW.1 a n k;rw[bf]at l;have:=rn (z n);unfold vf vE;by_cases d:(z n==46)=Zk
  .simp[d]
  .simp only[XH]at d;rw[d]at l |-;simp only[Xo,qG]at l;have o:=g Zk n f;have m:=g Zl n f;simp only[bg,YS,qR,YH]at o m;simp only[X3,Xc,YK,Bool.or_eq_false_iff,qX,Bool.and_eq_false_iff];refine⟨by split<;>omega,?_⟩;by_cases i:(if 6<=jB (z n)then jB (z n)-6 else jB (z n))=0
   .right;split at i
    .have:=m O;omega
    .have:=o O;omega
   .left;exact i
theorem fR{f g:Nat->Int}(h:∀n,n<64->(f n=46↔g n=46))(p:Nat->Int)(L:Nat)(d:∀i,i<=L->0<=p i/\p i<=63):freeI f p L=freeI g p L:=by grind[freeI]
theorem iE{f g:Nat->Int}(h:∀n,n<64->(f n=46↔g n=46))(k:Nat)(s x y:Int)(a:0<=x)(d:x<=63)(i:0<=y)(j:y<=63):xS f k s x y=xS g k s x y:=by
 unfold xS;have e:∀b:Bool,(b=Zk->yd x y=Zk\/yg x y=Zk)->(b&&freeI f (pI x y) (LI x y))=(b&&freeI g (pI x y) (LI x y)):=λb l=>by
  cases b
  .rfl
  .rw[fR h _ _ (Dp x y a d i j (l R))]
 rw[e (yg x y) (λh=>Zj h),e (yd x y) (λh=>Zi h),e (yd x y||yg x y) (λh=>Vq)]
theorem FI(f:Nat->Int)(k:Nat)(a:k≠0)(s t x y:Int):xS f k s x y=xS f k t x y:=by unfold xS;rw[qF a,qF a]
def kh(bw:Bool)(i:Nat):Nat:=if i=0 then(if bw then 2 else 1)else i+2
theorem BY(a:Bool)(i:Nat):vA a i=((kh a i:Nat):Int):=by
 unfold vA kh;by_cases h:i=0
 .rw[qI h,qI h];cases a<;>rfl
 .rw[qF h,qF h];omega
theorem fT_z(a:xO z=Zk)(n:Nat)(b:n<64):fT (j0 (xD z 64)) n=46↔zI z n=46:=by
 rw[tO,pi z n b,qX];have h:=qW.1 a n (qK.2 b);rw[bf]at h;unfold zI;constructor
 .intro d;have:z n=46:=by simpa[d]using h
  rw[this];rfl
 .intro d;have:z n=46:=by apply q6.1;have:(z n).toNat=46:=O;rw[this];rfl
  rw[this];have e:jB 46=-1:=uo;omega
theorem F3(f:xO z=Zk)(d:Bool)(i:Nat)(j:i<6)(y n:Nat)(b:y<64)(a:n<64):(jW (kh d i) y (j0 (xD z 64))).getLsbD n=xS (zI z) i (xK d) (n:Int) (y:Int):=by
 by_cases h:i=0
 .subst h;cases d
  .show(jW 1 y _).getLsbD n=_;have e:jW 1 y (j0 (xD z 64))=E4 y:=R;rw[e,bY y b n a,wE n a y b];rfl
  .show(jW 2 y _).getLsbD n=_;have e:jW 2 y (j0 (xD z 64))=FX y:=R;rw[e,<-bY n a y b,oL n a y b];rfl
 .have g:kh d i=i+2:=by unfold kh;rw[qF h]
  rw[g,px (i+2) y n O O b a,mI (i+2) n O O a,bW (i+2) (n:Int) _ y b];unfold eV;have e:kR (i+2)=i:=by unfold kR;rw[qF O];omega
  rw[e,FI _ i h _ (xK d)];exact iE (λn a=>fT_z f n a) i _ _ _ O O O O
theorem bQ(d:xO z=Zk)(b:Bool)(i:Nat)(k:i<6)(y:Nat)(j:y<64):uk (xD z 64) (y:Int) b i=Zk↔∃n,n<64/\jB (z n)=((bg b+i:Nat):Int)/\xS (zI z) i (xK b) (n:Int) (y:Int)=Zk:=by
 unfold uk;rw[BY,ik (kh b i) y (by unfold kh;split<;>(try split)<;>omega) (by unfold kh;split<;>(try split)<;>omega) j,im,qU];constructor
 .intro h;have f:jW (kh b i) y (j0 (xD z 64)) &&& xD z 64 (bg b+i)≠0#64:=λe=>h (by rw[e];decide +kernel);refine Xd λl=>f ((qkw _).2 λn a=>?_);rw[Yl,vH z _ n a,F3 d b i k y n j a];by_cases e:jB (z n)=((bg b+i:Nat):Int)
  .cases g:xS (zI z) i (xK b) (n:Int) (y:Int)with
   | false=>rfl
   | true=>exact absurd ⟨n,a,e,g⟩ l
  .simp only[e,decide_false,XU]
 .rintro⟨n,a,e,g⟩ h;have f:=(qkw _).1 ((qv2 _).1 h) n a;rw[Yl,vH z _ n a,F3 d b i k y n j a,g]at f;simp[e]at f
theorem zq{c:UInt8}{a:Bool}(h:vB c=xK a):∃i,i<6/\jB c=((bg a+i:Nat):Int)/\(vE c).toNat=i:=by
 have:=rn c;unfold vB xK at h;unfold vE;cases a
 .simp only[qR,YH]at h;refine⟨(jB c-6).toNat,?_,?_,?_⟩
  .exact OH
  .show _=((6+(jB c-6).toNat:Nat):Int);exact OH
  .rw[qI VR]
 .simp only[YS]at h;refine⟨(jB c).toNat,?_,?_,?_⟩
  .exact OH
  .show _=((0+(jB c).toNat:Nat):Int);exact OH
  .rw[qF VR]
theorem qkr{c:UInt8}{a:Bool}(b:i<6)(h:jB c=((bg a+i:Nat):Int)):vB c=xK a/\(vE c).toNat=i:=by
 unfold vB vE xK;rw[h];cases a
 .simp only[bg,qR,YH];refine⟨by rw[qF O,qF O],by rw[qI O];omega⟩
 .simp only[bg,YS];refine⟨by rw[qF O,qI O],by rw[qF O];omega⟩
theorem xu(b:xO z=Zk)(d:Bool)(y:Nat)(k:y<64):xV (xD z 64) (y:Int) d=zM z (y:Int) d:=by
 rw[YW];unfold xV zM;rw[qY,qY];constructor
 .rintro⟨i,f,h⟩;have a:=qK.1 f;obtain⟨n,g,e,l⟩:=(bQ b d i a y k).1 h;obtain⟨c1,c2⟩:=qkr a e;exact⟨n,qK.2 g,by rw[c2,l];simp[c1]⟩
 .rintro⟨n,g,h⟩;have j:=qK.1 g;simp only[qH,qG]at h;obtain⟨i,f,e,c2⟩:=zq h.1;refine⟨i,qK.2 f,(bQ b d i f y k).2 ⟨n,j,e,?_⟩⟩;rw[<-c2];exact h.2
theorem di(b:Bool):∀c:UInt8,(c==vk b)=Zm (jB c=((bg b+5:Nat):Int)):=by have:∀b:Bool,∀n:Fin 256,(UInt8.ofNat n.val==vk b)=Zm (jB (UInt8.ofNat n.val)=((bg b+5:Nat):Int)):=WS;intro c;have:=this b ⟨c.toNat,c.toNat_lt⟩;exact OY
def zT(z:I2)(wh:Bool)(f:I5)(b h g:Int):Bool :=
 ((List.range 64).all λn=>!(vf z n))&&(Zm (vZ z Zk 64=1)&&Zm (vZ z Zl 64=1)&&Zm (ka z Zk 64<=16)&&Zm (ka z Zl 64<=16))&&jH z f&&xX z wh b&&!(zM z (xR z (!wh)) wh)&&zP h g
theorem js{b:Bool}(h:vZ z b 64=1):∃y,y<64/\vD (xD z 64 (bg b+5))=[y]/\xR z b=(y:Int):=by
 have k:(vD (xD z 64 (bg b+5))).length=1:=(qxu z b).trans h;obtain⟨y,g⟩:=List.length_eq_one_iff.1 k;have i:y∈vD (xD z 64 (bg b+5)):=by rw[g];simp
 have a:=((Dt _ _).1 i).1;have d:∀n,n<64->(z n==vk b)=(xD z 64 (bg b+5)).getLsbD n:=λn e=>by rw[di,vH z _ n e]
 refine⟨y,a,g,?_⟩;unfold xR;have:(List.range 64).find? (λn=>z n==vk b)=S y:=by
  cases f:(List.range 64).find? (λn=>z n==vk b)with
  | none =>
   have:=List.find?_eq_none.1 f y (qK.2 a);rw[d y a,((Dt _ _).1 i).2]at this;exact absurd R this
  | some n =>
   have j:=List.find?_some f;have e:=qK.1 (List.mem_of_find?_eq_some f);rw[d n e]at j;have:n∈vD (xD z 64 (bg b+5)):=(Dt _ _).2 ⟨e,j⟩;rw[g]at this;rw[qT.1 this]
 rw[this]
theorem aY(z:I2)(wh:Bool)(f:I5)(b h g:Int):zT z wh f b h g=k6 z wh f b h g:=by
 rw[YW];unfold zT k6 cK vM;simp only[qH,qG,qxu,rC];constructor
 .rintro⟨⟨⟨⟨⟨q,⟨⟨r,u⟩,v⟩,w⟩,e⟩,i⟩,a⟩,j⟩;obtain⟨d,n⟩:=(lV z).1 q;obtain⟨y,k,l,m⟩:=js (z:=z) (b:=!wh) (by cases wh<;>assumption);refine⟨d,⟨⟨⟨⟨⟨⟨⟨O,O⟩,(Ft z Zk).2 (n Zk)⟩,⟨⟨O,O⟩,(Ft z Zl).2 (n Zl)⟩⟩,e⟩,i⟩,j⟩,?_⟩⟩;unfold kD;rw[l];simp only[List.any_cons,List.any_nil,Bool.or_false];rw[xu d wh y k,<-m];exact a
 .rintro⟨d,⟨⟨⟨⟨⟨⟨⟨r,v⟩,p1⟩,⟨⟨u,w⟩,p2⟩⟩,e⟩,i⟩,j⟩,a⟩⟩;have o:vZ z Zk 64=1:=O;have p:vZ z Zl 64=1:=O;obtain⟨y,k,l,m⟩:=js (z:=z) (b:=!wh) (by cases wh<;>assumption);refine⟨⟨⟨⟨⟨(lV z).2 ⟨d,λb=>?_⟩,⟨⟨o,p⟩,O⟩,O⟩,e⟩,i⟩,?_⟩,j⟩
  .cases b
   .exact(Ft z Zl).1 p2
   .exact(Ft z Zk).1 p1
  .unfold kD at a;rw[l]at a;simp only[List.any_cons,List.any_nil,Bool.or_false]at a;rwa[xu d wh y k,<-m]at a
theorem kL.fr(h:kL w)(f:Fr Q w w')(b:∀o,Q 2 o):kL w':=λj a=>f.cell (h j a) (λo _=>b o)
theorem o0(s:BitVec 64)(u:Nat)(T:Obj->Prop)(w:I6)(G:w.cell? ⟨u,0,N⟩=S (I Zh (U s)))(F:kL w) :
 It prog 207 #[ZI u] (λx:Nat=>#[Value.int L (x:Int)]) T (λk=>k=u\/k=2) (vD s) w:=by
 intro l B J P W v V a2 a4 M a0;have K:=v.cell G (λ_ _=>Zi R);have z:=F.fr v (λ_=>Zj R);clear v G F;refine(ZY (n:=1)).1 ?_;refine callsIn_of_wp func207 rfl trivial ?_ R;simp only[ntmps207,Nat.reduceAdd,Nat.reduceSub,Zr];gi_wp2;gi_loopw [3] (λp wr=>∃(a:List Nat)(r:BitVec 64),p=I Zh (U r)/\vD s=a++vD r/\kL wr/\J a wr) (λp _=>(vD (BitVec.ofInt 64 (intOf p))).length)
 case atStart=>exact⟨[],s,R,R,z,a0⟩
 case round=>
  obtain⟨a,r,rfl,h,m,i⟩:=hrel;by_cases q:r=0#64
  .subst q;have a7:(U 0#64 != 0)=Zl:=WS;rw[qv8,Yh]at h;have d:=X h;clear h;gi_wp2;go_end0;exact⟨⟨_,R⟩,Zi (by rw[d.a];exact i)⟩
  .obtain⟨t,n,C,D⟩:=qji r q;have g:=qv9 r t n C D;have a6:(U r != 0)=Zk:=VN;have A:=X (eI r t C D);obtain⟨a5,tmps,o,E,a3,hR⟩:=M a t wr ⟨vD (r &&& (r-1#64)),by rw[h,g];simp⟩ i;have d:=X h;have b:=X g;have f:=X m;clear h g m q C D;gi_wp2_with (refine⟨trivial,?_⟩;gi_at_call 208;refine(ZY.2 (A.a _ f.a)).mono ?_;rintro e w' ⟨rfl,rfl⟩);refine hR.mono ?_;rintro e W3 ⟨H,⟨rfl,y⟩|⟨rfl,j⟩⟩
   .have Q:IntKind.u64.wrap (U r-1)=U (r-1#64):=VP;have a1:bits .and Zh (U r) (U (r-1#64))=U (r &&& (r-1#64)):=im _ _;gi_wp2;go_roundw
    case rel=>exact⟨a++[t],r &&& (r-1#64),R,Ui,f.a.fr H (λ_=>Zi (Zj R)),y⟩
    case measure=>simp only[intOf];rw[jh,jh,b.a];simp
   .gi_wp2;refine ZS (XS R _ _ _) R ?_;exact⟨⟨_,R⟩,Zj ⟨a++[t],⟨vD (r &&& (r-1#64)),Ui⟩,j⟩⟩
abbrev Mv:=Nat × Nat × UInt8
def gJ(x:Mv):I7:=Zc #[I L (x.1:Int),I L (x.2.1:Int),I Zg (x.2.2.toNat:Int)]
def vr(x:Mv):I0:=#[gJ x]
def kP:BitVec 64:=18374686479671623935#64
def xT(pawn:Bool)(f t:Nat):List Mv:=if pawn&&kP.getLsbD t then[(f,t,113),(f,t,114),(f,t,98),(f,t,110)]else[(f,t,0)]
theorem zw(k:FuncId):Fence.wide.fn k:=trivial
theorem aB:∀t,t<64->bits .and Zh (U (1#64 <<< t)) 18374686479671623935=if kP.getLsbD t then U (1#64 <<< t)else 0:=WS
theorem sE:∀t,t<64->U (1#64 <<< t)≠0:=WS
theorem AL(a f t:Nat)(E:a<6)(r:t<64)(q:(Zm (a=0)&&kP.getLsbD t)=Zl)(l B:Nat)(T:Obj->Prop)(C:Nat->Prop)(J u:List Mv->I6->Prop)(g:List Mv)(W:I6)
 (A:YieldAt Fence.wide 0 prog l (vr (f,t,0)) W λe i=>Fr (jM B T C) W i/\((e=Zd (Za Zk)/\J (g++[(f,t,0)]) i)\/(e=Zd (Za Zl)/\u (g++[(f,t,0)]) i))) :
 Calls prog 135 #[I L a,I L f,I L t,.func (.yield l) #[] #[]] W λe i=>Fr (jM B T C) W i/\((e=Zd (Za Zk)/\J (g++[(f,t,0)]) i)\/(e=Zd (Za Zl)/\u (g++[(f,t,0)]) i)):=by
 obtain⟨x,tmps,d,m,v,hR⟩:=A;have h:=X (λW=>A9 (t:Int) O O W);rw[rp t r]at h;have k:=aB t r;have p:=sE t r;have D:(Instr.yield l #[Zc #[I L f,I L t,I Zg 0]]).run prog W=.ok (.round l x tmps d m) W:=v;clear v;refine(ZY (n:=1)).1 ?_;refine callsIn_of_wp func135 rfl trivial ?_ R;simp only[ntmps135,Nat.reduceAdd,Nat.reduceSub,Zr];by_cases y:a=0;subst y;have w:kP.getLsbD t=Zl:=Ul;rw[w]at k;simp only[qR,YH]at k;clear w q p;gi_wp2_with (refine⟨trivial,?_⟩;gi_at_call 204;refine(ZY.2 (h.a _)).mono ?_;rintro e w' ⟨rfl,rfl⟩);rotate_left;clear q k p;have z:((a:Int) != 0)=Zk:=WX;gi_wp2_with (with_reducible refine YB (zw _) ?_);all_goals
  refine hR.mono ?_;rintro e W3 ⟨o,⟨rfl,j⟩|⟨rfl,b⟩⟩
  .gi_wp2;go_ret;exact⟨o,Zi ⟨R,j⟩⟩
  .gi_wp2;go_ret;exact⟨o,Zj ⟨R,b⟩⟩
def uA(k:Nat):UInt8:=if k=0 then 113 else if k=1 then 114 else if k=2 then 98 else 110
theorem row4{b:Nat}(h:W.heap[b]?=S (Z #[I Zg 113,I Zg 114,I Zg 98,I Zg 110] 5 (4,5)))(k:Nat)(a:k<4):W.cell? ⟨b,k,N⟩=S (I Zg (uA k).toNat):=by have:k=0\/k=1\/k=2\/k=3:=O;rcases this with rfl|rfl|rfl|rfl<;>(simp only[World.cell?];rw[h];rfl)
theorem oC(f t:Nat)(G:t<64)(Z:kP.getLsbD t=Zk)(l B:Nat)(T:Obj->Prop)(C:Nat->Prop)(V:∀c fr,¬ T (.cells c 5 fr))(J H:List Mv->I6->Prop)(S:vu B T J)(a:List Mv)(W:I6)(K:B<=W.heap.size)
 (a3:∀k v,k<4->J (a++(List.range k).map λi=>(f,t,uA i)) v->YieldAt Fence.wide 0 prog l (vr (f,t,uA k)) v λe h=>Fr (jM B T C) v h/\((e=Zd (Za Zk)/\J (a++(List.range (k+1)).map λi=>(f,t,uA i)) h)\/(e=Zd (Za Zl)/\H (a++(List.range (k+1)).map λi=>(f,t,uA i)) h))) (R:J a W) :
 Calls prog 135 #[I L 0,I L f,I L t,.func (.yield l) #[] #[]] W λe h=>Fr (jM B T C) W h/\((e=Zd (Za Zk)/\J (a++(List.range 4).map λi=>(f,t,uA i)) h)\/(e=Zd (Za Zl)/\∃k,k<4/\H (a++(List.range (k+1)).map λi=>(f,t,uA i)) h)):=by
 have d:=X (λW=>A9 (t:Int) O O W);rw[rp t G]at d;have r:=aB t G;have F:(U (1#64 <<< t)==0)=Zl:=by have:=sE t G;simpa using this
 rw[Z,qI rfl]at r;refine(ZY (n:=1)).1 ?_;refine callsIn_of_wp func135 rfl trivial ?_ rfl;simp only[ntmps135,Nat.reduceAdd,Nat.reduceSub,Zr];have E:=λ(w:I6)(C:I0)(n c:Nat)=>Lib.run_convert_bytes_const (P:=prog) w 145 5 C n c underlying145 underlying5;gi_wp2_with (refine⟨trivial,?_⟩;gi_at_call 204;refine(ZY.2 (d.a _)).mono ?_;rintro e w' ⟨rfl,rfl⟩);clear E d r F;generalize u:w'.alloc (.cells #[I Zg 113,I Zg 114,I Zg 98,I Zg 110] 5 (4,5))=M;have b:M.heap[w'.heap.size]?=some (.cells #[I Zg 113,I Zg 114,I Zg 98,I Zg 110] 5 (4,5)):=by rw[<-u];exact Zv
 have P:∀Q:Nat->Obj->Prop,Fr Q w' M:=λQ=>by rw[<-u];exact ZP.alloc _
 have A:=S _ _ _ R (P _);generalize w'.heap.size=a4 at b K |-;gi_loopw [27] (λp wr=>∃k:Nat,k<=4/\p=I L k/\J (a++(List.range k).map λi=>(f,t,uA i)) wr/\Fr (jM B T C) w' wr/\wr.heap[a4]?=some (.cells #[I Zg 113,I Zg 114,I Zg 98,I Zg 110] 5 (4,5))) (λp _=>4-(intOf p).toNat)
 case atStart=>exact⟨0,O,rfl,by simpa using A,P _,b⟩
 case round=>
  obtain⟨k,hk,rfl,m,y,q⟩:=hrel;by_cases z:k<4
  .have a5:=row4 q k z;obtain⟨a2,tmps,g,j,a1,hR⟩:=a3 k wr z m;have a0:(Instr.yield l #[Zc #[I L f,I L t,I Zg (uA k).toNat]]).run prog wr=.ok (.round l a2 tmps g j) wr:=a1;clear a1;gi_wp2;refine hR.mono ?_;rintro e W3 ⟨x,⟨rfl,D⟩|⟨rfl,o⟩⟩
   .gi_wp2;go_roundw
    case rel =>refine⟨k+1,O,Vg,D,y.trans x,x.same _ _ q (Zj ⟨?_,V _ _⟩)⟩;have:=(qB.1 b).1;exact K
    case measure=>simp only[intOf];omega
   .gi_wp2;go_ret;exact⟨y.trans x,Zj ⟨rfl,k,z,o⟩⟩
  .have:k=4:=O;subst this;gi_wp2;go_ret;exact⟨y,Zi ⟨rfl,m⟩⟩
section
structure pO(m:I8)(wh:Bool)(own oth beh:BitVec 64)(fc:I5)(FA:I0):Prop where
 size:FA.size=20
 men:∀i,i<12->FA[i]?=S (I Zh (U (m i)))
 wh:FA[12]?=S (Za wh)
 own:FA[13]?=S (I Zh (U own))
 oth:FA[14]?=S (I Zh (U oth))
 beh:FA[15]?=S (I Zh (U beh))
 c:∀i,i<4->FA[16+i]?=S (Za (fc i))
theorem ky:(prog.info? 202).map (·.size)=S 20:=WR
def yk(b:Nat)(A:I0)(w:I6):Prop:=b<w.heap.size/\w.rangeAt b 0 A.toList
theorem yk.gr{b:Nat}(h:yk b A w)(g:Gr w w'):yk b A w' :=
 ⟨qN h.1 (ZR g),λj v a=>(ZW g (p:=⟨b,0+j,N⟩) h.1).trans (h.2 j v a)⟩
theorem yk.cell{b:Nat}(h:yk b A w)(a:A[i]?=S v):w.cell? ⟨b,i,N⟩=S v:=by have:=h.2 i v (by rw[qO];exact a);rwa[Z2]at this
theorem yk.new(w:I6)(A:I0)(t:TypeId):yk w.heap.size A (w.alloc (Z A t)):=⟨Vj,λj v a=>by
 rw[Z8 _ _ _ _ R,Z2,<-qO];exact a⟩
theorem yk.take{b:Nat}(h:yk b A w)(n:Nat):w.rangeAt b 0 (A.toList.take n):=λj v a=>h.2 j v (by
 rw[Yv]at a;split at a
 .exact a
 .cases a)
theorem cX{d:Array Oper}{op:Oper}{a:Act}{e:I0}(k:e.size=20){S:I6->Prop}(i:Region.wanted op (yielded d a.tmps)=Zk)(x:Operand)(g:op.op=.load 202 x)(b:Nat)(j:a.eval x=ZI b)(f:∀w,S w->yk b e w):YieldsIf prog d S op (Zc e) a:=by have:=XW (P:=prog) i 202 x g b 0 j e.toList _ (λw h=>(f w h).2) underlying202 rfl (by rw[ky];simp[k]);rwa[Yb]at this
theorem jd{e:Array Oper}{d:List Oper}{o:Oper}{a:Act}{Q:Exit->Act->I6->Prop}(i:Region.wanted o (yielded e a.tmps)=Zk)(x:Operand)(g:o.op=.load 202 x)(b:Nat)(j:a.eval x=ZI b)(k:A.size=20)(f:yk b A w)
 (h:wpList prog e Q d (a.put o.dst (Zc A)) w):wpList prog e Q (o :: d) a w :=
 wpList_step λK hK=>by rw[qI i];refine wp_load_mid (P:=prog) 202 x g b 0 j A.toList _ f.2 underlying202 rfl (by rw[ky];simp[k]) ?_;rw[Yb];exact hK _ _ h
def pK(x:BitVec 64)(r:Int):BitVec 64:=if r<0 then x >>> (-8*r).toNat else x <<< (8*r).toNat
theorem oV(x:BitVec 64)(r:Int):yE (U x) r=U (pK x r):=by grind[yE,pK,rE,ib]
def yV(wh:Bool):Int:=if wh then 1 else -1
def uB(wh:Bool):BitVec 64:=if wh then pK 255#64 2 else pK 18374686479671623680#64 (-2)
def iv(wh:Bool)(own oth:BitVec 64)(f:Nat):BitVec 64:=pK (1#64 <<< f) (yV wh) &&& ~~~(own ||| oth)
def k7(wh:Bool)(own oth:BitVec 64)(f:Nat):BitVec 64:=iv wh own oth f ||| (pK (iv wh own oth f &&& uB wh) (yV wh) &&& ~~~(own ||| oth))
variable {m:I8}{wh:Bool}{own oth beh:BitVec 64}{fc:I5}{FA:I0}
theorem p9(r:pO m wh own oth beh fc FA)(w:I6):ZL 258 #[Zc FA] w (I L (yV wh)):=by
 have a:=(yk.new w FA 202).cell r.wh;clear r;cases wh;all_goals
  go_enter func258,ntmps258;go_wp2;go_ret;exact⟨R,ZN⟩
theorem GD(x:BitVec 64):bits .xor Zh (if IntKind.u64.signed=Zk then -1 else IntKind.u64.max) (U x)=U (~~~x):=by rw[show(if IntKind.u64.signed=Zk then -1 else IntKind.u64.max)=U (BitVec.allOnes 64)from WS,oF,BitVec.allOnes_xor]
def HF(w1:I6)(b:Nat)(FA:I0)(W:I6):Prop:=yk b FA W/\Gr w1 W
theorem HF.gr{d:I6}{b:Nat}{a:I0}(h:HF w1 b a W)(g:Gr W d):HF w1 b a d:=⟨h.1.gr g,Gr.trans h.2 g⟩
theorem ni(r:pO m wh own oth beh fc FA)(f:Nat)(hf:f<64)(w:I6):ZL 209 #[Zc FA,I L f] w (I Zh (U (k7 wh own oth f))):=by
 have j:=yk.new w FA 202;have v:=(Gr.refl w).alloc FA 202;have a7:=X r.size;have k:=X (λW=>p9 r W);have i:=X (λW=>A9 (f:Int) O O W);rw[rp f hf]at i;have G:=j.cell r.wh;have H:=j.cell r.own;have a8:=j.cell r.oth;have n:Y (∀(x q:Int)(a5:-7<=q)(a6:q<=7)(W:I6),Calls prog 253 #[I Zh x,I L q] W λe w'=>e=Zd (I Zh (yE x q))/\w'=W):=X (λx q a5 a6 W=>Dw x q W a5 a6);clear r;have a1:∀x y:BitVec 64,bits .or Zh (U x) (U y)=U (x ||| y):=uQ;have B:=GD (own ||| oth);have l:Y (uB wh=if wh then pK 255#64 2 else pK 18374686479671623680#64 (-2)):=X R;obtain⟨d,F⟩:=Zn (yV wh);rw[F.a]at k;have M:(-7:Int)<=d/\d<=7:=by rw[<-F.a];cases wh<;>decide
 obtain⟨p,u⟩:=M;have a:Y (∀T:BitVec 64,T=uB wh->k7 wh own oth f=(pK (1#64 <<< f) d &&& ~~~(own ||| oth)) ||| (pK ((pK (1#64 <<< f) d &&& ~~~(own ||| oth)) &&& T) d &&& ~~~(own ||| oth))):=X (λT a4=>by unfold k7 iv;rw[F.a,a4]);generalize k7 wh own oth f=a9 at a |-;generalize a4:uB wh=T at a l;replace a:=X (a.a _ R);have o:Y (U T=if wh then yE 255 2 else yE 18374686479671623680 (-2)):=X (by
  rw[l.a];rw[show(255:Int)=U 255#64 from WS,show(18374686479671623680:Int)=U 18374686479671623680#64 from WS,oV,oV];cases wh<;>rfl)
 clear l a4 F;generalize hN : ~~~(own ||| oth)=a2 at a B;clear hN;cases wh;all_goals
  have g:=o.a;simp only[qR,YH,YS]at g;clear o;go_enter func209,ntmps209;go_upto_region 5 with(go_at_call 253;refine(n.a _ _ WW WW _).mono ?_;rintro e w' ⟨rfl,rfl⟩);have J:HF w w.heap.size FA (w.alloc (Z FA 202)).drew:=⟨j.gr ZO.drew,v.drew⟩;generalize w.alloc (Z FA 202)=w1 at J |-;refine ZT (S:=HF w w.heap.size FA) WR J (λb=>?_);refine tq 0 (I L f) b ?_;refine ty 2 (Zc FA) R (cX a7.a Vb _ R w.heap.size R (λ_ h=>h.1)) b ?_;refine tq 5 (I Zh (U a2)) b ?_;refine rd 1 λK hK=>?_
  go_simp;refine Z1 (i.a _) ?_;refine hK.out _ _ b λb=>?_;clear hK K;refine rd 3 λK hK=>?_;go_simp;refine Z0 (k.a _) λwb z=>?_;refine hK.out _ _ (b.gr z) λb=>?_;clear hK K z;refine rd 4 λK hK=>?_;go_simp;refine Z1 (n.a _ _ p u _) ?_;refine hK.out _ _ b λb=>?_;clear hK K;have Q:bits .and Zh (yE (U (1#64 <<< f)) d) (U a2)=U (pK (1#64 <<< f) d &&& a2):=by rw[oV,im]
  generalize pK (1#64 <<< f) d &&& a2=a3 at Q a;refine tq 6 (I Zh (U a3)) b ?_;refine rd 7 λK hK=>?_;go_simp;refine hK.out _ _ b λb=>?_;clear hK K;refine ZZ WR ?_ _;have V:∀y,U T=y->bits .and Zh (U a3) y=U (a3 &&& T):=λy h=>by rw[<-h,im]
  have a0:=V _ g;have e3:bits .and Zh (yE (U (a3 &&& T)) d) (U a2)=U (pK (a3 &&& T) d &&& a2):=by rw[oV,im]
  clear V g Q B G H a8 j v i;have A:=X b;clear b J
  go_wp2_with(first
   | (go_at_call 258;refine Z0 (k.a _) λwr P=>?_)
   | (go_at_call 253;refine Z0 (n.a _ _ p u _) λw' D=>?_;have E:=D.symm;subst E;clear D)
   | (refine jd Vb _ R w.heap.size R a7.a A.a.1 ?_))
  go_ret;exact⟨Vy,Gr.trans A.a.2 P⟩
end
section
variable {m:I8}{wh:Bool}{own oth beh:BitVec 64}{fc:I5}{FA:I0}
def vw(FA:I0):I0:=(FA.toList.take 12).toArray
theorem pO.isMen(r:pO m wh own oth beh fc FA):jS m (vw FA):=by refine⟨by simp[vw,r.size],λi a=>?_⟩;have:=r.men i a;rw[vw,Xu,Yv,qI a,qO];exact this
theorem pO.held(r:pO m wh own oth beh fc FA){b:Nat}(h:yk b FA W):vh b (vw FA) W:=by refine⟨h.1,?_,by simp[vw,r.size]⟩;have:=h.take 12;rwa[vw]
theorem ui{s:BitVec 64}(h:x∈vD s):x<64:=by unfold vD at h;exact qK.1 (qV.1 h).1
theorem C9{α:Type}{a b:List α}{x:α}(h:a++[x] <+: b):x∈b:=h.subset WU
def uG(m:I8)(s:BitVec 64)(wh:Bool):Bool:=(vD s).any λy=>xV m (y:Int) (!wh)
theorem ij(tmps:I0)(w:I6)(b:Nat)(v:I7)(e:tmps.getD 4 undef=ZI b)(d:w.cell? ⟨b,0,N⟩=S v):(results Tryz.f212 tmps).run prog w=.ok v w:=by have a:tmps[4]?.getD undef=ZI b:=VI;simp[results,results212,a,asAddr,go_sem,d]
theorem x6(w:I6)(a b:Obj):((w.alloc a).alloc b).heap[w.heap.size]?=S a/\((w.alloc a).alloc b).heap[w.heap.size+1]?=S b:=by
 constructor
 .rw[YP _ _ _ WU];exact ZQ w _
 .have:=ZQ (w.alloc a) b;rwa[Z3]at this
theorem qv0(r:pO m wh own oth beh fc FA)(s:BitVec 64)(w:I6)(hT:jF w):ZL 212 #[Zc FA,I Zh (U s)] w (Za (uG m s wh)):=by
 have hM:=X r.isMen;have hr:=X r;have hz:=X r.size;clear r;refine(ZY (n:=3)).1 ?_;refine callsIn_of_wp_marks func212 rfl trivial ?_ R;simp only[ntmps212,Nat.reduceAdd,Nat.reduceSub,Zr];gi_wp2_with (refine⟨trivial,?_⟩;gi_at_call 132;refine(ZY.2 (xn _ _)).mono ?_;rintro e w5 ⟨rfl,rfl⟩);obtain⟨h1,h2⟩:=x6 w (Z FA 202) (Z #[Za Zl] 4);generalize M:(w.alloc (Z FA 202)).alloc (Z #[Za Zl] 4)=b0 at h1 h2 |-;have c6:b0.heap.size=w.heap.size+2:=by rw[<-M];simp
 have Q:Gr w b0:=by rw[<-M];exact ZN.alloc _ _
 clear M;generalize C:b0.alloc (Z #[I Zh (U s)] 195)=i;have b5:i.heap.size=w.heap.size+3:=by rw[<-C,Z3,c6]
 have z:Gr b0 i:=by rw[<-C];exact ZO.alloc _ _
 have V:i.heap[w.heap.size]?=S (Z FA 202):=(Zz z O).trans h1;have b1:i.heap[w.heap.size+1]?=S (Z #[Za Zl] 4):=(Zz z O).trans h2;have H:i.cell? ⟨b0.heap.size,0,N⟩=S (I Zh (U s)):=by rw[<-C];exact(qq5 b0 _ _).1
 have F:=Gr.trans Q z;have a0:=hT.gr F;have b3:=hT.2;clear C z h1 h2 Q;rw[c6]at H;refine xj (gf:=207) (lb:=#[ZI (w.heap.size+2)]) R (YC func207 WR R)
  (o0 s (w.heap.size+2) (λ_=>False) i H a0.1) (λ_ h=>h.elim) (by rintro k (rfl|rfl)<;>omega) ZP (λ_=>R)
  (λg W=>(∀y∈g,xV m (y:Int) (!wh)=Zl)/\Below i.heap.size i W)
  (λc g W=>c=.ret/\(∃y∈g,xV m (y:Int) (!wh)=Zk)/\W.heap[w.heap.size+1]?=S (Z #[Za Zk] 4)/\Gr w W/\i.heap.size<=W.heap.size)
  ?sI ?sX ⟨λy T=>absurd T (XC),XL _ _⟩ ?round ?done ?stop
 case sI=>exact λs A A' h f=>⟨h.1,h.2.trans (f.below h.2.size (λ_ _ hk=>Zi hk))⟩
 case sX=>exact λc s A A' h f=>⟨h.1,h.2.1,f.same _ _ h.2.2.1 (Zi O),Below.trans h.2.2.2.1 ((f.below h.2.2.2.2 (λ_ _ hk=>Zi hk)).mono O),q7 h.2.2.2.2 f.size⟩
 case round=>
  intro l g x W b4 hx hi hl;gi_wp2;refine⟨ZP,?_⟩;rintro b7-⟨a,E⟩ -;have b6:=ui (C9 hx);have a2:0<=(x:Int):=O;have a3:(x:Int)<=63:=O;have c4:=(YG E w.heap.size O).trans V;have p:=(YG E (w.heap.size+1) O).trans b1;have c5:yk w.heap.size FA b7:=⟨(qB.1 c4).1,λj v B=>by rw[Zs c4,Z2,<-qO];exact B⟩;have b:=hr.a.held c5;have a6:=c5.cell hr.a.wh;have G:=X (qq0 m _ hM.a (x:Int) a2 a3 (!wh) b7);have d0:w.heap.size+1<b7.heap.size:=(qB.1 p).1;have K:=X a;have u:=X E;have d1:=X p;have b':=X (YB V b1);obtain⟨v,B⟩:=Zn (xV m (x:Int) (!wh));rw[B.a]at G;clear a E c4 p V b1 H hi c5;cases v
  .gi_wp2_with (first
    | (refine xf R _ R w.heap.size R b ?_)
    | (refine⟨trivial,?_⟩;gi_at_call 127;refine(Xe l (ZY.2 G.a)).mono ?_;rintro e w' ⟨rfl,n⟩))
   refine⟨Fr.of_gr n,λy T=>?_,u.a.trans (Below.mono n (ZR u.a))⟩;obtain h|h:=Yi.1 T
   .exact K.a y h
   .rw[qT]at h;subst h;exact B.a
  .gi_wp2_with (first
    | (refine xf R _ R w.heap.size R b ?_)
    | (refine⟨trivial,?_⟩;gi_at_call 127;refine(Xe l (ZY.2 G.a)).mono ?_;rintro e w' ⟨rfl,n⟩;have d3:=(YG n (w.heap.size+1) d0).trans d1.a;have d4:=qi d3;obtain⟨a9,b2⟩:=d4))
   refine⟨(Fr.of_gr n).setCell _ ?_,R,⟨x,Yi.2 (Zj (qT.2 R)),B.a⟩,jm d3,Yr (Gr.trans (Gr.trans F u.a) n) (show w.heap.size<=w.heap.size+1 from O) _,?_⟩
   .rintro o-(q|q)
    .obtain q|q:=q
     .simp at q
     .simp at q;omega
    .have:=q.1;simp at this;omega
   .have e1:=ZR u.a;have e2:=ZR n;simp[World.setCell];omega
 case done=>rintro D W hD ⟨a,E⟩ hK;have p:=(YG E (w.heap.size+1) O).trans b1;obtain⟨a7,a8⟩:=qi p;have P:=X ((KeepsOthers.setCell W ⟨w.heap.size+1,0,N⟩ (Za Zl)).same D _ hK R);have B:Y (uG m s wh=Zl):=X (by unfold uG;rw[XD];intro y T;rw[a y T];decide);have d:=X (qi (DA (D:=D) (o':=.deferred N) (jm (v:=Za Zl) p) O)).1;have J:Y (Gr w ((W.setCell ⟨w.heap.size+1,0,N⟩ (Za Zl)).putObj D (.deferred N))):=X ((Yr (Gr.trans F E) (show w.heap.size<=w.heap.size+1 from O) _).trans (XZ (w:=i) (n₀:=w.heap.size) O _ D _ _ hD P.a R R));clear a E V b1 p;gi_wp2;refine⟨WU,Zi ⟨_,_,R,YU P.a,?_⟩⟩;exact⟨_,ij _ _ _ _ R d.a,by rw[B.a],J.a⟩
 case stop=>rintro D c g W hD a ⟨rfl,⟨y,a4,a5⟩,p,a1,_⟩ hK;have B:Y (uG m s wh=Zk):=X (by unfold uG;rw[qY];exact⟨y,a.subset a4,a5⟩);have d:=X (qi (DA (D:=D) (o':=.deferred N) p O)).1;have J:Y (Gr w (W.putObj D (.deferred N))):=X (Below.trans a1 (XZ (w:=i) (n₀:=w.heap.size) O _ D _ _ hD hK R R));gi_wp2;refine⟨WU,Zi ⟨_,_,R,YU hK,?_⟩⟩;exact⟨_,ij _ _ _ _ R d.a,by rw[B.a],J.a⟩
end
section
variable {m:I8}{wh:Bool}{own oth beh:BitVec 64}{fc:I5}{FA:I0}
def uL(wh:Bool)(beh:BitVec 64)(place t:Nat):BitVec 64:=if place=0/\1#64 <<< t=beh then pK beh (-(yV wh))else 1#64 <<< t
def zS(m:I8)(q:Nat)(g:BitVec 64)(k:Nat):I8:=λi=>if q<=i/\i<q+k then m i &&& ~~~g else m i
def zV(m:I8)(wh:Bool)(beh:BitVec 64)(place f t:Nat):I8:=λi =>
 if i=bg wh+place then zS m (bg (!wh)) (uL wh beh place t) 6 i ^^^ (1#64 <<< f ||| 1#64 <<< t)else zS m (bg (!wh)) (uL wh beh place t) 6 i
theorem qxx{m m':I8}(h:jS m M)(d:j<12)(b:∀i,i≠j->m' i=m i):jS m' (M.setIfInBounds j (I Zh (U (m' j)))):=by
 refine⟨by rw[Array.size_setIfInBounds];exact h.1,λi a=>?_⟩;by_cases e:i=j
 .subst e;rw[Yu,qI R,qI (by rw[h.1];exact a)]
 .rw[Yu,qF (λh=>e h.symm),b i e];exact h.2 i a
theorem qv{b:Nat}{t:TypeId}(h:W.heap[b]?=S (Z A t)):(W.setCell ⟨b,i,N⟩ v).heap[b]?=S (Z (A.setIfInBounds i v) t):=by have d:=(qB.1 h).1;have a:W.heap[b]=Z A t:=(qB.1 h).2;exact Iy
structure Af(w:I6)(FA:I0)(W:I6):Prop where
 fa:yk w.heap.size FA W
 res:W.heap[w.heap.size+1]?=S (Z yI 197)
 gr:Gr w W
theorem Af.next(h:Af w FA W)(g:Gr W a):Af w FA a:=⟨h.fa.gr g,(ZE g h.res),Gr.trans h.gr g⟩
theorem Af.drew(h:Af w FA W):Af w FA W.drew:=h.next ZO.drew
theorem yk.put{b:Nat}(h:yk b A W)(a:b≠g):yk b A (W.setRow g M):=⟨by rw[Xa];exact h.1,λj v d=>by rw[cell_setRow_other _ _ _ _ a];exact h.2 j v d⟩
theorem Af.put(h:Af w FA W)(a:w.heap.size+2<=g)(M:I0):Af w FA (W.setRow g M) :=
 ⟨h.fa.put O,by rw[Zu O];exact h.res,h.gr.setRow _ O _⟩
theorem oE(r:pO m wh own oth beh fc FA){d:Array Oper}{op:Oper}{a:Act}{S:I6->Prop}(g:Region.wanted op (yielded d a.tmps)=Zk)(x:Operand)(f:op.op=.load 197 x)(b:Nat)(i:a.eval x=ZI b)(e:∀w,S w->yk b FA w):YieldsIf prog d S op (Zc (vw FA)) a :=
 pd r.isMen.1 g x f b i (λW h=>r.held (e W h))
def Aw(w:I6)(FA:I0)(W:I6):Prop:=Af w FA W/\W.heap[w.heap.size+2]?=S (Z (vw FA) 197)
theorem Aw.next(h:Aw w FA W)(g:Gr W a):Aw w FA a:=⟨h.1.next g,(ZE g h.2)⟩
def Bf(w:I6)(M:I0)(W:I6):Prop:=W.heap[w.heap.size+2]?=S (Z M 197)/\W.heap[w.heap.size+1]?=S (Z yI 197)/\Gr w W
theorem nj(r:pO m wh own oth beh fc FA)(a f t:Nat)(hp:a<6)(hf:f<64)(ht:t<64)(w:I6):Calls prog 211 #[Zc FA,I L a,I L f,I L t] w λe w'=>∃M,e=Zd (Zc M)/\jS (zV m wh beh a f t) M/\Gr w w':=by
 have u:=X r;have V:=X (λb W=>FJ b W);obtain⟨x1,x2⟩:=x6 w (Z FA 202) (Z yI 197);have a3:Af w FA (((w.alloc (Z FA 202)).alloc (Z yI 197))):=⟨(yk.new w FA 202).gr ZN,x2,ZN.al⟩;have a6:((w.alloc (Z FA 202)).alloc (Z yI 197)).heap.size=w.heap.size+2:=WU;clear x1 x2;go_enter func211,ntmps211;go_upto_region 1 with fail;go_cut [9,10,11]from 14 to 22 (λs9 d4 d5 wx=>s9=ZI (w.heap.size+2)/\d4=I L (bg wh:Nat)/\d5=I L (bg (!wh):Nat)/\Af w FA wx/\wx.heap[w.heap.size+2]?=S (Z (vw FA) 197))
 case first=>
  have a1:=a3.drew;generalize c4:((w.alloc (Z FA 202)).alloc (Z yI 197))=W0 at a3 a1 a6;have b0:((w.alloc (Z FA 202)).alloc (Z #[I Zh 0,I Zh 0,I Zh 0,I Zh 0,I Zh 0,I Zh 0,I Zh 0,I Zh 0,I Zh 0,I Zh 0,I Zh 0,I Zh 0] 197))=W0:=c4;rw[b0];have j:(W0.alloc (Z yI 197)).drew.heap[w.heap.size+2]?=S (Z yI 197):=by rw[<-a6];exact Zv
  refine ZT (S:=Af w FA) WR a1 (λd=>?_);refine ZB 0 (ZI w.heap.size) R (λw E=>VA) d ?_;refine ty 1 (Zc (vw FA)) R (oE u.a Vb _ R w.heap.size R (λ_ h=>h.fa)) d ?_;refine ZB 2 (.pointer (S ⟨w.heap.size,12,N⟩)) R (λw E=>VA) d ?_;refine ZB 3 (Za wh) R (λw E=>VA) d ?_;refine ZB 5 (.pointer (S ⟨w.heap.size,12,N⟩)) R (λw E=>VA) d ?_;refine ZB 6 (Za wh) R (λw E=>VA) d ?_;refine ZB 7 (Za (!wh)) R (λw E=>VA) d ?_;refine Xk (rs:=[4,9]) WR WU ?_;refine Yc R (λK hK=>?_) (Yc R (λK hK=>?_) Xb);go_simp;refine(V.a _ _).mono ?_;rintro e wa ⟨rfl,rfl⟩;refine hK.out _ _ d λd=>?_;clear hK K;refine Xk (rs:=[8,9]) WR WU ?_;refine Yc R (λK hK=>?_) (Yc R (λK hK=>?_) Xb);go_simp;refine(V.a _ _).mono ?_;rintro e wa ⟨rfl,rfl⟩;refine hK.out _ _ d λd=>?_;clear hK K;refine rd 9 λK hK=>?_;go_simp;refine hK.out _ _ (d.next ZN) λd=>?_;rotate_left;go_simp;refine hK.out _ _ (d.next ZN) λd=>?_;clear hK K;refine rd 8 λK hK=>?_;go_simp;refine(V.a _ _).mono ?_;rintro e wa ⟨rfl,rfl⟩;refine hK.out _ _ d λd=>?_;rotate_left;go_simp;refine hK.out _ _ (d.next ZN) λd=>?_;clear hK K;refine rd 4 λK hK=>?_;go_simp;refine(V.a _ _).mono ?_;rintro e wa ⟨rfl,rfl⟩;refine hK.out _ _ d λd=>?_;clear hK K;refine rd 8 λK hK=>?_;go_simp;refine Z1 (V.a _ _) ?_;refine hK.out _ _ d λd=>?_;all_goals
   clear hK K;refine rd 10 λK hK=>?_;rw[qI Vb];refine YQ 197 _ _ R _ (vw FA) R R 197 yI j u.a.isMen.info u.a.isMen.1.symm u.a.isMen.ones ?_;refine hK.out _ _ (d.put Zy _) λd=>?_;clear hK K;simp only[py];refine rd 11 λK hK=>?_;go_simp;refine hK.out _ _ d λd=>?_;clear hK K;refine rd 12 λK hK=>?_;go_simp;refine hK.out _ _ d λd=>?_;clear hK K;refine ZZ WR ?_ _;go_wp2_with fail;go_meet
   case rel=>exact⟨R,R,R,d,Zt j⟩
 case rest=>
  obtain⟨rfl,rfl,rfl,hA,j⟩:=hcut;clear a3 a6;have A:=X (λ(x:Nat)(hx:x<64)(W:I6)=>A9 (x:Int) O O W);have a5:=A.a t ht;rw[rp t ht]at a5;have b2:=X a5;clear a5;go_upto_region 3 with(go_at_call 204;refine(b2.a _).mono ?_;rintro e w' ⟨rfl,rfl⟩);have a1:=hA;have b6:=j;have cb:w'.cell? ⟨w.heap.size,15,N⟩=S (I Zh (U beh)):=hA.fa.cell u.a.beh;have b4:=X (λW=>p9 u.a W);have P:Y (uL wh beh a t=if a=0/\1#64 <<< t=beh then pK beh (-(yV wh))else 1#64 <<< t):=X R;clear a1 b6;have D:Y (zV m wh beh a f t=λi=>if i=bg wh+a then zS m (bg (!wh)) (uL wh beh a t) 6 i ^^^ (1#64 <<< f ||| 1#64 <<< t)else zS m (bg (!wh)) (uL wh beh a t) 6 i):=X R;generalize a2:zV m wh beh a f t=AF at D;have J:=X a2;clear a2;generalize uL wh beh a t=G at D P;obtain⟨CB,B⟩:=Zn (Zm (a=0/\1#64 <<< t=beh));go_cut [32]from 25 to 31 (λf1 wx=>f1=Za CB/\wx=w')
  case first=>
   by_cases h0:a=0
   .have e0:((a:Int)==0)=Zk:=WX;obtain⟨x,hx⟩:=Zo (U (1#64 <<< t)==U beh);have a7:Y (CB=x):=X (by
     rw[<-B.a,<-hx];by_cases hb:1#64 <<< t=beh
     .rw[qJ ⟨h0,hb⟩,hb];simp
     .rw[qE (λh=>hb h.2)];exact(qM.2 (λh=>hb (pE h))).symm)
    clear h0 B;cases x<;>(go_wp2_with fail;go_meet;exact⟨by rw[a7.a],R⟩)
   .have e1:((a:Int)==0)=Zl:=WX;have a7:Y (CB=Zl):=X (by rw[<-B.a,qE (λh=>h0 h.1)]);clear h0 B;go_wp2_with fail;go_meet
    case rel=>exact⟨by rw[a7.a],R⟩
  case rest=>
   obtain⟨rfl,l⟩:=hcut;have p:=l.symm;subst p;clear l;go_upto_if 32 with fail;go_cut [12]from 33 to 38 (λf0 wx=>f0=I Zh (U G)/\Aw w FA wx)
   case first=>
    cases CB
    .have hG:Y (G=1#64 <<< t):=X (by rw[P.a,qF (of_decide_eq_false B.a)]);clear P B;go_wp2_with fail;go_meet
     case rel=>exact⟨by rw[hG.a],hA,j⟩
    .have hG:Y (G=pK beh (-(yV wh))):=X (by rw[P.a,qI (q8 B.a)]);have hz:=X u.a.size;clear P B;go_upto_region 4 with fail;have f2:IntKind.i64.wrap (-(yV wh))=-(yV wh):=Vn;have b1:(-7:Int)<=-(yV wh) ∧ -(yV wh)<=7:=Vn;have b7:Aw w FA w'.drew:=⟨hA.drew,j⟩;refine ZT (S:=Aw w FA) WR b7 (λd=>?_);refine ZB 0 (.pointer (S ⟨w.heap.size,15,N⟩)) R (λw E=>UL) d ?_;refine ZB 1 (I Zh (U beh)) R (λw E=>UL) d ?_;refine ty 2 (Zc FA) R (cX hz.a Vb _ R w.heap.size R (λ_ h=>h.1.fa)) d ?_;refine rd 3 λK hK=>?_;go_simp;refine Z0 (b4.a _) λwb c6=>?_;refine hK.out _ _ (d.next c6) λd=>?_;clear hK K;refine ZB 4 (I L (-(yV wh))) R (λw E=>UL) d ?_;refine rd 5 λK hK=>?_;go_simp;refine Z1 (Dw _ _ _ b1.1 b1.2) ?_;refine hK.out _ _ d λd=>?_;clear hK K;refine rd 6 λK hK=>?_;go_simp;refine hK.out _ _ d λd=>?_;clear hK K;refine ZZ WR ?_ _;go_wp2_with fail;go_meet
     case rel=>exact⟨by rw[oV,<-hG.a],d⟩
   case rest=>
    clear hA j;obtain⟨rfl,hA,j⟩:=hcut;clear P b4 B;go_upto_region 6 with fail;clear cb;generalize hQ:bg (!wh)=q;have f9:q<=6:=by rw[<-hQ];exact io _
    have g3:=X hQ;clear hQ;have a4:Y (jS (zS m q G 0) (vw FA)):=X (by
     have e:zS m q G 0=m:=by funext i;unfold zS;rw[qF O]
     rw[e];exact u.a.isMen)
    have b5:=X j;have a9:=X hA;clear j hA;go_loopg [39] 6 (λgg n wr=>∃(k:Nat)(M:I0),k+gg=6/\n=I L k/\jS (zS m q G k) M/\wr.heap[w.heap.size+2]?=S (Z M 197)/\wr.heap[w.heap.size+1]?=S (Z yI 197)/\Gr w wr)
    case atStart=>exact⟨0,vw FA,O,R,a4.a,b5.a,a9.a.res,a9.a.gr⟩
    case round=>
     obtain⟨k,M,k1,rfl,kM,k9,k8,kG⟩:=hrel;have a0:=X kM;have Q:=X k9;have g1:=X k8;have g2:=X kG;by_cases d0:k<6
     .have b3:q+k<12:=O;have c5:wr.cell? ⟨w.heap.size+2,q+k,N⟩=S (I Zh (U (m (q+k)))):=by rw[Zs k9,kM.2 _ b3];unfold zS;rw[qF O]
      have f6:wr.frozen? ⟨w.heap.size+2,q+k,N⟩=Zl:=by simp[World.frozen?,k9]
      have f5:bits .andNot Zh (U (m (q+k))) (U G)=U (m (q+k) &&& ~~~G):=qk1 _ _;have f7:0<=(k:Int):=O;have f8:(k:Int)<6:=O;clear kM k9 k8 kG;go_wp2;go_roundg (gk-1)
      case measure=>omega
      case rel=>
       refine⟨k+1,M.setIfInBounds (q+k) (I Zh (U (m (q+k) &&& ~~~G))),O,Vg,?_,qv Q.a,?_,Yr g2.a (show w.heap.size<=w.heap.size+2 from O) _⟩
       .have e:zS m q G (k+1) (q+k)=m (q+k) &&& ~~~G:=by unfold zS;rw[qI O]
        have:=qxx (m':=zS m q G (k+1)) (j:=q+k) a0.a b3 (λi hi=>by
         unfold zS;by_cases h:q<=i/\i<q+k
         .rw[qI h,qI O]
         .rw[qF h,qF O])
        rwa[e]at this
       .rw[Yg _ _ _ _ WU];exact g1.a
     .have ek:k=6:=O;subst ek;clear kM k9 k8 kG d0;have d3:=io wh;have g5:∀W:I6,Bf w M W->W.cell? ⟨w.heap.size+2,bg wh+a,N⟩=S (I Zh (U (zS m q G 6 (bg wh+a)))):=λW h=>by rw[Zs h.1];exact a0.a.2 _ O
      have d1:wr.drew.cell? ⟨w.heap.size+2,bg wh+a,N⟩=S (I Zh (U (zS m q G 6 (bg wh+a)))):=g5 wr ⟨Q.a,g1.a,g2.a⟩;have d2:wr.drew.frozen? ⟨w.heap.size+2,bg wh+a,N⟩=Zl:=by show wr.frozen? _=Zl;simp[World.frozen?,Q.a]
      clear g5;generalize bg wh=o at d3 D d1 d2 |-;have f3:0<=(o:Int)+a:=O;have f4:(o:Int)+a<12:=O;have g0:IntKind.i64.wrap ((o:Int)+a)=(o:Int)+a:=Vc;have e5:bits .or Zh (v6 (f:Int)) (v6 (t:Int))=U (1#64 <<< f ||| 1#64 <<< t):=by rw[rp f hf,rp t ht,uQ]
      have e6:bits .xor Zh (U (zS m q G 6 (o+a))) (U (1#64 <<< f ||| 1#64 <<< t))=U (zS m q G 6 (o+a) ^^^ (1#64 <<< f ||| 1#64 <<< t)):=oF _ _;go_upto_region 10 with fail;refine ZT (S:=λ_=>True) WR trivial (λd=>?_);refine tq 0 (I L o) d ?_;refine tq 1 (I L a) d ?_;refine tq 2 (I L ((o:Int)+a)) d ?_;refine tq 3 (.pointer (S ⟨w.heap.size+2,o+a,N⟩)) d ?_;refine tq 5 (I L f) d ?_;refine tq 7 (I L t) d ?_;refine Xk (rs:=[4,6]) WR WU ?_;refine Yc R (λK hK=>?_) (Yc R (λK hK=>?_) Xb);go_simp;refine hK.out _ _ trivial λd=>?_;clear hK K;refine rd 6 λK hK=>?_;go_simp;refine Z0 (A.a _ hf _) λw1 l=>?_;have p:=l.symm;subst p;clear l;refine hK.out _ _ trivial λd=>?_;clear hK K;refine rd 8 λK hK=>?_;go_simp;refine Z0 (A.a _ ht _) λw1 l=>?_;have p:=l.symm;subst p;clear l;refine hK.out _ _ trivial λd=>?_;clear hK K;refine tq 9 (I Zh (U (1#64 <<< f ||| 1#64 <<< t))) d ?_;rotate_left;go_simp;refine Z0 (A.a _ hf _) λw1 l=>?_;have p:=l.symm;subst p;clear l;refine hK.out _ _ trivial λd=>?_;clear hK K;refine Xk (rs:=[4,8]) WR WU ?_;refine Yc R (λK hK=>?_) (Yc R (λK hK=>?_) Xb);go_simp;refine hK.out _ _ trivial λd=>?_;clear hK K;refine rd 8 λK hK=>?_;go_simp;refine Z0 (A.a _ ht _) λw1 l=>?_;have p:=l.symm;subst p;clear l;refine hK.out _ _ trivial λd=>?_;clear hK K;refine tq 9 (I Zh (U (1#64 <<< f ||| 1#64 <<< t))) d ?_;rotate_left;go_simp;refine Z0 (A.a _ ht _) λw1 l=>?_;have p:=l.symm;subst p;clear l;refine hK.out _ _ trivial λd=>?_;clear hK K;refine tq 9 (I Zh (U (1#64 <<< f ||| 1#64 <<< t))) d ?_;refine rd 4 λK hK=>?_;go_simp;refine hK.out _ _ trivial λd=>?_;clear hK K;all_goals
       refine tq 10 (I Zh (U (zS m q G 6 (o+a) ^^^ (1#64 <<< f ||| 1#64 <<< t)))) d ?_;refine tq 11 (.pointer (S ⟨w.heap.size+2,o+a,N⟩)) d ?_;refine rd 12 λK hK=>?_;go_simp;refine hK.out _ _ trivial λd=>?_;clear hK K;refine ZZ WR ?_ _;have g:=X (qxx (m':=AF) (j:=o+a) a0.a O (λi hi=>by rw[D.a];simp only[qF hi,g3.a]));have T:AF (o+a)=zS m q G 6 (o+a) ^^^ (1#64 <<< f ||| 1#64 <<< t):=by rw[D.a];simp only[YS,g3.a]
       rw[T]at g;have y:=qv (i:=o+a) (v:=I Zh (U (zS m q G 6 (o+a) ^^^ (1#64 <<< f ||| 1#64 <<< t)))) Q.a;have F:(wr.setCell ⟨w.heap.size+2,o+a,N⟩ (I Zh (U (zS m q G 6 (o+a) ^^^ (1#64 <<< f ||| 1#64 <<< t))))).heap[w.heap.size+1]?=S (Z yI 197):=by rw[Yg _ _ _ _ WU];exact g1.a
       have g4:Gr w (wr.setCell ⟨w.heap.size+2,o+a,N⟩ (I Zh (U (zS m q G 6 (o+a) ^^^ (1#64 <<< f ||| 1#64 <<< t))))):=Yr g2.a (show w.heap.size<=w.heap.size+2 from O) _;generalize (wr.setCell ⟨w.heap.size+2,o+a,N⟩ (I Zh (U (zS m q G 6 (o+a) ^^^ (1#64 <<< f ||| 1#64 <<< t)))))=wz at y F g4 |-;generalize M.setIfInBounds (o+a) (I Zh (U (zS m q G 6 (o+a) ^^^ (1#64 <<< f ||| 1#64 <<< t))))=z at y g;clear d1 d2;have g6:wz.drew.heap[w.heap.size+2]?=S (Z z 197):=y;have H:wz.drew.heap[w.heap.size+1]?=S (Z yI 197):=F;go_wp2_with(first|(refine ZV R 197 _ R (w.heap.size+2) R 197 z (0,0) _ g6 underlying197 rfl g.a.info ?_)|(refine ZU R 197 _ _ R (w.heap.size+1) z R R 197 yI H g.a.info g.a.1.symm g.a.ones ?_));exact ZS (v:=Zc z) (Yp results211 _ _ (w.heap.size+1) 197 z (0,0) _ R (Zt H) underlying197 rfl g.a.info) R ⟨z,R,(by rw[J.a];exact g.a),g4.drew.setRow _ O _⟩
variable {m:I8}{wh:Bool}{own oth beh:BitVec 64}{fc:I5}{FA:I0}
def kE(m:I8)(wh:Bool)(beh:BitVec 64)(place f t:Nat):Bool:=!(uG (zV m wh beh place f t) (zV m wh beh place f t (bg wh+5)) wh)
def putMen(FA M:I0):I0:=put 0 M FA
theorem pO.putMen{m':I8}(r:pO m wh own oth beh fc FA)(h:jS m' M):pO m' wh own oth beh fc (putMen FA M):=by
 have p:=zo 0 M FA;have d:=r.size;have a:∀i,(C.putMen FA M)[i]?=if i<12 then M[i]? else FA[i]?:=λi=>by have:=p.2 i (by rw[h.1,d];omega);unfold C.putMen;rw[this,h.1];simp
 refine⟨by unfold C.putMen;rw[p.1];exact d,λi b=>?_,?_,?_,?_,?_,λi b=>?_⟩
 .rw[a,qI b];exact h.2 i b
 .rw[a,qF O];exact r.wh
 .rw[a,qF O];exact r.own
 .rw[a,qF O];exact r.oth
 .rw[a,qF O];exact r.beh
 .rw[a,qF O];exact r.c i b
theorem zx{b:Nat}(d:B<=b):∀(e:List I7)(o:Nat)(w:I6),Below B a w->Below B a (w.setCells b o e)
 | [],_,_,h=>h
 | v :: r,o,_,h=>zx d r (o+1) _ (h.setCell (p:=⟨b,o,N⟩) d v)
theorem mN(b:FA.size=20)(a:M.size=12)(i:Nat):(putMen FA M)[i]?=if i<12 then M[i]? else FA[i]?:=by grind[zo,putMen]
theorem bF{b:Nat}{t:TypeId}(h:W.heap[b]?=S (Z FA t))(d:n<=FA.size):W.there b 0 n:=λj a=>by
 constructor
 .rw[Zs h,qQ O];rfl
 .simp[World.frozen?,h]
theorem yk.putMen{b:Nat}{t:TypeId}(h:W.heap[b]?=S (Z FA t))(f:FA.size=20)(a:M.size=12):yk b (putMen FA M) (W.setCells b 0 M.toList):=by
 refine⟨qN (qB.1 h).1 (zx (B:=0) (Nat.zero_le _) _ _ _ (XL _ _)).size,λj v d=>?_⟩;rw[qO,mN f a]at d;by_cases e:j<12
 .rw[qI e]at d;have:=World.cell?_setCells_in b M.toList 0 W (λi g=>(bF (n:=12) h (by rw[f];omega) i (by simpa[a]using g)).1) j (by simp[a];exact e);rw[this];rw[<-d,qQ (by rw[a];exact e)];simp
 .rw[qF e]at d;rw[World.cell?_setCells_out b M.toList 0 W _ (λ_ _=>Zj (by simp[a];omega)),Zs h,Z2];exact d
theorem mf(r:pO m wh own oth beh fc FA)(a f t:Nat)(a1:a<6)(a3:f<64)(P:t<64)(w:I6)(a0:jF w):ZL 134 #[Zc FA,I L a,I L f,I L t] w (Za (kE m wh beh a f t)):=by
 have E:=X r;have y:=yk.new w FA 202;have z:=(Gr.refl w).alloc FA 202;have k:=ZQ w (Z FA 202);have v:=X (λW=>nj r a f t a1 a3 P W);clear r;go_enter func134,ntmps134;go_upto_region 2 with(first
  | (go_at_call 211;refine(v.a _).mono ?_;rintro e w' ⟨M,rfl,j,g⟩)
  | (refine jd Vb _ R w.heap.size R E.a.size y ?_)
  | (refine wpList_store_mid R 197 _ _ R w.heap.size 0 M R R (bF ((Zz g Vj).trans k) (by rw[j.1,E.a.size];omega)) j.info j.ones ?_))
 have x:=(YG g w.heap.size Vj).trans k;have b:=X (E.a.putMen j);have G:HF w w.heap.size (putMen FA M) (w'.setCells w.heap.size 0 M.toList).drew:=⟨(yk.putMen x E.a.size j.1).gr ZO.drew,(zx Zy _ _ _ (Gr.trans z g)).drew⟩;have H:=X j;clear j x g y z k v;generalize w'.setCells w.heap.size 0 M.toList=a4 at G |-;generalize p:putMen FA M=F at b G;clear p;have D:=X (λW=>FL (zV m wh beh a f t) _ b.a.isMen wh W);have i:=X (λs W a0=>qv0 b.a s W a0);have l:Y (kE m wh beh a f t=!(uG (zV m wh beh a f t) (zV m wh beh a f t (bg wh+5)) wh)):=X R;generalize q:kE m wh beh a f t=a2 at l;have u:=X q;clear q;have J:=X b.a.size;generalize zV m wh beh a f t=Q at b D i l H;refine ZT (S:=HF w w.heap.size F) WR G (λd=>?_);refine ty 0 (Zc F) R (cX J.a Vb _ R w.heap.size R (λ_ h=>h.1)) d ?_;refine ZB 1 (ZI w.heap.size) R (λw n=>UZ) d ?_;refine ty 2 (Zc (vw F)) R (oE b.a Vb _ R w.heap.size R (λ_ h=>h.1)) d ?_;refine ZB 3 (.pointer (S ⟨w.heap.size,12,N⟩)) R (λw n=>UZ) d ?_;refine ZB 4 (Za wh) R (λw n=>UZ) d ?_;refine rd 5 λK hK=>?_;go_simp;refine Z0 (D.a _) λT A=>?_;refine hK.out _ _ (d.gr A) λd=>?_;clear hK K A;refine rd 6 λK hK=>?_;go_simp;refine Z0 (i.a _ _ (a0.gr d.2)) λV B=>?_;refine hK.out _ _ (d.gr B) λd=>?_;clear hK K B;refine ZB 7 (Za a2) R (λw n=>by rw[l.a];go_simp) d ?_;refine rd 8 λK hK=>?_;go_simp;refine hK.out _ _ d λd=>?_;clear hK K;refine ZZ WR ?_ _;go_wp2_with fail;go_ret;exact⟨by rw[u.a];rfl,d.2⟩
end
end Go.Proofs.YtnfakamfmkhlbabGreatDoor.C
