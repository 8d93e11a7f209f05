import Derived.Test.YtnfakamfmkhlbabGreatDoorB11
set_option maxRecDepth 100000
set_option maxHeartbeats 4000000
set_option linter.all false
open Go.Value renaming int->I,bool->Za,string->Zb,agg->Zc,tuple->Ze,slice->Zq
open Go.IntKind renaming i64->L,u8->Zg,u64->Zh
open Go.Obj renaming cells->Z
open Go.Ending renaming returned->Zd
open Or renaming inl->Zi,inr->Zj
open Option renaming some->S,none->N
open Bool renaming true->Zk,false->Zl
open Decidable renaming decide->Zm
open Go.RowKit renaming Hid->Y
open Go renaming World->I6,Value->I7
namespace Go.Proofs.YtnfakamfmkhlbabGreatDoor.C
open Go.ChangeShapes Go.WideShapes Go.ChangeAt Go.RowKit Go.Shelf Go.Proofs.YtnfakamfmkhlbabGreatDoor.P Tryz
attribute [local go_sem] qd qe Oper.semAt_some
variable {z:I2}{wh:Bool}{b h m:Int}{PA A M:I0}{fc:I5}{w W a w' w1 V:I6}{f n i k g base d e l j x B Bp:Nat}{v:I7}{u:UInt8}{Q:Nat->Obj->Prop}{rs:I3}{y:I1}
theorem qv7{α β:Type}{A B:α->List β}:∀l:List α,(∀k∈l,(A k).Sublist (B k))->(l.flatMap A).Sublist (l.flatMap B)
 | [],_=>by simp
 | a :: r,h=>by
  rw[List.flatMap_cons,List.flatMap_cons];exact List.Sublist.append (h a (XE ..)) (qv7 r λk b=>h k (Xg _ b))
theorem eG(z:Nat->UInt8):∀l:List Nat,(nu z l).Sublist l
 | []=>by simp[nu]
 | a :: r=>by
  unfold nu;split
  .exact List.Sublist.cons_cons a (eG z r)
  .exact List.Sublist.cons_cons a (List.nil_sublist r)
theorem m7:∀x,x<64->((List.range 16).flatMap λk=>if k<8 then rr k x else[]).Nodup:=WS
theorem ez:∀x,x<64->((List.range 16).flatMap λk=>if pM x (jU k)then[nx x (jU k)]else[]).Nodup:=WS
theorem iD(j:f<64){b:Bool}(q:i<6)(p:jB (z f)=((bg b+i:Nat):Int)):(zU z f 16).Nodup:=by
 have o:bg b=0\/bg b=6:=Tw;have h:bg b+i<12:=O;have m:=jn h p;have l:(bg b+i)%6=i:=O;have g:=uv (bg b+i) h;rw[l]at g;unfold zU;cases a:vx i with
 | true =>
  have n:=qjz (bg b+i) h (by rw[l];exact a);refine List.Nodup.sublist (qv7 _ λk d=>?_) (m7 f j);have d:=qK.1 d;unfold yj;rw[m,(n k d).1,g,a,qI R];by_cases e:k<8
  .rw[qI e];split
   .unfold kq;rw[uH];exact eG z _
   .exact List.nil_sublist _
  .rw[qF Tf,qF e];exact List.nil_sublist _
 | false =>
  refine List.Nodup.sublist (qv7 _ λk d=>?_) (ez f j);unfold yj;rw[m,g,a,gy];split
  .rw[qF WU];exact List.Sublist.refl _
  .exact List.nil_sublist _
theorem bR:∀x,x<64->(rr 0 x).Nodup/\(rr 4 x).Nodup:=WS
theorem qze{f:Nat->Int}{s x y:Int}(h:xS f 0 s x y=Zk):y%8≠x%8:=by unfold xS at h;rw[qI R,qH,YF,YF]at h;intro e;rw[e]at h;have:=h.1;unfold ab at this;split at this<;>omega
theorem lu(q:kJ z wh fc b)(k:f<64)(p:i<6)(j:jB (z f)=((bg wh+i:Nat):Int)):(yF z wh fc b f).Nodup:=by
 obtain⟨B,y⟩:=zj p j;have x:=iD k p j;unfold yF;rw[B,y,List.nodup_append];refine⟨List.Pairwise.filter _ x,?_,?_⟩
 .by_cases m:i=0
  .rw[qJ m,qI R];unfold cW;refine List.Nodup.sublist ((List.takeWhile_sublist _).trans (List.take_sublist _ _)) ?_;unfold kq;rw[uH];refine List.Nodup.sublist (eG z _) ?_;cases wh
   .exact(bR f k).2
   .exact(bR f k).1
  .rw[qE m,qF WU];by_cases n:i=5
   .rw[qJ n,qI R,List.nodup_append];refine⟨by unfold uz;split<;>simp,by unfold pA;split<;>simp,λa g c j e=>?_⟩;unfold uz at g;unfold pA at j;split at g
    .split at j
     .simp at g j;omega
     .cases j
    .cases g
   .rw[qE n,qF WU];exact List.nodup_nil
 .intro a g c d e;subst e;have g:=(qV.1 g).1;have l:=cP k g;rw[Dq k p j l]at g;by_cases m:i=0
  .subst m;have C:=q.pw wh f k j;rw[qJ R,qI R,Fq k C]at d;have v:=qze g;obtain⟨e,_⟩|⟨u,e,_⟩:=d
   .unfold fw at e;cases wh<;>simp at e<;>omega
   .unfold fw at e;unfold vQ at u;cases wh<;>simp at e u<;>omega
  .rw[qE m,qF WU]at d;by_cases n:i=5
   .subst n;rw[qJ R,qI R]at d;have:=(qx8 g).1;rw[FI _ 5 O _ 1]at this;have A:=qxv f k a l this;obtain⟨v,w⟩:=FK q k j;obtain h|h:=Yi.1 d
    .unfold uz at h;split at h
     .simp at h;omega
     .cases h
    .unfold pA at h;split at h
     .rename_i r;rw[qH]at r;have o:=w r.1;have:2<=f:=by rw[o];cases wh<;>decide
      simp at h;omega
     .cases h
   .rw[qE n,qF WU]at d;cases d
theorem qj1(p:Bool)(f t:Nat):(xT p f t).Nodup:=by
 unfold xT;split
 .simp
 .simp
theorem FP{p:Bool}{t:Nat}{x:Mv}(h:x∈xT p f t):x.1=f/\x.2.1=t:=by obtain⟨u,rfl,_⟩:=wX h;exact⟨R,R⟩
theorem fF(j:kJ z wh fc b):(yo z wh fc b).Nodup:=by
 unfold yo;refine List.Pairwise.filter _ ?_;unfold ye;rw[X4];constructor
 .intro f g;have g:=qK.1 g;unfold nh;split
  .rename_i k;rw[rt (ji j.ok g),qG]at k;obtain⟨i,m,l,_⟩:=zq k;rw[X4];refine⟨λt _=>qj1 _ _ _,(lu j g m l).imp λ{a c} hne x hx y hy e=>?_⟩;subst e;exact hne ((FP hx).2.symm.trans (FP hy).2)
  .exact List.Pairwise.nil
 .refine(List.nodup_range (n:=64)).imp λ{a c} hne x hx y hy e=>?_;subst e;have d:∀f,x∈nh z wh fc b f->x.1=f:=λf h=>by
   unfold nh at h;split at h
   .obtain⟨t,_,h⟩:=YX.1 h;exact(FP h).1
   .cases h
  exact hne ((d a hx).symm.trans (d c hy))
theorem po(s:BitVec 64):(vD s).Nodup:=List.Pairwise.filter _ (List.nodup_range (n:=64))
theorem fB(z:I2)(wh:Bool)(fc:I5)(b:Int):(xC z wh fc b).Nodup:=by
 have p:∀(m:I8)(own l beh:BitVec 64)(k f:Nat)(x:Mv),x∈kF m wh own l beh fc k f->x.1=f:=λm own l beh k f x h=>by
  unfold kF bE at h;obtain⟨t,_,h⟩:=YX.1 h;split at h
  .exact(FP h).1
  .cases h
 unfold xC zH List.Nodup;rw[X4];constructor
 .intro k _;unfold yN;rw[X4];constructor
  .intro f _;unfold kF;rw[X4];constructor
   .intro t _;unfold bE;split
    .exact qj1 _ _ _
    .exact List.Pairwise.nil
   .refine(po _).imp λ{a c} hne x d y i e=>?_;subst e;unfold bE at d i;split at d
    .split at i
     .exact hne ((FP d).2.symm.trans (FP i).2)
     .cases i
    .cases d
  .refine(po _).imp λ{a c} hne x d y i e=>?_;subst e;exact hne ((p _ _ _ _ _ _ _ d).symm.trans (p _ _ _ _ _ _ _ i))
 .refine(List.nodup_range (n:=6)).imp λ{a c} hne x d y i e=>?_;subst e;unfold yN at d i;obtain⟨f,o,d⟩:=YX.1 d;obtain⟨g,j,i⟩:=YX.1 i;have q:=p _ _ _ _ _ _ _ d;have r:=p _ _ _ _ _ _ _ i;rw[Dt]at o j;rw[vH z _ f o.1,qG]at o;rw[vH z _ g j.1,qG]at j;rw[<-r,q,o.2]at j;have:=j.2;exact hne O
theorem Fm:∀f,f<64->∀g,g<64->xQ f=xQ g->f=g:=WS
theorem oX{x y:Mv}(g:bi x)(i:bi y)(h:yJ x=yJ y):x=y:=by
 obtain⟨f,t,u⟩:=x;obtain⟨m,o,e⟩:=y;unfold yJ uY at h;simp only at h;rw[qS,qS]at h;obtain⟨n,d⟩:=List.append_inj h R;obtain⟨d,b⟩:=List.append_inj d R;have j:=Fm f g.1 m i.1 n;have k:=Fm t g.2 o i.2 d;have l:u=e:=by
  by_cases a:u=0
  .by_cases c:e=0
   .rw[a,c]
   .rw[qI a,qF c]at b;cases b
  .by_cases c:e=0
   .rw[qF a,qI c]at b;cases b
   .rw[qF a,qF c]at b;injection b
 rw[j,k,l]
theorem zu{α:Type}{r:α->α->Prop}(d:∀a b,r a b->¬ r b a):∀(l m:List α),l.Pairwise r->m.Pairwise r->(∀x,x∈l↔x∈m)->l=m
 | [],[],_,_,_=>rfl
 | [],b :: r2,_,_,h=>absurd ((h b).2 (XE ..)) WU
 | a :: r1,[],_,_,h=>absurd ((h a).1 (XE ..)) WU
 | a :: r1,b :: r2,h1,h2,h=>by
  rw[List.pairwise_cons]at h1 h2
  have j:a=b:=by
   rcases Yj.1 ((h a).1 (XE ..))with e|e
   .exact e
   .rcases Yj.1 ((h b).2 (XE ..))with i|i
    .exact i.symm
    .exact absurd (h1.1 b i) (d _ _ (h2.1 a e))
  subst j;have g:¬ r a a:=λk=>d _ _ k k;rw[zu d r1 r2 h1.2 h2.2 λx=>?_];constructor
  .intro f;rcases Yj.1 ((h x).1 (Xg _ f))with e|e
   .rw[e]at f;exact absurd (h1.1 a f) g
   .exact e
  .intro f;rcases Yj.1 ((h x).2 (Xg _ f))with e|e
   .rw[e]at f;exact absurd (h2.1 a f) g
   .exact e
theorem qvc{d:List Mv}(l:d.Nodup)(j:∀x∈d,bi x):(jI d).Pairwise λx y=>yJ x<yJ y:=by
 have g:(jI d).Pairwise λx y=>(!n8 y x)=Zk:=by
  unfold jI;refine List.pairwise_mergeSort (λa b c g i=>?_) (λa b=>?_) d
  .unfold n8 at *;simp only[YK,qX]at *;exact Wn.2 (List.le_trans (Wn.1 g) (Wn.1 i))
  .unfold n8;rw[Ym];simp only[YK,qX];rcases List.le_total (yJ a) (yJ b)with h|h
   .exact Zi (Wn.2 h)
   .exact Zj (Wn.2 h)
 have i:(jI d).Nodup:=List.Nodup.perm l (xq d).symm;have e:∀x∈jI d,bi x:=λx m=>j x ((xq d).mem_iff.1 m);have k:(jI d).Pairwise λx y=>(!n8 y x)=Zk/\x≠y:=List.Pairwise.and g i;refine List.Pairwise.imp_of_mem (λ{a c} ha hc h=>?_) k;unfold n8 at h;simp only[YK,qX]at h;by_cases f:yJ a<yJ c
 .exact f
 .exact absurd (oX (e a ha) (e c hc) (List.le_antisymm (Wn.1 h.1) (Wn.1 f))) h.2
theorem Fd(d:kJ z wh fc b)(e:-1<=b)(f:b<=63):jI (yo z wh fc b)=jI (xC z wh fc b)/\(jI (xC z wh fc b)).Pairwise λx y=>yJ x<yJ y:=by grind[qjw,qvc,fF,iI,qV,fB,zg,zu,xq,je]
theorem Fp{s:I4}{p:pH}(b:xG s=S p)(a:xP p=Zk):kJ (xM p) p.white p.castle p.behind ∧ -1<=p.behind/\p.behind<=63:=⟨qkv a,qjv b⟩
def zO(t:Nat):Bool:=Zm (t/8=0)||decide (t/8=7)
def uI(f t:Nat):Int:=((t/8:Nat):Int)-((f/8:Nat):Int)
def DC(z:I2)(wh:Bool)(f t:Nat):Bool:=Zm (uI f t=xK wh)||(Zm (uI f t=2*xK wh)&&Zm (f/8=(if wh then 1 else 6))&&Zm (z (if wh then f+8 else f-8)=46))
def BD(z:I2)(wh:Bool)(b:Int)(f t:Nat):Bool :=
 if xS (zI z) 0 (xK wh) (f:Int) (t:Int)then Zm (vB (z t)=xK (!wh))||decide ((t:Int)=b)
 else Zm (f%8=t%8)&&Zm (z t=46)&&DC z wh f t
def EE(z:I2)(wh:Bool)(fc:I5)(k f t:Nat)(u:UInt8):Bool :=
 if xS (zI z) k (xK wh) (f:Int) (t:Int)then Zk
 else Zm (k=5)&&Zm (0<=zK wh fc f t u)&&km z (zK wh fc f t u).toNat
def j9(z:I2)(wh:Bool)(fc:I5)(b:Int)(f t:Nat)(u:UInt8):Bool :=
 Zm (vB (z f)=xK wh)&&!decide (vB (z t)=xK wh)&&(Zm (u≠0)==(Zm (vE (z f)=0)&&zO t))&&(if vE (z f)=0 then BD z wh b f t else EE z wh fc (vE (z f)).toNat f t u)
def U5:I1:=[0,98,110,113,114]
theorem mh:∀t,t<64->kP.getLsbD t=zO t:=WS
theorem pg{p:Bool}{t:Nat}(b:t<64)(a:u∈U5):(f,t,u)∈xT p f t↔(Zm (u≠0)==(p&&zO t))=Zk:=by
 unfold xT;rw[mh t b];unfold U5 at a;simp only[Yj,XC,or_false]at a;cases p&&zO t
 .rw[qF WU];rcases a with rfl|rfl|rfl|rfl|rfl<;>simp
 .rw[qI R];rcases a with rfl|rfl|rfl|rfl|rfl<;>simp
theorem ro{c:UInt8}(a:i<6)(h:jB c=((bg wh+i:Nat):Int)):vE c=(i:Int):=by
 unfold vE;rw[h];unfold bg;cases wh
 .simp only[qR,YH];rw[qI O];omega
 .simp only[YS];rw[qF O];omega
theorem ir{t:Nat}(k:f<64)(j:t<64)(l:¬ (f/8=0\/f/8=7)):(Zm (f%8=t%8)&&Zm (z t=46)&&DC z wh f t)=Zk↔oB z wh f t:=by
 unfold DC uI oB vQ;simp only[qH,Ym,qG];cases wh;have g:fw Zl f 1=f-8:=R;have h:fw Zl f 2=f-16:=R;rw[g,h];simp only[xK,qR,YH];constructor
 .rintro⟨⟨b,a⟩,d|⟨⟨d,e⟩,i⟩⟩
  .have:t=f-8:=O;exact Zi ⟨this,Ts⟩
  .have:t=f-16:=O;exact Zj ⟨e,this,i,Ts⟩
 rotate_left;have g:fw Zk f 1=f+8:=R;have h:fw Zk f 2=f+16:=R;rw[g,h];simp only[xK,YS];constructor
 .rintro⟨⟨b,a⟩,d|⟨⟨d,e⟩,i⟩⟩
  .have:t=f+8:=O;exact Zi ⟨this,Ts⟩
  .have:t=f+16:=O;exact Zj ⟨e,this,i,Ts⟩
 all_goals
  .rintro(⟨b,a⟩|⟨b,a,d,e⟩)
   .exact⟨⟨O,Uf⟩,Zi O⟩
   .exact⟨⟨O,by rw[a];exact e⟩,Zj ⟨⟨O,b⟩,d⟩⟩
theorem DN{t:Nat}(g:¬ (f/8=0\/f/8=7))(h:oB z wh f t):z t=46/\xS (zI z) 0 (xK wh) (f:Int) (t:Int)=Zl:=by grind[oB,vQ,fw,xS,zI,xK,qze]
theorem dq:∀i,i<4->xY i=((hK i:Nat):Int)/\vN i=((xE i:Nat):Int)/\zD i=((hR i:Nat):Int):=WS
theorem tY(g:i<4):nB z i=wn z (hK i) (hD i) (hN i):=by
 have b:∀n,(((z n).toNat:Int)=46)↔(z n==46)=Zk:=λn=>by
  constructor
  .intro h;have:z n=46:=uc h R;simp[this]
  .intro h;have:z n=46:=Vq;rw[this];rfl
 unfold nB freeI wn;rw[YW,qG,qW];have d:i=0\/i=1\/i=2\/i=3:=O;constructor
 .intro h j a;have a:=qK.1 a;rw[<-b];have e:kC (hK i) (hD i) (j+1)=(ll i (j+1)).toNat:=by unfold kC ll xY hD hK;rcases d with rfl|rfl|rfl|rfl<;>simp<;>omega
  rw[e];refine h (j+1) ?_ O;unfold hN at a;unfold AR;rcases d with rfl|rfl|rfl|rfl<;>simp at a |-<;>omega
 .intro h j a f;have:=h (j-1) (qK.2 (by
   unfold AR at a;unfold hN;rcases d with rfl|rfl|rfl|rfl<;>simp at a |-<;>omega))
  rw[<-b]at this;rw[<-this];have e:kC (hK i) (hD i) (j-1+1)=(ll i j).toNat:=by unfold kC ll xY hD hK;rcases d with rfl|rfl|rfl|rfl<;>simp<;>omega
  rw[e]
theorem Fx(b:xO z=Zk)(d:i<4):km z i=az z (Zm (i<2)) (hK i) (hD i) (hN i):=by
 unfold km az;rw[tY d];unfold DD;have e:∀p:I5,(List.range 3).all p=(p 0&&(p 1&&(p 2&&Zk))):=λp=>R;rw[e];have a:∀j,j<3->vL z (kC (hK i) (hD i) j) (!decide (i<2))=zM z (((kC (hK i) (hD i) j:Nat)):Int) (!decide (i<2)):=λj g=>jk b (eD i d j O Ob) _;rw[a 0 O,a 1 O,a 2 O];have q:xY i=((kC (hK i) (hD i) 0:Nat):Int)/\(xY i+vN i).tdiv 2=((kC (hK i) (hD i) 1:Nat):Int)/\vN i=((kC (hK i) (hD i) 2:Nat):Int):=by have f:i=0\/i=1\/i=2\/i=3:=O;rcases f with rfl|rfl|rfl|rfl<;>decide
 rw[<-q.1,<-q.2.1,<-q.2.2];cases wn z (hK i) (hD i) (hN i)<;>cases zM z (xY i) (!decide (i<2))<;>cases zM z ((xY i+vN i).tdiv 2) (!decide (i<2))<;>cases zM z (vN i) (!decide (i<2))<;>rfl
theorem zv{t:Nat}(j:i<4):jZ wh fc f t 0 i=Zk↔fc i=Zk/\wh=Zm (i<2)/\f=hK i/\t=xE i:=by
 obtain⟨d,e,_⟩:=dq i j;unfold jZ;rw[d,e];simp only[qH,YF];constructor
 .rintro⟨⟨⟨⟨a,b⟩,g⟩,h⟩,_⟩;refine⟨a,?_,O,O⟩;revert b;cases wh<;>cases Zm (i<2)<;>simp[xK]
 .rintro⟨a,b,g,h⟩;exact⟨⟨⟨⟨a,by rw[b]⟩,O⟩,O⟩,R⟩
theorem Fv{t:Nat}:(Zm (0<=zK wh fc f t 0)&&km z (zK wh fc f t 0).toNat)=Zk↔∃i,i<4/\wh=Zm (i<2)/\fc i=Zk/\f=hK i/\t=xE i/\km z i=Zk/\zK wh fc f t 0=(i:Int):=by
 have a:zK wh fc f t 0=if jZ wh fc f t 0 0 then 0 else if jZ wh fc f t 0 1 then 1 else if jZ wh fc f t 0 2 then 2 else if jZ wh fc f t 0 3 then 3 else -1:=R;constructor
 .intro h;rw[qH,qG]at h;obtain⟨p,l⟩:=h;have b:∀i,i<4->jZ wh fc f t 0 i=Zk->zK wh fc f t 0=(i:Int)->∃i,i<4/\wh=Zm (i<2)/\fc i=Zk/\f=hK i/\t=xE i/\km z i=Zk/\zK wh fc f t 0=(i:Int):=λi d q m=>by obtain⟨e,g,j,k⟩:=(zv d).1 q;rw[m]at l;exact⟨i,d,g,e,j,k,l,m⟩
  by_cases c0:jZ wh fc f t 0 0=Zk
  .exact b 0 O c0 (by rw[a,qI c0];rfl)
  .by_cases c1:jZ wh fc f t 0 1=Zk
   .exact b 1 O c1 (by rw[a,qF c0,qI c1];rfl)
   .by_cases c2:jZ wh fc f t 0 2=Zk
    .exact b 2 O c2 (by rw[a,qF c0,qF c1,qI c2];rfl)
    .by_cases c3:jZ wh fc f t 0 3=Zk
     .exact b 3 O c3 (by rw[a,qF c0,qF c1,qF c2,qI c3];rfl)
     .rw[a,qF c0,qF c1,qF c2,qF c3]at p;omega
 .rintro⟨i,d,e,g,j,k,n,o⟩;rw[o,qH,qG];exact⟨O,n⟩
theorem lQ{t:Nat}(o:i<4)(k:fc i=Zk)(l:wh=Zm (i<2))(m:f=hK i)(g:t=xE i):zK wh fc f t 0=(i:Int):=by
 have q:zK wh fc f t 0=if jZ wh fc f t 0 0 then 0 else if jZ wh fc f t 0 1 then 1 else if jZ wh fc f t 0 2 then 2 else if jZ wh fc f t 0 3 then 3 else -1:=R;have b:jZ wh fc f t 0 i=Zk:=(zv o).2 ⟨k,l,m,g⟩;have a:∀j,j<4->j≠i->¬ jZ wh fc f t 0 j=Zk:=λj p e h=>by have:=((zv p).1 h).2.2.2;rw[g]at this;revert this;unfold xE;have d:i=0\/i=1\/i=2\/i=3:=O;have n:j=0\/j=1\/j=2\/j=3:=O;rcases d with rfl|rfl|rfl|rfl<;>rcases n with rfl|rfl|rfl|rfl<;>simp at e |-
 rw[q];have d:i=0\/i=1\/i=2\/i=3:=O;obtain rfl|rfl|rfl|rfl:=d
 .rw[qI b];rfl
 .rw[qF (a 0 O O),qI b];rfl
 .rw[qF (a 0 O O),qF (a 1 O O),qI b];rfl
 .rw[qF (a 0 O O),qF (a 1 O O),qF (a 2 O O),qI b];rfl
theorem tc(l:kJ z wh fc b){t:Nat}(D:f<64)(C:jB (z f)=((bg wh+5:Nat):Int)):t∈uz z wh fc f++pA z wh fc f↔(Zm (0<=zK wh fc f t 0)&&km z (zK wh fc f t 0).toNat)=Zk:=by
 obtain⟨F,G⟩:=FK l D C;rw[Fv,Yi];have e:(hK (jC wh)+2=xE (jC wh)/\hD (jC wh)=1/\hN (jC wh)=2/\jC wh<4/\Zm (jC wh<2)=wh)/\(hK (jC wh+1)-2=xE (jC wh+1)/\hD (jC wh+1)=-1/\hN (jC wh+1)=3/\jC wh+1<4/\Zm (jC wh+1<2)=wh):=Vn;obtain⟨⟨q,r,u,m,n⟩,⟨v,w,x,o,p⟩⟩:=e;constructor
 .rintro(h|h)
  .unfold uz at h;split at h
   .rename_i d;rw[qH]at d;have a:=F d.1;have j:t=xE (jC wh):=by rw[qT.1 h,<-q,<-a]
    exact⟨jC wh,m,n.symm,d.1,a,j,by rw[Fx l.ok m,n,r,u,<-a];exact d.2,lQ m d.1 n.symm a j⟩
   .cases h
  .unfold pA at h;split at h
   .rename_i d;rw[qH]at d;have a:=G d.1;have j:t=xE (jC wh+1):=by rw[qT.1 h,<-v,<-a]
    exact⟨jC wh+1,o,p.symm,d.1,a,j,by rw[Fx l.ok o,p,w,x,<-a];exact d.2,lQ o d.1 p.symm a j⟩
   .cases h
 .rintro⟨i,E,y,A,k,B,g,_⟩;rw[Fx l.ok E,<-y]at g;have:i=jC wh\/i=jC wh+1:=by have d:i=0\/i=1\/i=2\/i=3:=O;rcases d with rfl|rfl|rfl|rfl<;>(subst y;decide)
  obtain rfl|rfl:=this
  .left;unfold uz;rw[r,u,<-k]at g;rw[qI (by rw[A,g];rfl),B,<-q,k];exact qT.2 R
  .right;unfold pA;rw[w,x,<-k]at g;rw[qI (by rw[A,g];rfl),B,<-v,k];exact qT.2 R
theorem qjy(l:kJ z wh fc b){t:Nat}(q:f<64)(y:t<64)(L:u∈U5) :
 j9 z wh fc b f t u=Zk↔∃i,i<6/\jB (z f)=((bg wh+i:Nat):Int)/\t∈yF z wh fc b f/\(f,t,u)∈xT (Zm (i=0)) f t:=by
 have m:=ji l.ok y;by_cases k:vB (z f)=xK wh
 case neg=>
  constructor
  .intro h;unfold j9 at h;rw[qE k]at h;simp at h
  .rintro⟨i,n,g,_⟩;exact absurd (ja n g) k
 obtain⟨i,n,g,_⟩:=zq k;have K:=ro n g;obtain⟨F,E⟩:=zj n g;have v:(∃i,i<6/\jB (z f)=((bg wh+i:Nat):Int)/\t∈yF z wh fc b f/\(f,t,u)∈xT (Zm (i=0)) f t)↔(t∈yF z wh fc b f/\(f,t,u)∈xT (Zm (i=0)) f t):=by
  constructor
  .rintro⟨j,M,e,h⟩;have:j=i:=by rw[g]at e;omega
   rw[this]at h;exact h
  .intro h;exact⟨i,n,g,h⟩
 rw[v,pg y L];unfold j9;rw[qJ k,K,Xc,qH,qH];have P:Zm ((i:Int)=0)=Zm (i=0):=by
  by_cases h:i=0
  .simp[h]
  .rw[qE h,qE O]
 rw[P];have r:∀(D:(Zm (u≠0)==(Zm (i=0)&&zO t))=Zk),((!decide (vB (z t)=xK wh))=Zk/\(if(i:Int)=0 then BD z wh b f t else EE z wh fc (i:Int).toNat f t u)=Zk)↔t∈yF z wh fc b f:=by
  intro D;rw[YK,qX];unfold yF;rw[Yi,qV,Dq q n g y,F,E];unfold yG;rw[F,rt m,rt m];by_cases G:i=0
  .subst G;have x:=l.pw wh f q g;rw[qJ R,qI R,qI R,qI (show((0:Nat):Int)=0 from R),Fq q x];unfold BD;rw[Ym,YF,qG];cases w:xS (zI z) 0 (xK wh) (f:Int) (t:Int)with
   | true =>
    rw[qI R,Ym,qG,qG];constructor
    .rintro⟨_,h|h⟩
     .exact Zi ⟨R,Zj h⟩
     .exact Zi ⟨R,Zi h⟩
    .rintro(⟨_,h|h⟩|h)
     .exact⟨by rw[(lT l.beh h).1];exact rq _,Zj h⟩
     .exact⟨by rw[h];exact λe=>BC wh e.symm,Zi h⟩
     .rw[(DN x h).2]at w;cases w
   | false =>
    rw[qF WU,ir q y x];constructor
    .rintro⟨_,h⟩;exact Zj h
    .rintro(⟨h,_⟩|h)
     .cases h
     .exact⟨by rw[(DN x h).1];exact rq _,h⟩
  .rw[qE G,qF O,qF WU,qF WU,YE,YK,qX];unfold EE;by_cases H:i=5
   .subst H;have u0:u=0:=by rw[YF]at D;have:Zm (u≠0)=Zl:=D;simpa using this
    subst u0;rw[qJ R,qI R,tc l q g,Xc];cases w:xS (zI z) 5 (xK wh) (f:Int) (t:Int)with
    | true =>
     rw[qI R];constructor
     .rintro⟨h,_⟩;exact Zi ⟨R,h⟩
     .rintro(⟨_,h⟩|h)
      .exact⟨h,R⟩
      .obtain⟨B,a,c1,c2,c3,A,o,_⟩:=Fv.1 h;rw[Fx l.ok a,<-c1]at o;have d:=cJ l a c1 c2 o;refine⟨?_,R⟩;rw[A,d.dot (pB B a).1];exact rq _
    | false =>
     rw[qF WU];constructor
     .rintro⟨_,h⟩;exact Zj h
     .rintro(⟨h,_⟩|h)
      .cases h
      .refine⟨?_,h⟩;obtain⟨B,a,c1,c2,c3,A,o,_⟩:=Fv.1 h;rw[Fx l.ok a,<-c1]at o;have d:=cJ l a c1 c2 o;rw[A,d.dot (pB B a).1];exact rq _
   .rw[qE H];cases w:xS (zI z) i (xK wh) (f:Int) (t:Int)with
    | true=>simp
    | false=>simp
 constructor
 .rintro⟨⟨C,p⟩,J⟩;exact⟨(r p).1 ⟨C,J⟩,p⟩
 .rintro⟨C,p⟩;have:=(r p).2 C;exact⟨⟨this.1,p⟩,this.2⟩
def uP(z:I2)(b:Int)(f t:Nat):Bool:=Zm (vE (z f)=0)&&Zm ((t:Int)=b)&&Zm (f%8≠t%8)
def dP(u:UInt8):Nat:=if u=110 then 1 else if u=98 then 2 else if u=114 then 3 else 4
def wC(z:I2)(b:Int)(f t:Nat):I2:=if uP z b f t then vW z (f/8*8+t%8) 46 else z
def CY(z:I2)(b:Int)(f t:Nat):I2:=vW (vW (wC z b f t) t (z f)) f 46
def n9(z:I2)(wh:Bool)(b:Int)(f t:Nat)(u:UInt8):I2:=if u=0 then CY z b f t else vW (CY z b f t) t (yP (dP u) wh)
def sm(z:I2)(wh:Bool)(fc:I5)(f t:Nat)(u:UInt8):Bool:=Zm (vE (z f)=5)&&Zm (0<=zK wh fc f t u)
def ua(z:I2)(wh:Bool)(fc:I5)(b:Int)(f t:Nat)(u:UInt8):I2:=if sm z wh fc f t u then vW (vW (n9 z wh b f t u) (zD (zK wh fc f t u).toNat).toNat 46) ((f+t)/2) (yP 3 wh)else n9 z wh b f t u
theorem jE.castle{fc':I5}{g:Int}{Q:I0}(r:jE z wh fc b h g Q)(e:∀i,i<4->fc i=fc' i):jE z wh fc' b h g Q :=
 ⟨r.size,r.sq,r.wh,λi a=>by rw[<-e i a];exact r.c i a,r.b,r.h,r.g⟩
theorem BG:∀wh:Bool,∀u∈[98,110,113,114],yP (dP u) wh=yH (yQ (bg wh)) u:=WS
theorem cI:∀i,i<4->xE i=hK i+2\/xE i+2=hK i:=WS
theorem wB{t:Nat}(h:uP z b f t=Zl):wC z b f t=z:=by unfold wC;rw[h];rfl
theorem pC(y:kJ z wh fc b){t:Nat}(D:i<6)(J:f<64)(R:t<64)(p:jB (z f)=((bg wh+i:Nat):Int))(o:t∈yF z wh fc b f)(a9:(f,t,u)∈xT (Zm (i=0)) f t):ua z wh fc b f t u=zE z b (f,t,u):=by
 have m:=ro D p;obtain⟨u',e,u0,u1⟩:=wX a9;have:u=u':=Vo;subst this;obtain⟨B,b1⟩|⟨ci,b5,e1,e2,a8,e4⟩:=ko y D J R p o a9
 .have v:sm z wh fc f t u=Zl:=by
   cases x:sm z wh fc f t u with
   | false=>rfl
   | true =>
    unfold sm at x;rw[qH,qG,qG,m]at x;have i5:i=5:=O
    have g:=u0 (qE O);subst g;have T:=x.2;have l:∀j,j<4->jZ wh fc f t 0 j=Zk->False:=λj A h=>by obtain⟨_,_,a3,a4⟩:=(zv A).1 h;have:=b1 i5;have:=cI j A;omega
    have b4:zK wh fc f t 0=if jZ wh fc f t 0 0 then 0 else if jZ wh fc f t 0 1 then 1 else if jZ wh fc f t 0 2 then 2 else if jZ wh fc f t 0 3 then 3 else -1:=rfl;rw[b4,qF (l 0 O),qF (l 1 O),qF (l 2 O),qF (l 3 O)]at T;omega
  have hB:=iq B b1;funext n;rw[hB n];unfold ua;rw[v,qF WU];have P:=B.ft;have W:CY z b f t n=if n=t then z f else if n=f then 46 else if n=wu wh b i t then 46 else z n:=by
   unfold CY vW;by_cases c1:n=f
   .rw[qI c1,qF (λe=>P (c1.symm.trans e)),qI c1]
   .rw[qF c1,qF c1];by_cases c2:n=t
    .rw[qI c2,qI c2]
    .rw[qF c2,qF c2];by_cases r:i=0/\(t:Int)=b
     .obtain⟨q1,q2⟩:=r;obtain⟨_,_,a8,_,_⟩:=B.ep q1 q2;have b2:=B.cf;have d:uP z b f t=Zk:=by unfold uP;rw[m,q1,qJ q2,qJ (show f%8≠t%8 from λe=>b2 (by rw[a8,<-e];omega))];rfl
      unfold wC;rw[d,qI rfl,<-a8];rfl
     .have d:uP z b f t=Zl:=by
       cases x:uP z b f t with
       | false=>rfl
       | true =>
        unfold uP at x;rw[qH,qH,qG,qG,m]at x;exact absurd ⟨O,x.1.2⟩ r
      rw[wB d,B.nep r,qF c2]
  unfold n9;by_cases g:u=0
  .rw[qI g,W,g];rfl
  .rw[qF g];unfold vW;have i0:i=0:=by
    by_cases k:i=0
    .exact k
    .exact absurd (u0 (qE k)) g
   have hz:=jn Vn (show jB (z f)=((bg wh:Nat):Int) by rw[p,i0];rfl);by_cases c2:n=t
   .rw[qI c2,qI c2,hz];refine BG wh u ?_;obtain e|e|e|e|e:=u1
    .exact absurd e g
    .rw[e];simp
    .rw[e];simp
    .rw[e];simp
    .rw[e];simp
   .rw[qF c2,W,qF c2,qF c2]
 .subst a8 e4;have E:=zj D p;have F:t∈uz z wh fc f++pA z wh fc f:=by
   unfold yF at o;rw[Yi,qV,E.1,E.2]at o;obtain⟨o,_⟩|o:=o
   .rw[Dq J D p R]at o;have:=(qx8 o).1;rw[FI _ 5 O _ 1]at this;have:=qxv f J t R this;have:=cI ci b5.hi;omega
   .rw[qE (show ¬ (5:Nat)=0 from O),qF WU,qJ rfl,qI rfl]at o;exact o
  obtain⟨a,A,j1,K,H,V,j5,b0⟩:=Fv.1 ((tc y J p).1 F);obtain⟨hp,hk⟩:=zj D p;have v:sm z wh fc f t 0=Zk:=by unfold sm;rw[m,b0,qJ (show 0<=(a:Int) from O)];rfl
  have d:uP z b f t=Zl:=by unfold uP;rw[m];rfl
  have w:yP 3 wh=z (hR a):=by
   have q:a=0\/a=1\/a=2\/a=3:=O;subst j1;obtain rfl|rfl|rfl|rfl:=q
   .rw[show z (hR 0)=82 from(y.c0 K).2];rfl
   .rw[show z (hR 1)=82 from(y.c1 K).2];rfl
   .rw[show z (hR 2)=114 from(y.c2 K).2];rfl
   .rw[show z (hR 3)=114 from(y.c3 K).2];rfl
  obtain⟨f1,f2,f3,f4,f5,f6,f7,f8,f9,a0,a1,b3,a2,a5,a6,a7,M⟩:=zi a A;have G:(f+t)/2=rN a:=by have q:a=0\/a=1\/a=2\/a=3:=O;rw[H,V];rcases q with rfl|rfl|rfl|rfl<;>rfl
  have Q:(zD a).toNat=hR a:=by rw[(dq a A).2.2];rfl
  funext n;have C:=FB (z:=z) (b:=b) A (by rw[<-H,hp];rfl) (by rw[<-H,hk];rfl) n;rw[<-H,<-V]at C;rw[C];unfold ua;rw[v,qI rfl,b0,YE,Q,G,w];unfold n9 CY;rw[qI rfl,wB d];unfold vW;by_cases c1:n=hR a
  .rw[qF (λe=>M (e.symm.trans c1)),qI c1,qI c1]
  .rw[qF c1,qF c1];by_cases c2:n=rN a
   .rw[qI c2,qI c2]
   .rw[qF c2,qF c2];by_cases c3:n=t
    .rw[qI c3,qI c3,qF (λe=>b3 (by rw[<-V,<-H];exact c3.symm.trans e))]
    .rw[qF c3,qF c3]
theorem F9(a:kJ z wh fc b){t:Nat}(h:i<6)(r:f<64)(A:t<64)(g:jB (z f)=((bg wh+i:Nat):Int))(w:t∈yF z wh fc b f)(B:(f,t,u)∈xT (Zm (i=0)) f t):xO (zE z b (f,t,u))=Zk:=by
 obtain⟨e,C⟩|⟨j,d,k,l,m,o⟩:=ko a h r A g w B
 .exact okZ e (iq e C) a.ok
 .subst k l m o;obtain⟨y,v⟩:=zj h g;obtain⟨p,D,q,E,_⟩:=zi j d.hi;refine Fy λn x=>?_;rw[FB d.hi (by rw[y];rfl) (by rw[v];rfl)];split
  .rfl
  .split
   .exact ji a.ok q
   .split
    .exact ji a.ok p
    .split
     .rfl
     .exact ji a.ok x
def vo(z:I2)(wh:Bool)(fc:I5)(b:Int)(f t:Nat)(u:UInt8):Bool:=j9 z wh fc b f t u&&!(zM (ua z wh fc b f t u) (xR (ua z wh fc b f t u) wh) (!wh))
theorem C8(k:kJ z wh fc b)(v:-1<=b)(w:b<=63){t:Nat}(l:f<64)(m:t<64)(x:u∈U5):vo z wh fc b f t u=Zk↔(f,t,u)∈yo z wh fc b:=by
 unfold vo yo;rw[qH,qjy k l m x,qV,Ay k];have n:∀i,i<6->jB (z f)=((bg wh+i:Nat):Int)->t∈yF z wh fc b f->(f,t,u)∈xT (Zm (i=0)) f t->(!(zM (ua z wh fc b f t u) (xR (ua z wh fc b f t u) wh) (!wh)))=uS z wh b (f,t,u):=λi g d j a=>by obtain⟨y,A,e⟩:=(jy k v w g l m d j a).1;unfold uS;rw[pC k g l m d j a,e,YE,jk (F9 k g l m d j a) A]
 constructor
 .rintro⟨⟨i,g,d,j,a⟩,h⟩;rw[n i g d j a]at h;exact⟨⟨i,f,t,u,R,g,l,m,d,j,a⟩,h⟩
 .rintro⟨⟨i,r,B,C,e,g,_,_,d,j,a⟩,h⟩;have o:f=r:=by injection e
  have p:t=B:=Vo;have q:u=C:=Vo;subst o p q;exact⟨⟨i,g,d,j,a⟩,by rw[n i g d j a];exact h⟩
def pQ(i:Nat):Nat:=i%8*8+i/8
def ED(z:I2)(f t:Nat):Nat:=if vE (z f)=0/\zO t=Zk then 5 else 1
def kr(z:I2)(wh:Bool)(fc:I5)(b:Int)(f t n:Nat):List Mv:=((U5.take n).filter λu=>vo z wh fc b f t u).map λu=>(f,t,u)
def eH(z:I2)(wh:Bool)(fc:I5)(b:Int)(f n:Nat):List Mv:=(List.range n).flatMap λk=>kr z wh fc b f (pQ k) (ED z f (pQ k))
def yE(z:I2)(wh:Bool)(fc:I5)(b:Int)(n:Nat):List Mv:=(List.range n).flatMap λi=>if vB (z (pQ i))=xK wh then eH z wh fc b (pQ i) 64 else[]
structure nn(w:I6)(PA:I0)(f t:Nat)(u:UInt8)(W:I6):Prop where
 pa:W.heap[w.heap.size]?=S (Z PA 70)
 mv:W.heap[w.heap.size+1]?=S (Z (ZJ f t u) 87)
 lt:w.heap.size+1<W.heap.size
 gr:Gr w W
theorem nn.next{t:Nat}(h:nn w PA f t u W)(g:Gr W a):nn w PA f t u a :=
 ⟨(Zz g (Nat.lt_of_succ_lt h.lt)).trans h.pa,(Zz g h.lt).trans h.mv,qN h.lt (ZR g),Gr.trans h.gr g⟩
theorem nn.start(w:I6)(PA:I0)(f t:Nat)(u:UInt8):nn w PA f t u ((w.alloc (Z PA 70)).alloc (Z (ZJ f t u) 87)):=by obtain⟨a,b⟩:=eQ (w:=w) (PA:=PA) (o:=(ZJ f t u)) (ty:=70) (ty2:=87) ZO;exact⟨a,b,UA,ZN.al⟩
theorem nn.cells{t:Nat}(h:nn w PA f t u W):W.cell? ⟨w.heap.size+1,0,N⟩=S (I L f)/\W.cell? ⟨w.heap.size+1,1,N⟩=S (I L t)/\W.cell? ⟨w.heap.size+1,2,N⟩=S (I Zg u.toNat) :=
 ⟨UK,UK,UK⟩
theorem nn.at{t:Nat}(h:nn w PA f t u W)(a:PA[k]?=S v):W.cell? ⟨w.heap.size,k,N⟩=S v:=by rw[qn h.pa];exact a
def pP(f t:Nat)(s:Int):Bool:=((f:Int)==s)||((t:Int)==s)
theorem bD(f t:Nat)(u:UInt8)(s:Int)(w:I6):ZL 190 #[Zc (ZJ f t u),I L s] w (Za (pP f t s)):=by
 have a:=ZQ w (Z (ZJ f t u) 87);have i:(w.alloc (Z (ZJ f t u) 87)).cell? ⟨w.heap.size,0,N⟩=S (I L f):=by rw[qn a];rfl
 have j:(w.alloc (Z (ZJ f t u) 87)).cell? ⟨w.heap.size,1,N⟩=S (I L t):=by rw[qn a];rfl
 have b:=X ((Gr.refl w).alloc (ZJ f t u) 87);unfold pP;obtain⟨h,d⟩:=Zo ((f:Int)==s);obtain⟨k,g⟩:=Zo ((t:Int)==s);rw[d,g];clear a;cases h
 .exact II
 .exact II
def AW(f t:Nat):Bool:=Zm (uI f t*uI f t=4)
def vK(z:I2)(f t:Nat):Int:=if jD (z f)&&AW f t then(((f+t)/2:Nat):Int)else -1
def kK(z:I2)(f t:Nat)(h:Int):Int:=if jD (z f)||!decide (z t=46)then 0 else min (h+1) 65535
def kj(wh:Bool)(g:Int):Int:=if wh then g else min (g+1) 65535
theorem qzy{g:Int}(r:jE z wh fc b h g PA)(f t:Nat)(K:f<64)(S:t<64)(u:UInt8)(w:I6):ZL 100 #[Zc PA,Zc (ZJ f t u)] w (I L (vK z f t)):=by
 have A:=nn.start w PA f t u;have B:=X (λW=>xz (z f) W);obtain⟨T,a2,a3⟩:=A.cells;have cf:=A.at (r.sq f K);have D:=X A.gr;have a4:0<=(f:Int):=O;have M:(f:Int)<64:=O;obtain⟨V,G⟩:=Zn (vK z f t);rw[G.a];obtain⟨F,v⟩:=Zn (jD (z f));rw[v.a]at B;obtain⟨a,l⟩:=Zn ((t:Int)/8-f/8);have a0:IntKind.i64.wrap ((t:Int)/8-f/8)=a:=by rw[YO];have:=l.a;omega
 have y:uI f t=a:=by rw[<-l.a];unfold uI;omega
 have H:-7<=a/\a<=7:=by have:=l.a;omega
 have E:-100<=a*a/\a*a<=100:=by obtain⟨a6,d⟩:=H;have J:a=-7\/a=-6\/a=-5\/a=-4\/a=-3\/a=-2\/a=-1\/a=0\/a=1\/a=2\/a=3\/a=4\/a=5\/a=6\/a=7:=O;rcases J with e|e|e|e|e|e|e|e|e|e|e|e|e|e|e<;>(rw[e];decide)
 obtain⟨p,q⟩:=Zn (a*a);have a5:IntKind.i64.wrap (a*a)=p:=by rw[YO];have:=q.a;omega
 obtain⟨mm,m⟩:∃n,Y (n=(f+t)/2):=⟨_,X R⟩;have P:IntKind.i64.wrap ((f:Int)+t)=(f:Int)+t:=Vc;have i:((f:Int)+t)/2=(mm:Int):=by have:=m.a;omega
 have Q:((f:Int)+t).tdiv 2=(mm:Int):=by rw[Int.tdiv_eq_ediv_of_nonneg O];exact i
 have a1:IntKind.i64.wrap (mm:Int)=mm:=by rw[YO];have:=m.a;omega
 have k:Y (V=if F&&Zm (p=4)then(mm:Int)else -1):=X (by rw[<-G.a];unfold vK AW;rw[v.a,y,q.a,m.a]);clear H E y A;cases F
 .have j:Y (V=-1):=X (by rw[k.a];rfl);go_enter func100,ntmps100;go_wp2_with(go_at_call 121;refine Z1 (B.a _) ?_);go_ret;exact⟨Tp,D.a⟩
 .by_cases o:p=4;have j:Y (V=(mm:Int)):=X (by rw[k.a,qJ o];rfl);have C:(p==4)=Zk:=YF.2 o;rotate_left;have j:Y (V=-1):=X (by rw[k.a,qE o];rfl);have C:(p==4)=Zl:=by rw[qM];exact o
  all_goals
   clear o;go_enter func100,ntmps100;go_wp2_with(go_at_call 121;refine Z1 (B.a _) ?_);go_ret;exact⟨Tp,D.a⟩
theorem qkn{g:Int}(r:jE z wh fc b h g PA)(f t:Nat)(A:f<64)(D:t<64)(u:UInt8)(J:0<=h)(K:h<=65535)(w:I6):ZL 101 #[Zc PA,Zc (ZJ f t u)] w (I L (kK z f t h)):=by
 have k:=nn.start w PA f t u;have n:=X (λW=>xz (z f) W);obtain⟨M,Q,a⟩:=k.cells;have cf:=k.at (r.sq f A);have d:=k.at (r.sq t D);have H:=k.at r.h;have p:=X k.gr;have B:0<=(f:Int):=O;have C:(f:Int)<64:=O;have E:0<=(t:Int):=O;have F:(t:Int)<64:=O;obtain⟨V,y⟩:=Zn (kK z f t h);rw[y.a];obtain⟨v,l⟩:=Zn (jD (z f));rw[l.a]at n;obtain⟨o,m⟩:=Zn (!decide (z t=46));have G:(((z t).toNat:Int) != 46)=o:=by rw[<-m.a];exact If
 have j:Y (V=if v||o then 0 else min (h+1) 65535):=X (by rw[<-y.a];unfold kK;rw[l.a,m.a]);have P:IntKind.i64.wrap (h+1)=h+1:=Vc;clear k;cases v;cases o;have i:Y (V=min (h+1) 65535):=X Tp;rotate_left;have i:Y (V=0):=X Tp;rotate_left;have i:Y (V=0):=X Tp;all_goals
  go_enter func101,ntmps101;go_wp2_with(go_at_call 121;refine Z1 (n.a _) ?_);go_ret;exact⟨by rw[i.a];rfl,p.a⟩
theorem qkp{g:Int}(r:jE z wh fc b h g PA)(i:0<=g)(j:g<=65535)(w:I6):ZL 102 #[Zc PA] w (I L (kj wh g)):=by
 have f:(w.alloc (Z PA 70)).cell? ⟨w.heap.size,64,N⟩=S (Za wh):=by rw[Z8 _ _ _ _ R];exact r.wh
 have d:(w.alloc (Z PA 70)).cell? ⟨w.heap.size,71,N⟩=S (I L g):=by rw[Z8 _ _ _ _ R];exact r.g
 have k:IntKind.i64.wrap (g+1)=g+1:=Vc;have a:=X ((Gr.refl w).alloc PA 70);clear r;cases wh
 .exact IJ
 .exact IJ
def hoA(k:Nat):I0:=#[I L (xY k),I Zg (if k<2 then 75 else 107),I L (zD k),I Zg (if k<2 then 82 else 114)]
theorem Gh(k:Nat)(a:k<4)(w:I6):(Instr.index 269 (Zc vp.toArray) (I L k)).run prog w=.ok (Zc (hoA k)) w:=by
 have:k=0\/k=1\/k=2\/k=3:=O;obtain rfl|rfl|rfl|rfl:=this
 .exact Gl w
 .exact Gk w
 .exact Gj w
 .exact Gi w
def E6(f t k:Nat):Bool:=pP f t (xY k)||pP f t (zD k)
def kB(fc:I5)(f t n k:Nat):Bool:=fc k&&!(Zm (k<n)&&E6 f t k)
def yi(F:I5):I0:=#[Za (F 0),Za (F 1),Za (F 2),Za (F 3)]
theorem En(F:I5)(k:Nat)(a:k<4):(yi F)[k]?=S (Za (F k)):=by have:k=0\/k=1\/k=2\/k=3:=O;exact O1
theorem CT(F:I5)(k:Nat)(a:k<4)(c:Bool):(yi F).setIfInBounds k (Za c)=yi (λj=>if j=k then c else F j):=by have:k=0\/k=1\/k=2\/k=3:=O;exact O1
theorem gd{F G:I5}(h:∀k,k<4->F k=G k):yi F=yi G:=by unfold yi;rw[h 0 O,h 1 O,h 2 O,h 3 O]
theorem fN:(prog.info? 68).map (·.size)=S 4:=WR
theorem td(F:I5):(yi F).all (·.oneCell')=Zk:=by simp[yi,Value.oneCell']
structure Ca(w:I6)(F:I5)(f t:Nat)(u:UInt8)(W:I6):Prop where
 ca:W.heap[w.heap.size]?=S (Z (yi F) 68)
 mv:W.heap[w.heap.size+1]?=S (Z (ZJ f t u) 87)
 rs:W.heap[w.heap.size+2]?=S (Z (yi λ_=>Zl) 68)
 lt:w.heap.size+2<W.heap.size
 gr:Gr w W
theorem Ca.next{F:I5}{t:Nat}(h:Ca w F f t u W)(g:Gr W a):Ca w F f t u a:=by have:=h.lt;exact⟨(Zz g O).trans h.ca,(Zz g O).trans h.mv,(Zz g h.lt).trans h.rs,qN h.lt (ZR g),Gr.trans h.gr g⟩
theorem Ca.set{F:I5}{t:Nat}(h:Ca w F f t u W)(k:Nat)(b:k<4)(c:Bool):Ca w (λj=>if j=k then c else F j) f t u (W.setCell ⟨w.heap.size,k,N⟩ (Za c)):=by have a:Fr (λj _=>j≠w.heap.size) W (W.setCell ⟨w.heap.size,k,N⟩ (Za c)):=ZP.setCell _ (λo _ q=>q R);have d:(W.setCell ⟨w.heap.size,k,N⟩ (Za c)).heap.size=W.heap.size:=World.size_setCell ..;exact⟨by rw[<-CT F k b c];exact qv h.ca,a.same _ _ h.mv O,a.same _ _ h.rs O,by rw[d];exact h.lt,Yr h.gr Zy _⟩
theorem qx4(fc:I5)(f t:Nat)(u:UInt8)(w:I6)(hH:vJ w):ZL 99 #[Zc (yi fc),Zc (ZJ f t u)] w (Zc (yi (kB fc f t 4))):=by
 obtain⟨x1,x2,x3,x4⟩:=jG w (Z (yi fc) 68) (Z (ZJ f t u) 87) (Z (yi λ_=>Zl) 68);have H:Gr w (((w.alloc (Z (yi fc) 68)).alloc (Z (ZJ f t u) 87)).alloc (Z (yi λ_=>Zl) 68)):=ZN.al.al;have a5:Ca w fc f t u (((w.alloc (Z (yi fc) 68)).alloc (Z (ZJ f t u) 87)).alloc (Z (yi λ_=>Zl) 68)):=⟨x1,x2,x3,by rw[x4];omega,H⟩;have y:=X a5;have D:=X (hH.gr H);have a9:=X (λ(s:Int) W=>bD f t u s W);clear x1 x2 x3 x4 H a5 hH;generalize hL:vp.toArray=HL;obtain⟨a4,a6⟩:=Zn (kB fc f t 4);rw[a6.a];show ZL 99 #[Zc #[Za (fc 0),Za (fc 1),Za (fc 2),Za (fc 3)],Zc (ZJ f t u)] w (Zc (yi a4));go_enter func99,ntmps99;go_upto_region 1 with fail;show Code.wp _ _ _ _ (((w.alloc (Z (yi fc) 68)).alloc (Z (ZJ f t u) 87)).alloc (Z (yi λ_=>Zl) 68));generalize (((w.alloc (Z (yi fc) 68)).alloc (Z (ZJ f t u) 87)).alloc (Z (yi λ_=>Zl) 68))=w0 at y D |-;go_wp2_with(refine Yo R 269 _ R 1 0 R vp _ D.a.1 underlying269 rfl ss ?_);go_loopg [8] 4 (λgm n wr=>∃k:Nat,k+gm=4/\n=I L k/\Ca w (kB fc f t k) f t u wr)
 case atStart=>exact⟨0,O,R,by
  have:kB fc f t 0=fc:=by funext j;unfold kB;simp
  rw[this];exact y.a⟩
 case round=>
  clear y D;obtain⟨k,k1,rfl,v⟩:=hrel;by_cases hk:k<4
  .obtain⟨J,P⟩:∃x:Int,Y ((if k<2 then(75:Int)else 107)=x):=⟨_,X R⟩;obtain⟨K,Q⟩:∃x:Int,Y ((if k<2 then(82:Int)else 114)=x):=⟨_,X R⟩;have V:∀W:I6,(Instr.index 269 (Zc HL) (I L k)).run prog W=.ok (Zc #[I L (xY k),I Zg J,I L (zD k),I Zg K]) W:=λW=>by rw[<-P.a,<-Q.a,<-hL];exact Gh k hk W
   clear P Q;have m:Y (∀j,j<4->kB fc f t (k+1) j=if j=k then fc k&&!(E6 f t k)else kB fc f t k j):=X (λj _=>by
    unfold kB;by_cases e:j=k
    .subst e;rw[qI R,qJ O];rfl
    .rw[qF e]
     have:Zm (j<k+1)=Zm (j<k):=by
      by_cases q:j<k
      .rw[qJ q,qJ O]
      .rw[qE q,qE O]
     rw[this])
   have h:Y (kB fc f t k k=fc k):=X (by unfold kB;simp);have o:Y (E6 f t k=(pP f t (xY k)||pP f t (zD k))):=X R;obtain⟨TA,a8⟩:=Zn (E6 f t k);rw[a8.a]at o m;obtain⟨A,E⟩:=Zn (xY k);obtain⟨B,G⟩:=Zn (zD k);rw[E.a,G.a]at o;have b0:∀W:I6,(Instr.index 269 (Zc HL) (I L k)).run prog W=.ok (Zc #[I L A,I Zg J,I L B,I Zg K]) W:=λW=>by rw[<-E.a,<-G.a];exact V W
   clear V E G a8;go_upto_region 4 with fail;have hx:=ZQ wr (Z #[I L A,I Zg J,I L B,I Zg K] 268);have b:=v.next ((Gr.refl wr).alloc #[I L A,I Zg J,I L B,I Zg K] 268);show Code.wp _ _ _ _ (wr.alloc (Z #[I L A,I Zg J,I L B,I Zg K] 268));generalize (wr.alloc (Z #[I L A,I Zg J,I L B,I Zg K] 268))=p at hx b |-;generalize wr.heap.size=r at hx |-;have c0:p.cell? ⟨r,0,N⟩=S (I L A):=by rw[qn hx];rfl
   have c2:p.cell? ⟨r,2,N⟩=S (I L B):=by rw[qn hx];rfl
   have i:r<p.heap.size:=Zx c0;have M:p.cell? ⟨w.heap.size+1,0,N⟩=S (I L f):=by rw[qn b.mv];rfl
   have m1:p.cell? ⟨w.heap.size+1,1,N⟩=S (I L t):=by rw[qn b.mv];rfl
   have m2:p.cell? ⟨w.heap.size+1,2,N⟩=S (I Zg u.toNat):=by rw[qn b.mv];rfl
   clear hx v b0;go_cut [21]from 9 to 24 (λa1 wx=>a1=Za TA/\Ca w (kB fc f t k) f t u wx)
   case first=>
    obtain⟨y1,q1⟩:=Zo (pP f t A);obtain⟨y2,q2⟩:=Zo (pP f t B);rw[q1,q2]at o;have g:w.heap.size+1<p.heap.size:=Zx M;clear m h;cases y1
    .exact WO
    .exact WO
   case rest=>
    obtain⟨rfl,d⟩:=hcut;clear b c0 c2 M m1 m2 i o;go_upto_if 21 with fail;cases TA
    .have z:Y (yi (kB fc f t (k+1))=yi (kB fc f t k)):=X (gd λj hj=>by
      rw[m.a j hj];by_cases e:j=k
      .subst e;rw[qI R,h.a];simp
      .rw[qF e])
     have C:Y (Ca w (kB fc f t (k+1)) f t u wc):=X ⟨by rw[z.a];exact d.ca,d.mv,d.rs,d.lt,d.gr⟩;clear d m h;exact Ir
    .have z:Y (yi (kB fc f t (k+1))=yi (λj=>if j=k then Zl else kB fc f t k j)):=X (gd λj hj=>by
      rw[m.a j hj];by_cases e:j=k
      .rw[qI e,qI e];simp
      .rw[qF e,qF e])
     have l:=d.set k hk Zl;have C:Y (Ca w (kB fc f t (k+1)) f t u (wc.setCell ⟨w.heap.size,k,N⟩ (Za Zl))):=X ⟨by rw[z.a];exact l.ca,l.mv,l.rs,l.lt,l.gr⟩;have qk:wc.cell? ⟨w.heap.size,k,N⟩=S (Za (kB fc f t k k)):=by rw[qn d.ca];exact En _ k hk
     have ok:wc.frozen? ⟨w.heap.size,k,N⟩=Zl:=xr d.ca;have a2:0<=(k:Int):=O;have a3:(k:Int)<4:=O;clear d m h l z;exact Ir
  .have ek:k=4:=O;subst ek;have T:=X v.ca;have a7:Y (wr.heap[w.heap.size+1+1]?=S (Z (yi λ_=>Zl) 68)):=X v.rs;have a0:=X v.gr;clear v;rw[a6.a]at T;go_wp2_with(first
    | (refine ZV R 68 _ R w.heap.size R 68 (yi a4) (0,0) _ T.a underlying68 rfl fN ?_)
    | (refine ZU rfl 68 _ _ rfl (w.heap.size+1+1) (yi a4) rfl rfl 68 (yi λ_=>Zl) a7.a fN R (td a4) ?_))
   exact ZS (v:=Zc (yi a4)) (Yp results99 _ _ (w.heap.size+1+1) 68 _ (0,0) _ R (Zt a7.a) underlying68 rfl fN) R ⟨R,a0.a.setRow _ O _⟩
structure DT(w:I6)(PA:I0)(f t:Nat)(u:UInt8)(W:I6):Prop where
 pm:nn w PA f t u W
 rs:∃R,R.size=72/\W.heap[w.heap.size+1+1]?=S (Z R 70)
 lt:w.heap.size+1+1<W.heap.size
theorem DT.next{t:Nat}(h:DT w PA f t u W)(g:Gr W a):DT w PA f t u a:=by obtain⟨e,b,d⟩:=h.rs;exact⟨h.pm.next g,⟨e,b,(Zz g h.lt).trans d⟩,qN h.lt (ZR g)⟩
theorem DT.put{t:Nat}(h:DT w PA f t u W)(e:I0)(a:e.size=72):DT w PA f t u (W.setRow (w.heap.size+1+1) e):=by obtain⟨g,d,b⟩:=h.rs;exact⟨⟨by rw[Zu O];exact h.pm.pa,by rw[Zu O];exact h.pm.mv,by rw[Xa];exact h.pm.lt,h.pm.gr.setRow _ O _⟩,⟨e,a,Zt b⟩,by rw[Xa];exact h.lt⟩
theorem iJ{g:Int}(r:jE z wh fc b h g PA)(f t:Nat)(u:UInt8)(hf:f<64)(ht:t<64)(a6:jA (z f)=Zk->t=f+2->f+3<64)(a7:jA (z f)=Zk->t+2=f->4<=f)(h0:0<=h)(h1:h<=65535)(g0:0<=g)(g1:g<=65535)(w:I6)(hH:vJ w) :
  Calls prog 50 #[Zc PA,Zc (ZJ f t u)] w λe w'=>∃Q,e=Zd (Zc Q)/\jE (zE z b (f,t,u)) (!wh) (kB fc f t 4) (vK z f t) (kK z f t h) (kj wh g) Q/\Gr w w':=by
 have hz:=r.size;have d:=X r;have a9:=X (λW=>qvj r f t u hf ht a6 a7 W);have c4:Y (∀W,vJ W->ZL 99 #[Zc #[Za (fc 0),Za (fc 1),Za (fc 2),Za (fc 3)],Zc (ZJ f t u)] W (Zc (yi (kB fc f t 4)))):=X (λW B=>qx4 fc f t u W B);have V:=X (λW=>qzy r f t hf ht u W);have a0:=X (λW=>qkn r f t hf ht u h0 h1 W);have c5:=X (λW=>qkp r g0 g1 W);obtain⟨x1,x2,x3,x4⟩:=jG w (Z PA 70) (Z (ZJ f t u) 87) (Z zeroCells70 70);have P:=(nn.start w PA f t u).next (ZO.alloc zeroCells70 70);have b6:DT w PA f t u (((w.alloc (Z PA 70)).alloc (Z (ZJ f t u) 87)).alloc (Z zeroCells70 70)):=⟨P,⟨_,xF,x3⟩,by rw[x4];omega⟩;have a4:=X hH;clear x1 x2 x3 x4 P r hH;obtain⟨j,hC⟩:=Zn (kB fc f t 4);obtain⟨b5,T⟩:=Zn (vK z f t);obtain⟨B,a1⟩:=Zn (kK z f t h);obtain⟨M,c6⟩:=Zn (kj wh g);rw[hC.a]at c4 |-;rw[T.a]at V |-;rw[a1.a]at a0 |-;rw[c6.a]at c5 |-;clear hC T a1 c6;go_enter func50,ntmps50;go_upto_region 1 with fail;show Code.wp _ _ _ _ (((w.alloc (Z PA 70)).alloc (Z (ZJ f t u) 87)).alloc (Z zeroCells70 70));generalize (((w.alloc (Z PA 70)).alloc (Z (ZJ f t u) 87)).alloc (Z zeroCells70 70))=w0 at b6 |-;have b7:=b6.next ZO.drew;clear b6;refine ZT (S:=DT w PA f t u) WR b7 (λi=>?_);clear b7;refine ty 0 (Zc PA) R (zy hz Vb _ R w.heap.size R (λ_ h=>vF h.pm.pa)) i ?_;refine ZB 1 (Zc (ZJ f t u)) R (λw' a=>WY) i ?_;refine ZB 3 (.pointer (S ⟨w.heap.size,64,N⟩)) R (λw' a=>WY) i ?_;refine ZB 4 (Za wh) R (λw' a=>WY) i ?_;refine ZB 5 (Za (!wh)) R (λw' a=>WY) i ?_;refine ZB 6 (.pointer (S ⟨w.heap.size,65,N⟩)) R (λw' a=>WY) i ?_;refine ZB 7 (Zc #[Za (fc 0),Za (fc 1),Za (fc 2),Za (fc 3)]) R (λw' a=>WY) i ?_;refine ZB 8 (Zc (ZJ f t u)) R (λw' a=>WY) i ?_;refine ty 10 (Zc PA) R (zy hz Vb _ R w.heap.size R (λ_ h=>vF h.pm.pa)) i ?_;refine ZB 11 (Zc (ZJ f t u)) R (λw' a=>WY) i ?_;refine ty 13 (Zc PA) R (zy hz Vb _ R w.heap.size R (λ_ h=>vF h.pm.pa)) i ?_;refine ZB 14 (Zc (ZJ f t u)) R (λw' a=>WY) i ?_;refine ty 16 (Zc PA) R (zy hz Vb _ R w.heap.size R (λ_ h=>vF h.pm.pa)) i ?_;refine rd 2 λK hK=>?_;go_simp;refine(a9.a _).mono ?_;rintro e b3 ⟨J,rfl,A,E⟩;refine hK.out _ _ (i.next E) λi=>?_;clear hK K E;try simp only[py]
 refine rd 9 λK hK=>?_;go_simp;refine Z0 (c4.a _ (a4.a.gr i.pm.gr)) λb4 F=>?_;refine hK.out _ _ (i.next F) λi=>?_;clear hK K F;try simp only[py]
 refine rd 12 λK hK=>?_;go_simp;refine Z0 (V.a _) λb0 p=>?_;refine hK.out _ _ (i.next p) λi=>?_;clear hK K p;try simp only[py]
 refine rd 15 λK hK=>?_;go_simp;refine Z0 (a0.a _) λb1 q=>?_;refine hK.out _ _ (i.next q) λi=>?_;clear hK K q;try simp only[py]
 refine rd 17 λK hK=>?_;go_simp;refine Z0 (c5.a _) λb2 y=>?_;refine hK.out _ _ (i.next y) λi=>?_;clear hK K y;try simp only[py]
 refine ty 18 (Zc (kU J (!wh) (j 0) (j 1) (j 2) (j 3) b5 B M)) R (BB Vb 70 #[(0,.tmp 7),(1,.tmp 10),(2,.tmp 14),(3,.tmp 17),(4,.tmp 20),(5,.tmp 22)] R _ (by simp only[List.map_toArray,YM,Wi];exact gj J A.1 (!wh) (j 0) (j 1) (j 2) (j 3) b5 B M)) i ?_;have D:(kU J (!wh) (j 0) (j 1) (j 2) (j 3) b5 B M).size=72:=by unfold kU;simp[A.1]
 have a3:=qkb _ J A.1 A.2 (!wh) j b5 B M;have a8:=qx a3;refine rd 19 λK hK=>?_;rw[qI Vb];obtain⟨d0,r1,a2⟩:=i.rs;refine YQ 70 _ _ R (w.heap.size+1+1) (kU J (!wh) (j 0) (j 1) (j 2) (j 3) b5 B M) R R 70 d0 a2 (by rw[D];exact q9) (by rw[D,r1]) a8 ?_;have a5:=X (i.pm.gr.setRow (w.heap.size+1+1) O (kU J (!wh) (j 0) (j 1) (j 2) (j 3) b5 B M));refine hK.out _ _ (i.put _ D) λi=>?_;clear hK K;try simp only[py]
 refine ZZ WR ?_ _;go_wp2_with fail;exact ZS (v:=Zc (kU J (!wh) (j 0) (j 1) (j 2) (j 3) b5 B M)) (Yp results50 _ _ (w.heap.size+1+1) 70 _ (0,0) _ R (Zt a2) underlying70 rfl (by rw[D];exact q9)) R ⟨_,R,a3,a5.a⟩
def uf:I1:=[113,114,98,110]
def aw(s:I4):UInt8 × Bool:=if h:0<s.size then(s[0],Zm (0<=Lib.indexByte uf s[0]))else(0,Zk)
def yn(s:I4):Option (Nat × Nat × UInt8) :=
 if s.size=4\/s.size=5 then
  match uX (s.extract 0 2),uX (s.extract 2 4)with
  | some f,S t=>if(aw (s.extract 4 s.size)).2 then S (f,t,(aw (s.extract 4 s.size)).1)else N
  | _,_=>N
 else N
def iO(s t:I4)(k:Int):Prop:=iP s k\/(k=1/\∃p,xG s=S p/\xP p=Zk/\yn t=N)\/(k=4/\∃p x,xG s=S p/\xP p=Zk/\yn t=S x/\x∉xC (xM p) p.white p.castle p.behind)
theorem iK(z:I2)(f t:Nat)(e:f<64)(i:t<64)(d:0<=h){g:Int}(a:0<=g)(b:g<=65535):(vK z f t=-1\/(0<=vK z f t/\vK z f t<64))/\0<=kK z f t h/\kK z f t h<=65535/\0<=kj wh g/\kj wh g<=65535:=by grind[vK,kK,kj]
theorem rc{s:I4}(h:s.size=4):aw (s.extract 4 s.size)=(0,Zk):=by simp_all[aw]
theorem rZ{s:I4}(h:s.size=5):aw (s.extract 4 s.size)=(s[4],Zm (0<=Lib.indexByte uf s[4])):=by
 have a:0<(s.extract 4 s.size).size:=by rw[Wu];omega
 have b:(s.extract 4 s.size)[0]=s[4]:=by rw[ByteArray.getElem_extract]
 unfold aw;rw[Wf a,b]
theorem dR:∀c:UInt8,jD c=Zm (vE c=0):=vg WS
theorem lS(a b:Int):(a==b)=Zm (a=b):=R
theorem lW{t:Nat}(h:xS (zI z) 0 (xK wh) (f:Int) (t:Int)=Zk):uI f t=xK wh:=by unfold xS at h;rw[qI R,qH]at h;have a:=q8 h.2;unfold uI;omega
theorem xe{b:Nat}{o:Obj}(h:W.heap[b]?=S o):b<W.heap.size:=(qB.1 h).1
end Go.Proofs.YtnfakamfmkhlbabGreatDoor.C
