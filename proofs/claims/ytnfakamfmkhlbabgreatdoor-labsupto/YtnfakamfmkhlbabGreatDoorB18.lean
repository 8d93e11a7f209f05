import Derived.Test.YtnfakamfmkhlbabGreatDoorB17
set_option maxRecDepth 100000
set_option maxHeartbeats 4000000
set_option linter.all false
open Go.Value renaming int->I,bool->Za,string->Zb,agg->Zc,tuple->Ze,slice->Zq
open Go.IntKind renaming i64->L,u8->Zg,u64->Zh
open Go.Obj renaming cells->Z
open Go.Ending renaming returned->Zd
open Or renaming inl->Zi,inr->Zj
open Option renaming some->S,none->N
open Bool renaming true->Zk,false->Zl
open Decidable renaming decide->Zm
open Go.RowKit renaming Hid->Y
open Go renaming World->I6,Value->I7
namespace Go.Proofs.YtnfakamfmkhlbabGreatDoor.C
open Go.ChangeShapes Go.WideShapes Go.ChangeAt Go.RowKit Go.Shelf Go.Proofs.YtnfakamfmkhlbabGreatDoor.P Tryz
attribute [local go_sem] qd qe Oper.semAt_some
variable {z:I2}{wh:Bool}{b h m:Int}{PA A M:I0}{fc:I5}{w W a w' w1 V:I6}{f n i k g base d e l j x B Bp:Nat}{v:I7}{u:UInt8}{Q:Nat->Obj->Prop}{rs:I3}{y:I1}
structure pZ(z:I2)(wh:Bool)(fc:I5)(b:Int)(f t:Nat)(u:UInt8)(i:Nat):Prop where
 hf:f<64
 ht:t<64
 hu:u∈U5
 hi:i<6
 hc:jB (z f)=((bg wh+i:Nat):Int)
 go:j9 z wh fc b f t u=Zk
 tu:(f,t,u)∈xT (Zm (i=0)) f t
theorem um(d:kJ z wh fc b)(m:-1<=b)(n:b<=63){t:Nat}(r:(f,t,u)∈xC z wh fc b):∃i,pZ z wh fc b f t u i:=by
 have o:(f,t,u)∈ye z wh fc b 64:=(qV.1 ((je d m n _).2 r)).1;obtain⟨i,w,x,y,e,k,j,l,h,p,g⟩:=(Ay d).1 o;injection e with e1 e;injection e with e2 e3;subst e1 e2 e3;obtain⟨v,e,_,q⟩:=wX g;injection e with _ e;injection e with _ e;have a:u∈U5:=by rw[e];rcases q with rfl|rfl|rfl|rfl|rfl<;>decide
 exact⟨i,j,l,a,k,h,(qjy d j l a).2 ⟨i,k,h,p,g⟩,g⟩
theorem pZ.u0{t:Nat}(h:pZ z wh fc b f t u i)(a:i≠0):u=0:=by obtain⟨v,e,d,_⟩:=wX h.tu;injection e with _ e;injection e with _ e;rw[e];exact d VS
theorem oR:∀p,p<12->vz (yQ p)=kX (p%6):=WS
theorem pZ.cap{t:Nat}(h:pZ z wh fc b f t u i):vz (z f)=kX i:=by have d:=h.hi;have a:bg wh=0\/bg wh=6:=UM;rw[jn (p:=bg wh+i) O h.hc,oR _ O];congr 1;omega
theorem F4(M:List Mv){t:Nat}(h:pZ z wh fc b f t u i) :
 (i=5/\t=f+2/\jR M z (f,t,u)=[79,45,79])\/(i=5/\t+2=f/\jR M z (f,t,u)=[79,45,79,45,79])\/(i=0/\jR M z (f,t,u)=z7 f t u)\/(i≠0/\jR M z (f,t,u)=zQ M z f t):=by
 obtain⟨j,k⟩:=zj h.hi h.hc;unfold jR;simp only[j,k,qG];by_cases a:i=5
 .by_cases e:t=f+2
  .exact Zi ⟨a,e,by rw[qI ⟨a,e⟩]⟩
  .by_cases g:t+2=f
   .exact Zj (Zi ⟨a,g,by rw[qF (λq=>e q.2),qI ⟨a,g⟩]⟩)
   .exact Zj (Zj (Zj ⟨O,by rw[qF (λq=>e q.2),qF (λq=>g q.2),qF O]⟩))
 .by_cases d:i=0
  .exact Zj (Zj (Zi ⟨d,by rw[qF (λq=>a q.1),qF (λq=>a q.1),qI d]⟩))
  .exact Zj (Zj (Zj ⟨d,by rw[qF (λq=>a q.1),qF (λq=>a q.1),qF d]⟩))
theorem tM:∀a,a<8->∀b,b<8->UInt8.ofNat (97+a)=UInt8.ofNat (97+b)->a=b:=WS
theorem ri:∀a,a<8->∀b,b<8->UInt8.ofNat (49+a)=UInt8.ofNat (49+b)->a=b:=WS
theorem gY:∀a,a<8->∀b,b<8->UInt8.ofNat (97+a)≠UInt8.ofNat (49+b):=WS
theorem FR:∀a,a<8->∀i,i<6->UInt8.ofNat (97+a)≠kX i/\UInt8.ofNat (97+a)≠79:=WS
theorem dO:∀a,a<8->UInt8.ofNat (49+a)≠120/\UInt8.ofNat (49+a)≠43/\UInt8.ofNat (49+a)≠35:=WS
theorem E9:∀i,i<6->kX i≠79:=WS
theorem CV:∀i,i<6->∀j,j<6->kX i=kX j->i=j:=WS
theorem FZ:∀u∈U5,∀v∈U5,u≠0->v≠0->vz u=vz v->u=v:=WS
theorem oS:∀u∈U5,vz u≠43/\vz u≠35:=WS
theorem gZ(h:xA f=xA g):f%8=g%8:=tM _ O _ O h
theorem mL(a:f<64)(b:g<64)(h:xI f=xI g):f/8=g/8:=ri _ O _ O h
theorem jw(f t:Nat)(u:UInt8):∃g l,z7 f t u=xA g :: l:=by
 unfold z7;split
 .exact⟨t,_,R⟩
 .exact⟨f,_,R⟩
theorem pZ.pawn{t:Nat}(g:kJ z wh fc b)(h:pZ z wh fc b f t u 0):(f%8≠t%8->((t/8:Nat):Int)-((f/8:Nat):Int)=xK wh)/\(f%8=t%8->oB z wh f t):=by
 have k:=g.pw wh f h.hf (by simpa using h.hc);have i:vE (z f)=0:=by simpa using ro h.hi h.hc
 have e:=h.go;unfold j9 at e;rw[qH,qI i]at e;have a:=e.2;unfold BD at a;cases d:xS (zI z) 0 (xK wh) (f:Int) (t:Int)with
 | true =>
  refine⟨λ_=>?_,λq=>?_⟩
  .have:=gE d;omega
  .exact absurd (show(t:Int)%8=f%8 from O) (qze d)
 | false =>
  rw[d]at a;simp only[qR,YH]at a;have j:=(ir h.hf h.ht k).1 a;rw[qH,qH,qG]at a;exact⟨λq=>absurd a.1.1 q,λ_=>j⟩
theorem lI(h:jB (z n)=((bg wh+i:Nat):Int)):z n≠46:=λe=>by
 rw[e,xp]at h;omega
theorem r9{t:Nat}(e:kJ z wh fc b)(h:pZ z wh fc b f t u 0)(i:pZ z wh fc b g t u 0)(p:f%8=g%8):f=g:=by
 have q:=h.hf;have r:=i.hf;have v:=e.pw wh f h.hf (by simpa using h.hc);have w:=e.pw wh g i.hf (by simpa using i.hc);by_cases l:f%8=t%8
 .have a:=(h.pawn e).2 l;have d:=(i.pawn e).2 O;have nx:=lI h.hc;have m:=lI i.hc;unfold oB fw vQ at a d;cases wh
  .simp only[qR,YH,qG]at a d;rcases a with⟨k,j⟩|⟨n,k,j,o⟩<;>obtain⟨c1,c2⟩|⟨c0,c1,c2,c3⟩:=d
   .omega
   .exact absurd (by rw[show f=g-8*1 from O];exact c2) nx
   .exact absurd (by rw[show g=f-8*1 from O];exact j) m
   .omega
  .simp only[YS,qG]at a d;rcases a with⟨k,j⟩|⟨n,k,j,o⟩<;>obtain⟨c1,c2⟩|⟨c0,c1,c2,c3⟩:=d
   .omega
   .exact absurd (by rw[show f=g+8*1 from O];exact c2) nx
   .exact absurd (by rw[show g=f+8*1 from O];exact j) m
   .omega
 .have a:=(h.pawn e).1 l;have d:=(i.pawn e).1 O;omega
theorem mQ{t s:Nat}{v:UInt8}(j:t<64)(i:s<64)(k:u∈U5)(l:v∈U5)(h:z7 f t u=z7 g s v):f%8=g%8/\t=s/\u=v:=by
 have b:∀{t s:Nat}{u v:UInt8},t<64->s<64->u∈U5->v∈U5->xQ t++(if u=0 then[]else[61,vz u])=xQ s++(if v=0 then[]else[61,vz v])->t=s/\u=v:=by
  intro t s u v j i k l h;rw[zF,zF]at h;simp only[YA,Wj,X7]at h;obtain⟨n,o,d⟩:=h;refine⟨Fm _ j _ i (by rw[zF,zF,n,o]),?_⟩;by_cases a:u=0<;>by_cases c:v=0
  .rw[a,c]
  .rw[qI a,qF c]at d;cases d
  .rw[qF a,qI c]at d;cases d
  .rw[qF a,qF c]at d;simp only[X7,and_true,true_and]at d;exact FZ u k v l a c d
 unfold z7 at h;rw[qS,qS]at h;by_cases a:f%8=t%8<;>by_cases c:g%8=s%8
 .rw[qI a,qI c]at h;obtain⟨e,m⟩:=b j i k l h;exact⟨by rw[a,c,e],e,m⟩
 .rw[qI a,qF c,zF t]at h;simp only[YA,Wj,X7]at h;exact absurd h.2.1 (dO (t/8) O).1
 .rw[qF a,qI c,zF s]at h;simp only[YA,Wj,X7]at h;exact absurd h.2.1.symm (dO (s/8) O).1
 .rw[qF a,qF c]at h;simp only[YA,Wj,X7,true_and]at h;obtain⟨e,m⟩:=b j i k l h.2;exact⟨gZ h.1,e,m⟩
theorem lk{L L':List Mv}{x y:Mv}(i:f<64)(j:g<64)(r:x.1=f)(k:y.1=g)(b:y∈L)(d:x∈L')(h:iT L f=iT L' g):f=g:=by
 have n:¬ L.isEmpty=Zk:=by cases L with|nil=>cases b|cons a l=>simp
 have o:¬ L'.isEmpty=Zk:=by cases L' with|nil=>cases d|cons a l=>simp
 unfold iT at h;rw[qF n,qF o]at h;have m:L.all (λy=>!decide (y.1%8=f%8))=Zk->g%8≠f%8:=λq=>by have:=qW.1 q y b;simpa[k]using this
 have p:L.all (λy=>!decide (y.1/8=f/8))=Zk->g/8≠f/8:=λq=>by have:=qW.1 q y b;simpa[k]using this
 split at h
 .rename_i q;have e:=m q;split at h
  .injection h with h _;exact absurd (gZ h).symm e
  .split at h
   .injection h with h _;exact absurd h (gY (f%8) O (g/8) O)
   .exact O7
 .split at h
  .rename_i q;have e:=p q;split at h
   .injection h with h _;exact absurd h.symm (gY (g%8) O (f/8) O)
   .split at h
    .injection h with h _;exact absurd (mL i j h).symm e
    .exact O7
  .split at h
   .exact O7
   .split at h
    .exact O7
    .exact Fm _ i _ j h
theorem CI{a c:I1}{t s:Nat}(d:t<64)(b:s<64)(h:a++xQ t=c++xQ s):a=c/\t=s:=by have:=XR h (by rw[zF,zF];rfl);exact⟨this.1,Fm _ d _ b this.2⟩
theorem wF(r:kJ z wh fc b)(H:-1<=b)(p:b<=63){x y:Mv}(J:x∈xC z wh fc b)(K:y∈xC z wh fc b)(h:jR (xC z wh fc b) z x=jR (xC z wh fc b) z y):x=y:=by
 obtain⟨f,t,u⟩:=x;obtain⟨g,s,v⟩:=y;obtain⟨i,d⟩:=um r H p J;obtain⟨j,k⟩:=um r H p K;have B:i=5->j=5->f=g:=λa c=>FO (r.k1 wh) d.hf k.hf (by rw[<-a];exact d.hc) (by rw[<-c];exact k.hc);have F:i≠0->u=0:=d.u0;have G:j≠0->v=0:=k.u0;have w:=d.hi;have A:=k.hi;rcases F4 (xC z wh fc b) d with⟨m,a1,o⟩|⟨m,a1,o⟩|⟨m,o⟩|⟨m,o⟩<;>rcases F4 (xC z wh fc b) k with⟨c1,c2,c3⟩|⟨c1,c2,c3⟩|⟨c1,c3⟩|⟨c1,c3⟩<;>rw[o,c3]at h
 .rw[B m c1,show t=s by have:=B m c1;omega,F O,G O]
 .cases h
 .exact Ih
 .exact IA
 .cases h
 .rw[B m c1,show t=s by have:=B m c1;omega,F O,G O]
 .exact Ih
 .exact IA
 .exact Im
 .exact Im
 .obtain⟨V,P,Q⟩:=mQ d.ht k.ht d.hu k.hu h;subst m c1 P Q;rw[r9 r d k V]
 .obtain⟨q,l,e⟩:=jw f t u;unfold zQ at h;rw[e,k.cap]at h;injection h with h _;exact absurd h (FR (q%8) O j A).1
 .exact IF
 .exact IF
 .obtain⟨q,l,e⟩:=jw g s v;unfold zQ at h;rw[e,d.cap]at h;injection h with h _;exact absurd h.symm (FR (q%8) O i w).1
 .unfold zQ at h;injection h with ha C;rw[d.cap,k.cap]at ha;have E:=CV i w j A ha;obtain⟨C,e⟩:=CI d.ht k.ht C;subst E e;have D:=(XR C R).1;have M:z f=z g:=by have T:bg wh=0\/bg wh=6:=UM;rw[jn (p:=bg wh+i) O d.hc,jn (p:=bg wh+i) O k.hc]
  have W:=F m;have a0:=G m;subst W a0;by_cases n:f=g
  .rw[n]
  .have:=lk (x:=(f,t,0)) (y:=(g,t,0)) d.hf k.hf R R (L:=jX (xC z wh fc b) z f t) (L':=jX (xC z wh fc b) z g t)
    (qV.2 ⟨K,by simp[M,Ne.symm n]⟩) (qV.2 ⟨J,by simp[M,n]⟩) D
   exact absurd this n
theorem gl(M:List Mv){t:Nat}(h:pZ z wh fc b f t u i):∃l c,jR M z (f,t,u)=l++[c]/\c≠43/\c≠35:=by
 have j:=h.ht;have d:∀a:I1,∃l c,a++xQ t=l++[c]/\c≠43/\c≠35:=λa=>⟨a++[xA t],xI t,by rw[zF,qS];rfl,(dO (t/8) O).2⟩;rcases F4 M h with⟨_,_,e⟩|⟨_,_,e⟩|⟨_,e⟩|⟨_,e⟩<;>rw[e]
 .exact⟨[79,45],79,R,WW,WW⟩
 .exact⟨[79,45,79,45],79,R,WW,WW⟩
 .unfold z7;by_cases g:u=0
  .rw[qI g,Yh];exact d _
  .rw[qF g];exact⟨_,vz u,by rw[show([61,vz u]:I1)=[61]++[vz u]from R,<-qS],oS u h.hu⟩
 .unfold zQ;rw[<-YA];exact d _
theorem mC(p:kJ z wh fc b)(n:-1<=b)(o:b<=63){x y:Mv}(w:x∈xC z wh fc b)(A:y∈xC z wh fc b){g k:I1}(q:g=[]\/g=[43]\/g=[35])(r:k=[]\/k=[43]\/k=[35])(h:jR (xC z wh fc b) z x++g=jR (xC z wh fc b) z y++k):x=y:=by
 obtain⟨i,F⟩:=um (f:=x.1) (t:=x.2.1) (u:=x.2.2) p n o w;obtain⟨j,G⟩:=um (f:=y.1) (t:=y.2.1) (u:=y.2.2) p n o A;obtain⟨l,c,D,c1,c2⟩:=gl (xC z wh fc b) F;obtain⟨m,d,E,B,C⟩:=gl (xC z wh fc b) G;have v:jR (xC z wh fc b) z x=jR (xC z wh fc b) z y:=by
  have a:jR (xC z wh fc b) z x=l++[c]:=D;have e:jR (xC z wh fc b) z y=m++[d]:=E;rcases q with rfl|rfl|rfl<;>obtain rfl|rfl|rfl:=r
  .simpa using h
  .rw[a,Yh]at h;exact absurd (List.singleton_inj.1 (XR h R).2) c1
  .rw[a,Yh]at h;exact absurd (List.singleton_inj.1 (XR h R).2) c2
  .rw[e,Yh]at h;exact absurd (List.singleton_inj.1 (XR h R).2).symm B
  .exact(XR h R).1
  .exact(XR h R).1
  .rw[e,Yh]at h;exact absurd (List.singleton_inj.1 (XR h R).2).symm C
  .exact(XR h R).1
  .exact(XR h R).1
 exact wF p n o w A v
structure Bq(w:I6)(PA:I0)(W:I6):Prop where
 c0:W.cell? ⟨w.heap.size,0,N⟩=S (.func (.func 60) #[] #[])
 c1:W.cell? ⟨w.heap.size,1,N⟩=S (.func (.func 61) #[] #[])
 pa:W.heap[w.heap.size+1]?=S (Z PA 70)
 gr:Gr w W
theorem Bq.next(h:Bq w PA W)(g:Gr W a):Bq w PA a :=
 ⟨(ZW g (Ye W _ h.c0)).trans h.c0,(ZW g (Ye W _ h.c1)).trans h.c1,(ZE g h.pa),Gr.trans h.gr g⟩
theorem ac(w:I6)(PA:I0):Bq w PA ((w.alloc (Z jP 74)).alloc (Z PA 70)):=by obtain⟨a,b⟩:=x6 w (Z jP 74) (Z PA 70);exact⟨by rw[Zs a];rfl,by rw[Zs a];rfl,b,ZN.al⟩
theorem aZ{g:Int}(r:jE z wh fc b h g PA)(y:xO z=Zk)(B:-1<=b)(D:b<=63)(w:I6)(G:jF w)(F:jQ w) :
 ZL 125 #[Zc jP,Zc PA] w (Za (!(xC z wh fc b).isEmpty)):=by
 have l:=X (mkS r y B D w G F);have v:(prog.info? 70).map (·.size)=S PA.size:=VU;have m:=X (ac w PA);obtain⟨⟨f,t,u⟩,p⟩:=Zn ((xC z wh fc b).headD (0,0,0));have a:Y (∀(lb:I0)(C:Nat->Prop)(W:I6),(∀k,C k->k<W.heap.size)->It prog 128 lb vr (λ_=>False) C (xC z wh fc b) W->ZL 66 #[.func (.func 128) #[] lb] W (Ze #[Zc (ZJ f t u),Za (!(xC z wh fc b).isEmpty)])):=X λlb C W d i=>(qzv i l.a.ei d).mono λe w' k=>⟨by rw[k.1,p.a];rfl,k.2⟩;generalize (!(xC z wh fc b).isEmpty)=K at a |-;clear p;simp only[jP,zG]at m |-;go_enter func125,ntmps125;go_upto_region 1 with fail;show Code.wp _ _ _ _ ((w.alloc (Z #[.func (.func 60) #[] #[],.func (.func 61) #[] #[]] 74)).alloc (Z PA 70));generalize ((w.alloc (Z #[.func (.func 60) #[] #[],.func (.func 61) #[] #[]] 74)).alloc (Z PA 70))=M at m |-;have c1:=m.a.c1;have A:=m.a.pa;have j:=m.a.gr;clear r y G F;go_upto_region 2 with(first
  | (go_at_call 61;refine(l.a.go (λ_=>False) (λ_ q=>q.elim) _ j).mono ?_;rintro e J ⟨lb,C,rfl,n,d,i⟩)
  | (go_at_call 66;refine Z0 (a.a lb C _ d i) λH o=>?_)
  | (refine ZV R 70 _ R (w.heap.size+1) R 70 PA (0,0) _ A underlying70 rfl v ?_))
 have E:=X (Gr.trans (Gr.trans (Gr.trans j n) o) ((Gr.refl H).alloc (ZJ f t u) 87));clear i d n o a l m j A c1;go_wp2_with fail;go_ret;exact⟨R,E.a⟩
def fe(c n:Bool):I1:=if c=Zl then[]else if n=Zk then[43]else[35]
theorem fZ{g:Int}(r:jE z wh fc b h g PA)(o:xO z=Zk)(p:-1<=b)(q:b<=63)(y:0<=xR z wh)(A:xR z wh<=63)(w:I6)(x:jF w)(v:jQ w) :
 ZL 59 #[Zc jP,Zc PA] w (Zb (xJ (fe (kz z wh) (!(xC z wh fc b).isEmpty)))):=by
 have a:=X (λW=>fp r o y A W);have d:=X (λW (u:Gr w W)=>aZ r o p q W (x.gr u) (v.gr u));have j:(prog.info? 70).map (·.size)=S PA.size:=VU;have k:=X (ac w PA);generalize (!(xC z wh fc b).isEmpty)=e at d |-;generalize kz z wh=c at a |-;clear r o x v y A;simp only[jP,zG]at k a d |-;cases c with
 | false =>
  go_enter func59,ntmps59;go_upto_region 1 with fail;show Code.wp _ _ _ _ ((w.alloc (Z #[.func (.func 60) #[] #[],.func (.func 61) #[] #[]] 74)).alloc (Z PA 70));generalize ((w.alloc (Z #[.func (.func 60) #[] #[],.func (.func 61) #[] #[]] 74)).alloc (Z PA 70))=B at k |-;have c0:=k.a.c0;have c1:=k.a.c1;have f:=X k.a.pa
  go_wp2_with(first
   | (go_at_call 124;refine Z0 (a.a _) λC l=>?_)
   | (refine ZV R 70 _ R (w.heap.size+1) R 70 PA (0,0) _ f.a underlying70 rfl j ?_))
  have m:=X (Gr.trans k.a.gr l);clear l k f c0 c1 a d;go_ret;exact⟨R,m.a⟩
 | true =>
  go_enter func59,ntmps59;go_upto_region 1 with fail;show Code.wp _ _ _ _ ((w.alloc (Z #[.func (.func 60) #[] #[],.func (.func 61) #[] #[]] 74)).alloc (Z PA 70));generalize ((w.alloc (Z #[.func (.func 60) #[] #[],.func (.func 61) #[] #[]] 74)).alloc (Z PA 70))=B at k |-;have c0:=k.a.c0;have c1:=k.a.c1;have f:=X k.a.pa
  go_upto_region 3 with(first
   | (go_at_call 124;refine Z0 (a.a _) λC l=>?_)
   | (refine ZV R 70 _ R (w.heap.size+1) R 70 PA (0,0) _ f.a underlying70 rfl j ?_))
  have i:=X (k.a.next l);clear l k f c0 c1 a;have c0:=i.a.c0;have c1:=i.a.c1;have f:=X i.a.pa;cases e with
  | false =>
   go_wp2_with(first
    | (go_at_call 125;refine Z0 (d.a _ i.a.gr) λD n=>?_)
    | (refine ZV R 70 _ R (w.heap.size+1) R 70 PA (0,0) _ f.a underlying70 rfl j ?_))
   have m:=X (Gr.trans i.a.gr n);go_ret;exact⟨R,m.a⟩
  | true =>
   go_wp2_with(first
    | (go_at_call 125;refine Z0 (d.a _ i.a.gr) λD n=>?_)
    | (refine ZV R 70 _ R (w.heap.size+1) R 70 PA (0,0) _ f.a underlying70 rfl j ?_))
   have m:=X (Gr.trans i.a.gr n);go_ret;exact⟨R,m.a⟩
theorem gz(L:List Mv)(f:Nat):(iT L f).length<=2:=by
 unfold iT;by_cases a:L.isEmpty=Zk
 .rw[qI a];simp
 .rw[qF a];by_cases b:L.all (λy=>!decide (y.1%8=f%8))=Zk
  .rw[qI b];simp
  .rw[qF b];by_cases d:L.all (λy=>!decide (y.1/8=f/8))=Zk
   .rw[qI d];simp
   .rw[qF d,zF];simp
structure Bm(w:I6)(PA M:I0)(W:I6):Prop where
 c0:W.cell? ⟨w.heap.size,0,N⟩=S (.func (.func 60) #[] #[])
 c1:W.cell? ⟨w.heap.size,1,N⟩=S (.func (.func 61) #[] #[])
 pa:W.heap[w.heap.size+1]?=S (Z PA 70)
 mv:W.heap[w.heap.size+1+1]?=S (Z M 87)
 gr:Gr w W
theorem Bm.next(h:Bm w PA M W)(g:Gr W a):Bm w PA M a :=
 ⟨(ZW g (Ye W _ h.c0)).trans h.c0,(ZW g (Ye W _ h.c1)).trans h.c1,(ZE g h.pa),(ZE g h.mv),Gr.trans h.gr g⟩
theorem Bm.start(w:I6)(PA M:I0):Bm w PA M (((w.alloc (Z jP 74)).alloc (Z PA 70)).alloc (Z M 87)):=by have e:Gr (w.alloc (Z jP 74)) (((w.alloc (Z jP 74)).alloc (Z PA 70)).alloc (Z M 87)):=ZN.al;have a:=(YG e w.heap.size Vj).trans (ZQ w _);obtain⟨b,d⟩:=x6 (w.alloc (Z jP 74)) (Z PA 70) (Z M 87);rw[Z3]at b d;exact⟨by rw[Zs a];rfl,by rw[Zs a];rfl,b,d,Gr.trans ZN e⟩
theorem Bm.cells{g:Int}{t:Nat}(a:f<64)(d:t<64)(r:jE z wh fc b h g PA)(q:Bm w PA (ZJ f t u) W) :
 W.cell? ⟨w.heap.size,0,N⟩=S (.func (.func 60) #[] #[])/\W.cell? ⟨w.heap.size,1,N⟩=S (.func (.func 61) #[] #[])/\W.heap[w.heap.size+1]?=S (Z PA 70)/\W.cell? ⟨w.heap.size+1+1,0,N⟩=S (I L f)/\W.cell? ⟨w.heap.size+1+1,1,N⟩=S (I L t)/\W.cell? ⟨w.heap.size+1+1,2,N⟩=S (I Zg u.toNat)/\W.cell? ⟨w.heap.size+1,f,N⟩=S (I Zg (z f).toNat)/\W.cell? ⟨w.heap.size+1,t,N⟩=S (I Zg (z t).toNat):=by obtain⟨e,i,j⟩:=qm q.mv;exact⟨q.c0,q.c1,q.pa,e,i,j,by rw[Zs q.pa];exact r.sq f a,by rw[Zs q.pa];exact r.sq t d⟩
theorem qke{g:Int}(r:jE z wh fc b h g PA)(L:xO z=Zk)(F:-1<=b)(G:b<=63)(f t:Nat)(l:f<64)(m:t<64)(u:UInt8)(hz:(z f).toNat<128)(w:I6)(hT:jF w)(hC:jQ w) :
  ZL 123 #[Zc jP,Zc PA,Zc (ZJ f t u)] w (Zb (xJ (zQ (xC z wh fc b) z f t))):=by
 have H:=X (λW=>gV (z f) hz W);have n:=X (λW (gW:Gr w W)=>lj r L F G f t l u W (hT.gr gW) (hC.gr gW));have hN:=X (λW=>qxp t m W);have b2:(prog.info? 70).map (·.size)=S PA.toList.length:=U1;have a9:=Bm.start w PA (ZJ f t u);have J:(iT (jX (xC z wh fc b) z f t) f).length<=2:=gz _ _;have b1:(z t=46/\((z t).toNat:Int)=46)\/(z t≠46/\((z t).toNat:Int)≠46):=by
  by_cases e:z t=46
  .exact Zi ⟨e,Tg⟩
  .exact Zj ⟨e,λq=>e (q6.1 (by have:(46:UInt8).toNat=46:=R;omega))⟩
 unfold zQ;generalize iT (jX (xC z wh fc b) z f t) f=wt at n J |-;have M:=X (λW=>xb [vz (z f)] wt WX W);have T:=X (λW=>xb ([vz (z f)]++wt) [120] WX W);have a7:=X (λW=>xb ([vz (z f)]++wt) [xA t,xI t] WX W);have a6:=X (λW=>xb ([vz (z f)]++wt++[120]) [xA t,xI t] WX W);have P:Y (z t=46->xJ (vz (z f) :: (wt++(if z t=46 then[]else[120])++xQ t))=xJ ([vz (z f)]++wt++[xA t,xI t])):=X (λa=>by rw[qI a,Yh];rfl);have Q:Y (z t≠46->xJ (vz (z f) :: (wt++(if z t=46 then[]else[120])++xQ t))=xJ ([vz (z f)]++wt++[120]++[xA t,xI t])):=X (λa=>by rw[qF a];rfl);obtain⟨RS,E⟩:=Zn (xJ (vz (z f) :: (wt++(if z t=46 then[]else[120])++xQ t)));rw[E.a]at P Q |-;generalize xJ ([vz (z f)]++wt++[120]++[xA t,xI t])=S4 at a6 Q;generalize xJ ([vz (z f)]++wt++[xA t,xI t])=S3 at a7 P;generalize xJ ([vz (z f)]++wt++[120])=S2 at T a6;generalize xJ ([vz (z f)]++wt)=a8 at M T a7;generalize xJ [vz (z f)]=UC at M H;generalize xJ wt=WT at M n;generalize xJ [xA t,xI t]=b0 at a7 a6 hN;have a1:∀W,(Op.stringOp .add UC WT).run prog W=.ok (Zb a8) W:=M.a;have a2:∀W,(Op.stringOp .add a8 ⟨#[120]⟩).run prog W=.ok (Zb S2) W:=T.a;have a3:∀W,(Op.stringOp .add a8 b0).run prog W=.ok (Zb S3) W:=a7.a;have a4:∀W,(Op.stringOp .add S2 b0).run prog W=.ok (Zb S4) W:=a6.a;clear M T a7 a6 E hT hC J L F G;have a0:¬ (64<=(f:Int)):=O;have a5:¬ (64<=(t:Int)):=O;simp only[jP,zG]at a9 n |-;go_enter func123,ntmps123;go_upto_region 1 with fail;show Code.wp _ _ _ _ (((w.alloc (Z #[.func (.func 60) #[] #[],.func (.func 61) #[] #[]] 74)).alloc (Z PA 70)).alloc (Z (ZJ f t u) 87));generalize (((w.alloc (Z #[.func (.func 60) #[] #[],.func (.func 61) #[] #[]] 74)).alloc (Z PA 70)).alloc (Z (ZJ f t u) 87))=wA at a9 |-;refine ZT (S:=Bm w PA (ZJ f t u)) WR (a9.next ZO.drew) (λd=>?_);refine ZB 0 (ZI (w.heap.size+1+1)) R (λw i=>Vm) d ?_;refine ZB 1 (I .i64 f) R (λw i=>Vm) d ?_;refine ZB 2 (ZI (w.heap.size+1)) R (λw i=>Vm) d ?_;refine ZB 3 (.pointer (S ⟨w.heap.size+1,f,N⟩)) R (λw i=>Vm) d ?_;refine ZB 4 (I Zg (z f).toNat) R (λw i=>Vm) d ?_;refine ZB 6 (Zc #[.func (.func 60) #[] #[],.func (.func 61) #[] #[]]) R (λw i=>Vm) d ?_;refine ty 7 (Zc PA) R (wY b2 Vb _ R (w.heap.size+1) R (λ_ h=>h.pa)) d ?_;refine ZB 8 (Zc (ZJ f t u)) R (λw i=>Vm) d ?_;refine rd 5 λK hK=>?_;go_simp;refine Z0 (H.a _) λwc k=>?_;refine hK.out _ _ (d.next k) λd=>?_;clear hK K k;try simp only[py]
 refine rd 9 λK hK=>?_;go_simp;refine Z0 (n.a _ d.gr) λwc k=>?_;refine hK.out _ _ (d.next k) λd=>?_;clear hK K k;try simp only[py]
 refine ZB 10 (Zb a8) R (λw i=>Vm) d ?_;refine rd 11 λK hK=>?_;go_simp;refine hK.out _ _ d λd=>?_;clear hK K;try simp only[py]
 refine ZZ WR ?_ _;obtain⟨c0,c1,A,p,v,y,cf,o⟩:=Bm.cells l m r d;obtain⟨V,e2⟩|⟨V,e2⟩:=b1
 .have D:=X (P.a V);exact O0
 .have D:=X (Q.a V);exact O0
theorem cm{g:Int}(r:jE z wh fc b h g PA)(E:xO z=Zk)(C:-1<=b)(D:b<=63)(f t:Nat)(a0:f<64)(M:t<64)(u:UInt8)(a5:u.toNat<128)(hz:(z f).toNat<128)(w:I6)(a2:jF w)(a1:jQ w) :
 ZL 58 #[Zc jP,Zc PA,Zc (ZJ f t u)] w (Zb (xJ (jR (xC z wh fc b) z (f,t,u)))):=by
 have j:=X (λW=>qjk (z f) W);have n:=X (λW=>xz (z f) W);have B:=X (λW=>dS f t a0 M u a5 W);have y:=X (λW (Q:Gr w W)=>qke r E C D f t a0 M u hz W (a2.gr Q) (a1.gr Q));have A:(prog.info? 70).map (·.size)=S PA.size:=VU;have H:=X (Bm.start w PA (ZJ f t u));have v:Y (jA (z f)=Zk->t=f+2->xJ (jR (xC z wh fc b) z (f,t,u))=⟨#[79,45,79]⟩):=X (λa c=>by unfold jR;rw[qI ⟨a,c⟩];rfl);have x:Y (jA (z f)=Zk->t≠f+2->t+2=f->xJ (jR (xC z wh fc b) z (f,t,u))=⟨#[79,45,79,45,79]⟩):=X (λa c d=>by unfold jR;rw[qF (λq=>c q.2),qI ⟨a,d⟩];rfl);have l:Y (¬ (jA (z f)=Zk/\t=f+2)->¬ (jA (z f)=Zk/\t+2=f)->jD (z f)=Zk->xJ (jR (xC z wh fc b) z (f,t,u))=xJ (z7 f t u)):=X (λa c d=>by unfold jR;rw[qF a,qF c,qI d]);have m:Y (¬ (jA (z f)=Zk/\t=f+2)->¬ (jA (z f)=Zk/\t+2=f)->jD (z f)=Zl->xJ (jR (xC z wh fc b) z (f,t,u))=xJ (zQ (xC z wh fc b) z f t)):=X (λa c d=>by unfold jR;rw[qF a,qF c,qF Oi]);have a6:¬ (64<=(f:Int)):=O;have w2:IntKind.i64.wrap ((f:Int)+2)=(f:Int)+2:=Vc;have w3:IntKind.i64.wrap ((f:Int)-2)=(f:Int)-2:=Vc;generalize xJ (jR (xC z wh fc b) z (f,t,u))=RS at v x l m |-;generalize xJ (z7 f t u)=PW at B l;generalize xJ (zQ (xC z wh fc b) z f t)=PC at y m;generalize jA (z f)=kv at j v x l m;generalize jD (z f)=V at n l m;clear a2 a1 E C D;simp only[jP,zG]at H y |-;go_enter func58,ntmps58;go_upto_region 1 with fail;show Code.wp _ _ _ _ (((w.alloc (Z #[.func (.func 60) #[] #[],.func (.func 61) #[] #[]] 74)).alloc (Z PA 70)).alloc (Z (ZJ f t u) 87));generalize (((w.alloc (Z #[.func (.func 60) #[] #[],.func (.func 61) #[] #[]] 74)).alloc (Z PA 70)).alloc (Z (ZJ f t u) 87))=wA at H |-;obtain⟨c0,c1,T,m0,m1,m2,cf,a3⟩:=Bm.cells a0 M r H.a;have F:=X T;have i:=X H.a.gr;clear T a3;go_upto_region 2 with fail;have a7:Y (∀(P:Prop),P->P):=X λ_ p=>p;cases kv with
 | true =>
  by_cases G:t=f+2
  .have a4:(t:Int)=f+2:=O
   have o:=X (v.a R G);clear v x l m;go_wp2_with(go_at_call 120;refine Z1 (j.a _) ?_);go_ret;exact⟨Un,i.a⟩
  .have a4:¬ (t:Int)=f+2:=O
   by_cases J:t+2=f
   .have K:(t:Int)=f-2:=O
    have o:=X (x.a R G J);clear v x l m;go_wp2_with(go_at_call 120;refine Z1 (j.a _) ?_);go_ret;exact⟨Un,i.a⟩
   .have K:¬ (t:Int)=f-2:=O
    cases V with
    | true =>
     have o:=X (l.a (λq=>G q.2) (λq=>J q.2) R);clear v x l m
     go_wp2_with(first
      | (go_at_call 120;refine Z1 (j.a _) ?_)
      | (go_at_call 121;refine Z1 (n.a _) ?_)
      | (go_at_call 122;refine Z0 (B.a _) λe k=>?_))
     go_ret;exact⟨Un,Gr.trans i.a k⟩
    | false =>
     have o:=X (m.a (λq=>G q.2) (λq=>J q.2) R);clear v x l m
     go_wp2_with(first
      | (go_at_call 120;refine Z1 (j.a _) ?_)
      | (go_at_call 121;refine Z1 (n.a _) ?_)
      | (go_at_call 123;refine Z0 (y.a _ i.a) λe k=>?_)
      | (refine ZV R 70 _ R (w.heap.size+1) R 70 PA (0,0) _ F.a underlying70 rfl A ?_))
     go_ret;exact⟨Un,Gr.trans i.a k⟩
 | false =>
  cases V with
  | true =>
   have o:=X (l.a (λq=>by cases q.1) (λq=>by cases q.1) R);clear v x l m
   go_wp2_with(first
    | (go_at_call 120;refine Z1 (j.a _) ?_)
    | (go_at_call 121;refine Z1 (n.a _) ?_)
    | (go_at_call 122;refine Z0 (B.a _) λe k=>?_))
   go_ret;exact⟨Un,Gr.trans i.a k⟩
  | false =>
   have o:=X (m.a (λq=>by cases q.1) (λq=>by cases q.1) R);clear v x l m
   go_wp2_with(first
    | (go_at_call 120;refine Z1 (j.a _) ?_)
    | (go_at_call 121;refine Z1 (n.a _) ?_)
    | (go_at_call 123;refine Z0 (y.a _ i.a) λe k=>?_)
    | (refine ZV R 70 _ R (w.heap.size+1) R 70 PA (0,0) _ F.a underlying70 rfl A ?_))
   go_ret;exact⟨Un,Gr.trans i.a k⟩
def pX(z:I2)(wh:Bool)(fc:I5)(b:Int)(x:Mv):I1:=fe (kz (zE z b x) (!wh)) (!(xC (zE z b x) (!wh) (kB fc x.1 x.2.1 4) (vK z x.1 x.2.1)).isEmpty)
def uj(z:I2)(wh:Bool)(fc:I5)(b:Int)(x:Mv):I1:=jR (xC z wh fc b) z x++pX z wh fc b x
theorem d6(c n:Bool):fe c n=[]\/fe c n=[43]\/fe c n=[35]:=by cases c<;>cases n<;>simp[fe]
theorem De{g:Int}(o:Ok z wh fc b h g){x y:Mv}(a:x∈xC z wh fc b)(d:y∈xC z wh fc b)(e:uj z wh fc b x=uj z wh fc b y):x=y:=mC o.good o.b0 o.b1 a d (d6 _ _) (d6 _ _) e
theorem Ok.king{g:Int}(o:Ok z wh fc b h g):0<=xR z wh/\xR z wh<=63:=by obtain⟨y,a,_,e⟩:=js (o.good.k1 wh);omega
theorem ae(M:List Mv){t:Nat}(h:pZ z wh fc b f t u i):(jR M z (f,t,u)).length<=10:=by grind[F4,z7,qZ,zF,zQ,gz,jX]
theorem fE:∀p,p<12->(yQ p).toNat<128:=WS
theorem oW:∀u∈U5,u.toNat<128:=WS
theorem pZ.small{t:Nat}(h:pZ z wh fc b f t u i):(z f).toNat<128:=by have d:=h.hi;have a:bg wh=0\/bg wh=6:=UM;rw[jn (p:=bg wh+i) O h.hc];exact fE _ O
theorem pe{g:Int}(r:jE z wh fc b h g PA)(o:Ok z wh fc b h g)(f t:Nat)(u:UInt8)(B:(f,t,u)∈xC z wh fc b)(w:I6)(a0:jF w)(H:jQ w)(a5:vJ w) :
  ZL 32 #[Zc jP,Zc PA,Zc (ZJ f t u)] w (Zb (xJ (uj z wh fc b (f,t,u)))):=by
 obtain⟨i,a1⟩:=um o.good o.b0 o.b1 B;have o':=o.next B;obtain⟨p,q,hu,v,x⟩:=o.mv B;obtain⟨P,a3,T,V⟩:=o.clk;have m:=X (λW (l:Gr w W)=>cm r o.lay o.b0 o.b1 f t p q u (oW u hu) a1.small W (a0.gr l) (H.gr l));have J:=X (λW (l:Gr w W)=>iJ r f t u p q v x P a3 T V W (a5.gr l));have n:Y (∀(Q:I0) W,Gr w W->jE (zE z b (f,t,u)) (!wh) (kB fc f t 4) (vK z f t) (kK z f t h) (kj wh g) Q->ZL 59 #[Zc jP,Zc Q] W (Zb (xJ (pX z wh fc b (f,t,u))))):=X (λQ W l rQ=>fZ rQ o'.lay o'.b0 o'.b1 o'.king.1 o'.king.2 W (a0.gr l) (H.gr l));have k:(prog.info? 70).map (·.size)=S PA.toList.length:=U1;have M:=Bm.start w PA (ZJ f t u);have a7:(pX z wh fc b (f,t,u)).length<=1:=by unfold pX;rcases d6 (kz (zE z b (f,t,u)) (!wh)) (!(xC (zE z b (f,t,u)) (!wh) (kB fc f t 4) (vK z f t)).isEmpty)with e|e|e<;>(rw[e];simp)
 have y:=X (λW=>xb (jR (xC z wh fc b) z (f,t,u)) (pX z wh fc b (f,t,u)) (by have:=ae (xC z wh fc b) a1;omega) W);unfold uj;generalize xJ (jR (xC z wh fc b) z (f,t,u)++pX z wh fc b (f,t,u))=a2 at y |-;generalize xJ (jR (xC z wh fc b) z (f,t,u))=a6 at y m;generalize xJ (pX z wh fc b (f,t,u))=a8 at y n;have a4:∀W,(Op.stringOp .add a6 a8).run prog W=.ok (Zb a2) W:=y.a;clear y a7 a0 H a5 o' v x a1 B o P a3 T V;simp only[jP,zG]at M m n |-;go_enter func32,ntmps32;go_upto_region 1 with fail;show Code.wp _ _ _ _ (((w.alloc (Z #[.func (.func 60) #[] #[],.func (.func 61) #[] #[]] 74)).alloc (Z PA 70)).alloc (Z (ZJ f t u) 87));generalize (((w.alloc (Z #[.func (.func 60) #[] #[],.func (.func 61) #[] #[]] 74)).alloc (Z PA 70)).alloc (Z (ZJ f t u) 87))=wA at M |-;refine ZT (S:=Bm w PA (ZJ f t u)) WR (M.next ZO.drew) (λa=>?_);refine ZB 0 (Zc #[.func (.func 60) #[] #[],.func (.func 61) #[] #[]]) R (λw j=>Vv) a ?_;refine ty 1 (Zc PA) R (wY k Vb _ R (w.heap.size+1) R (λ_ h=>h.pa)) a ?_;refine ZB 2 (Zc (ZJ f t u)) R (λw j=>Vv) a ?_;refine ZB 4 (Zc #[.func (.func 60) #[] #[],.func (.func 61) #[] #[]]) R (λw j=>Vv) a ?_;refine ty 5 (Zc PA) R (wY k Vb _ R (w.heap.size+1) R (λ_ h=>h.pa)) a ?_;refine ZB 6 (Zc (ZJ f t u)) R (λw j=>Vv) a ?_;refine rd 3 λK hK=>?_;go_simp;refine Z0 (m.a _ a.gr) λwc d=>?_;refine hK.out _ _ (a.next d) λa=>?_;clear hK K d;try simp only[py]
 refine rd 7 λK hK=>?_;go_simp;refine(J.a _ a.gr).mono ?_;rintro e wc ⟨Q,rfl,hQ,d⟩;refine hK.out _ _ (a.next d) λa=>?_;clear hK K d;try simp only[py]
 refine rd 8 λK hK=>?_;go_simp;refine Z0 (n.a _ _ a.gr hQ) λwc d=>?_;refine hK.out _ _ (a.next d) λa=>?_;clear hK K d;try simp only[py]
 refine ZB 9 (Zb a2) R (λw j=>Vv) a ?_;refine rd 10 λK hK=>?_;exact IU
theorem cN(a c:I4):(a.toList==c.toList)=Zm (a=c):=by
 by_cases e:a=c
 .subst e;simp
 .rw[qE e,qM];intro q;rw[Xl,Xl]at q;exact e (bytes_inj q)
structure Rf(w:I6)(Bx B1 B2 B3:Nat)(PA M:I0)(tx:I4)(W:I6):Prop where
 q:W.heap[B1]?=S (Z jP 74)
 pa:W.heap[B2]?=S (Z PA 70)
 s:W.heap[B3]?=S (Z #[Zb tx] 9)
 mv:W.heap[Bx]?=S (Z M 87)
 gr:Gr w W
theorem Rf.next{f:I6}{a b:Nat}{i:I4}(h:Rf w e a b d PA M i W)(g:Gr W f):Rf w e a b d PA M i f :=
 ⟨(ZE g h.q),(ZE g h.pa),(ZE g h.s),(ZE g h.mv),Gr.trans h.gr g⟩
theorem Rf.cells{b:Nat}{g:I4}{a c d:I7}(h:Rf w b e i f PA #[a,c,d] g W):W.cell? ⟨e,0,N⟩=S (.func (.func 60) #[] #[])/\W.cell? ⟨e,1,N⟩=S (.func (.func 61) #[] #[])/\W.cell? ⟨b,0,N⟩=S a/\W.cell? ⟨b,1,N⟩=S c/\W.cell? ⟨b,2,N⟩=S d/\W.cell? ⟨f,0,N⟩=S (Zb g):=by obtain⟨j,k,l⟩:=qm h.mv;exact⟨by rw[Zs h.q];rfl,by rw[Zs h.q];rfl,j,k,l,(qi h.s).1⟩
theorem mH{g:Int}(r:jE z wh fc b h g PA)(o:Ok z wh fc b h g)(i:I4)(f t:Nat)(u:UInt8)(G:(f,t,u)∈xC z wh fc b)(p j q:Nat)(w:I6)(x:w.heap[p]?=S (Z jP 74))(y:w.heap[j]?=S (Z PA 70))(A:w.heap[q]?=S (Z #[Zb i] 9))(E:jF w)(B:jQ w)(D:vJ w) :
  ZL 68 #[Zc (ZJ f t u),ZI p,ZI j,ZI q] w (Za (Zm (xJ (uj z wh fc b (f,t,u))=i))):=by
 have d:=X (λW (v:Gr w W)=>pe r o f t u G W (E.gr v) (B.gr v) (D.gr v));have m:(prog.info? 70).map (·.size)=S PA.toList.length:=U1;have k:Gr w (w.alloc (Z (ZJ f t u) 87)):=ZN;have F:Rf w w.heap.size p j q PA (ZJ f t u) i (w.alloc (Z (ZJ f t u) 87)):=⟨(ZE k x),(ZE k y),(ZE k A),ZQ w _,k⟩;generalize xJ (uj z wh fc b (f,t,u))=P at d |-;rw[<-cN];simp only[jP,zG]at d;clear E B D o G k x y A r;go_enter func68,ntmps68;go_upto_region 1 with fail;show Code.wp _ _ _ _ (w.alloc (Z (ZJ f t u) 87));generalize (w.alloc (Z (ZJ f t u) 87))=M at F |-;refine ZT (S:=Rf w w.heap.size p j q PA (ZJ f t u) i) WR (F.next ZO.drew) (λa=>?_);refine ZB 0 (Zc #[.func (.func 60) #[] #[],.func (.func 61) #[] #[]]) R (λw n=>Uv) a ?_;refine ty 1 (Zc PA) R (wY m Vb _ R j R (λ_ h=>h.pa)) a ?_;refine ZB 2 (Zc (ZJ f t u)) R (λw n=>Uv) a ?_;refine ZB 4 (Zb i) R (λw n=>Uv) a ?_;refine rd 3 λK hK=>?_;go_simp;refine Z0 (d.a _ a.gr) λwc l=>?_;refine hK.out _ _ (a.next l) λa=>?_;clear hK K l;try simp only[py]
 refine tq 5 (Za (P.toList==i.toList)) a ?_;refine rd 6 λK hK=>?_;exact IU
def cU(z:I2)(wh:Bool)(fc:I5)(b:Int)(tx:I4):List Mv:=(xC z wh fc b).filter λx=>Zm (xJ (uj z wh fc b x)=tx)
structure E0(w:I6)(PA:I0)(tx:I4)(W:I6):Prop where
 q:W.heap[w.heap.size]?=S (Z jP 74)
 pa:W.heap[w.heap.size+1]?=S (Z PA 70)
 s:W.heap[w.heap.size+1+1]?=S (Z #[Zb tx] 9)
 mv:W.heap[w.heap.size+1+1+1]?=S (Z #[I L 0,I L 0,I Zg 0] 87)
 gr:Gr w W
theorem E0.next{b:I4}(h:E0 w PA b W)(g:Gr W a):E0 w PA b a :=
 ⟨(ZE g h.q),(ZE g h.pa),(ZE g h.s),(ZE g h.mv),Gr.trans h.gr g⟩
theorem E0.start(w:I6)(PA:I0)(a:I4):E0 w PA a ((((w.alloc (Z jP 74)).alloc (Z PA 70)).alloc (Z #[Zb a] 9)).alloc (Z #[I L 0,I L 0,I Zg 0] 87)):=by have g:Gr w ((((w.alloc (Z jP 74)).alloc (Z PA 70)).alloc (Z #[Zb a] 9)).alloc (Z #[I L 0,I L 0,I Zg 0] 87)):=ZN.al.al.al;refine⟨?_,?_,?_,?_,g⟩<;>(simp only[World.alloc,Array.getElem?_push,Array.size_push];first|(simp;done)|(simp;repeat(rw[qF O])))
theorem nM{g:Int}(r:jE z wh fc b h g PA)(o:Ok z wh fc b h g)(a:I4)(w:I6)(Z:jF w)(v:jQ w)(a1:vJ w) :
 ZL 37 #[Zc jP,Zc PA,Zb a] w (Ze #[gJ ((cU z wh fc b a).headD (0,0,0)),Za (!(cU z wh fc b a).isEmpty)]):=by
 have a0:∀(T:Fn)(first cap:I0)(w:I6),(Instr.makeFunc T first cap).run prog w=.ok (.func T first cap) w:=λ_ _ _ _=>R;have C:(prog.info? 70).map (·.size)=S PA.size:=VU;have H:=X (E0.start w PA a);obtain⟨⟨f,t,u⟩,n⟩:=Zn ((cU z wh fc b a).headD (0,0,0));have i:Y (∀(Bp J Bf:Nat)(W:I6),E0 w PA a W->W.heap[Bp]?=S (.cells PA 70)->W.heap[J]?=S (.cells #[.func (.func 128) #[] #[ZI Bp]] 141)->W.heap[Bf]?=S (.cells #[.func (.func 68) #[] #[ZI w.heap.size,ZI (w.heap.size+1),ZI (w.heap.size+1+1)]] 143) →
  ZL 66 #[.func (.func 155) #[] #[ZI J,ZI Bf]] W (Ze #[Zc (ZJ f t u),Za (!(cU z wh fc b a).isEmpty)])):=X (λBp J Bf W d hp ht hf=>by
  have m:=Z.gr d.gr;have l:=v.gr d.gr;have A:=a1.gr d.gr;have D:=qxq r o.lay o.b0 o.b1 Bp (λ_=>False) (λ_ q=>q.elim) W hp m l;have E:=D.mono (C':=λk=>(k=Bp\/k=2\/k=3)\/k=w.heap.size\/k=w.heap.size+1\/k=w.heap.size+1+1\/k=1) (λk q=>Zi q)
  have j:∀k,((k=Bp\/k=2\/k=3)\/k=w.heap.size\/k=w.heap.size+1\/k=w.heap.size+1+1\/k=1)->k<W.heap.size:=by
   rintro k ((rfl|rfl|rfl)|rfl|rfl|rfl|rfl)
   .exact(qB.1 hp).1
   .exact m.2
   .exact l.2
   .exact(qB.1 d.q).1
   .exact(qB.1 d.pa).1
   .exact(qB.1 d.s).1
   .exact A.2
  have F:=qkg E (YC func128 WR R) (YC func68 WR R) (λ_ q=>q.elim) (λ_ _ q=>q) j J Bf (λx=>Zm (xJ (uj z wh fc b x)=a)) ht hf (by rintro⟨f',t',u'⟩ hx V y;exact mH r o a f' t' u' hx w.heap.size (w.heap.size+1) (w.heap.size+1+1) V (y.same _ _ d.q (Zj (Zi R))) (y.same _ _ d.pa (Zj (Zj (Zi R)))) (y.same _ _ d.s (Zj (Zj (Zj (Zi R))))) (m.fr y (λ_=>Zi (Zj (Zi R)))) (l.fr y (λ_=>Zi (Zj (Zj R)))) (A.fr y (λ_=>Zj (Zj (Zj (Zj R))))))
  refine(qzv F (YC func155 WR R) (by
   rintro k (q|rfl|rfl)
   .exact j k q
   .exact(qB.1 ht).1
   .exact(qB.1 hf).1)).mono λe w' k=>⟨?_,k.2⟩
  have:=n.a;unfold cU at this;rw[k.1,this];rfl)
 rw[n.a];generalize (!(cU z wh fc b a).isEmpty)=a4 at i |-;clear n Z v a1 o r;simp only[jP,zG,gJ]at H |-;go_enter func37,ntmps37;go_upto_region 1 with fail;show Code.wp _ _ _ _ ((((w.alloc (.cells #[.func (.func 60) #[] #[],.func (.func 61) #[] #[]] 74)).alloc (.cells PA 70)).alloc (.cells #[Zb a] 9)).alloc (.cells #[I L 0,I L 0,I Zg 0] 87));generalize ((((w.alloc (.cells #[.func (.func 60) #[] #[],.func (.func 61) #[] #[]] 74)).alloc (.cells PA 70)).alloc (.cells #[Zb a] 9)).alloc (.cells #[I L 0,I L 0,I Zg 0] 87))=w0 at H |-;have c1:w0.cell? ⟨w.heap.size,1,N⟩=S (.func (.func 61) #[] #[]):=by rw[Zs H.a.q];rfl
 have Q:=X H.a.pa;have a7:=X (λW=>zk PA W);have a3:=X (λg gf lb lf W=>dV g gf lb lf W);go_wp2_with(first
  | (go_at_call 61;refine Z0 (a7.a _) λw2⟨G,a5⟩=>?_)
  | (go_at_call 67;refine Z0 (a3.a _ _ _ _ _) λw3⟨a6,K,B⟩=>?_;have a2:=X (H.a.next (Gr.trans a5 B));have P:=(ZE B G))
  | (go_at_call 66;refine Z0 (i.a _ _ _ _ a2.a P a6 K) λw4 M=>?_;have p:=X (a2.a.next M))
  | (refine ZU R 87 _ _ R (w.heap.size+1+1+1) (ZJ f t u) R R 87 #[I L 0,I L 0,I Zg 0] p.a.mv xW R Vi ?_)
  | (refine ZV R 70 _ R (w.heap.size+1) R 70 PA (0,0) _ Q.a underlying70 rfl C ?_))
 exact ZS (v:=Ze #[Zc (ZJ f t u),Za a4]) (qj results37 _ _ (w.heap.size+1+1+1) 87 (ZJ f t u) (0,0) _ R (Zt p.a.mv) underlying87 rfl xW) R ⟨R,p.a.gr.setRow _ O _⟩
structure AC(w:I6)(b1:Nat)(A:I0)(W:I6):Prop where
 pa:W.heap[b1]?=S (Z A 70)
 gr:Gr w W
theorem AC.next{b:Nat}(h:AC w b A W)(g:Gr W a):AC w b A a :=
 ⟨(ZE g h.pa),Gr.trans h.gr g⟩
theorem AC.put{a:Nat}(h:AC w a A W)(B:Nat)(M:I0)(d:w.heap.size<=B)(b:a≠B):AC w a A (W.setRow B M) :=
 ⟨by rw[Zu b];exact h.pa,h.gr.setRow _ d _⟩
def vU(s t:I4)(e:Ending):Prop :=
 (∃k,iP s k/\e=Zd (Ze #[Zb ⟨#[]⟩,I L k])) ∨
 (∃p,xG s=S p/\xP p=Zk/\cU (xM p) p.white (yC p.castle) p.behind t=[]/\e=Zd (Ze #[Zb ⟨#[]⟩,I L 4])) ∨
 (∃p x,xG s=S p/\xP p=Zk/\x∈cU (xM p) p.white (yC p.castle) p.behind t/\e=Zd (Ze #[Zb (xJ (yJ x)),I L 0]))
def AA(z:I2)(wh:Bool)(fc:I5)(b:Int)(f t n:Nat):Bool:=!decide (n=f)&&Zm (z n=z f)&&vo z wh fc b n t 0
def kI(z:I2)(wh:Bool)(fc:I5)(b:Int)(f t k:Nat):List Nat:=(List.range k).filter (AA z wh fc b f t)
def iH(L:List Nat)(f:Nat):Nat:=(L.filter λn=>Zm (n%8=f%8)).length
def iG(L:List Nat)(f:Nat):Nat:=(L.filter λn=>Zm (n/8=f/8)).length
theorem Ew{t:Nat}(h:AA z wh fc b f t k=Zl):kI z wh fc b f t (k+1)=kI z wh fc b f t k:=by unfold kI;rw[YI,YJ,List.filter_cons_of_neg (by rw[h];simp),List.filter_nil,Yh]
theorem Cn{t:Nat}(h:AA z wh fc b f t k=Zk):kI z wh fc b f t (k+1)=kI z wh fc b f t k++[k]:=by unfold kI;rw[YI,YJ,List.filter_cons_of_pos h,List.filter_nil]
theorem lZ(z:I2)(wh:Bool)(fc:I5)(b:Int)(f t k:Nat):(kI z wh fc b f t k).length<=k:=by unfold kI;exact q7 (Y8 _ _) (by rw[List.length_range];exact Zy)
theorem wO(L:List Nat)(f k:Nat):iH (L++[k]) f=iH L f+(if k%8=f%8 then 1 else 0):=by unfold iH;rw[YJ,qZ];by_cases h:k%8=f%8<;>simp[h]
theorem wN(L:List Nat)(f k:Nat):iG (L++[k]) f=iG L f+(if k/8=f/8 then 1 else 0):=by unfold iG;rw[YJ,qZ];by_cases h:k/8=f/8<;>simp[h]
structure Rm(w:I6)(PA M:I0)(W:I6):Prop where
 pa:W.heap[w.heap.size]?=S (Z PA 70)
 mv:W.heap[w.heap.size+1]?=S (Z M 125)
 gr:Gr w W
theorem Rm.next(h:Rm w PA M W)(g:Gr W a):Rm w PA M a :=
 ⟨(ZE g h.pa),(ZE g h.mv),Gr.trans h.gr g⟩
theorem Rm.start(w:I6)(PA M:I0):Rm w PA M ((w.alloc (Z PA 70)).alloc (Z M 125)):=by obtain⟨a,b⟩:=x6 w (Z PA 70) (Z M 125);exact⟨a,b,ZN.al⟩
theorem Rm.cells{g:Int}{t:Nat}(a:f<64)(d:k<64)(r:jE z wh fc b h g PA)(q:Rm w PA (ZJ f t u) W) :
 W.cell? ⟨w.heap.size+1,0,N⟩=S (I L f)/\W.cell? ⟨w.heap.size+1,1,N⟩=S (I L t)/\W.cell? ⟨w.heap.size+1,2,N⟩=S (I Zg u.toNat)/\W.cell? ⟨w.heap.size,f,N⟩=S (I Zg (z f).toNat)/\W.cell? ⟨w.heap.size,k,N⟩=S (I Zg (z k).toNat):=by obtain⟨e,i,j⟩:=qm q.mv;exact⟨e,i,j,by rw[Zs q.pa];exact r.sq f a,by rw[Zs q.pa];exact r.sq k d⟩
theorem nL(k t:Int):prog.built 125 [(0,I L k),(1,I L t)]=S #[I L k,I L t,I Zg 0]:=WR
theorem iF{g:Int}(r:jE z wh fc b h g PA)(hC:kJ z wh fc b)(b0:-1<=b)(b1:b<=63)(h0:0<=h)(h1:h<=65535)(g0:0<=g)(g1:g<=65535)(f t:Nat)(p:f<64)(ht:t<64)(u:UInt8)(w:I6) :
 ZL 109 #[Zc PA,Zc (ZJ f t u)] w (Zb (xJ (wh3 (!(kI z wh fc b f t 64).isEmpty) (Zm (iH (kI z wh fc b f t 64) f≠0)) (Zm (iG (kI z wh fc b f t 64) f≠0)) f))):=by
 have d5:Y (∀k:Nat,k<64->∀W,ZL 105 #[Zc PA,Zc #[I L k,I L t,I Zg 0]] W (Za (vo z wh fc b k t 0))):=X (λk hk W=>qjj r hC b0 b1 h0 h1 g0 g1 k t hk ht 0 WW W);obtain⟨va,a0⟩:=Zn (!(kI z wh fc b f t 64).isEmpty);obtain⟨vc,a1⟩:=Zn (Zm (iH (kI z wh fc b f t 64) f≠0));obtain⟨vd,a2⟩:=Zn (Zm (iG (kI z wh fc b f t 64) f≠0));rw[a0.a,a1.a,a2.a];have hN:=X (λW=>qxo f p W);have b3:(prog.info? 70).map (·.size)=S PA.size:=VU;have hq:=X (Rm.start w PA (ZJ f t u));have c6:¬ (64<=(f:Int)):=O;have sz:(⟨(xQ f).toArray⟩:I4).size=2:=R;have b5:(⟨(xQ f).toArray⟩:I4).extract 0 1=xJ [xA f]:=R;have b6:(⟨(xQ f).toArray⟩:I4).extract 1 2=xJ [xI f]:=R;have a6:Y ((⟨(xQ f).toArray⟩:I4)=xJ [xA f,xI f]):=X R;generalize (⟨(xQ f).toArray⟩:I4)=NF at hN sz b5 b6 a6;clear b0 b1 h0 h1 g0 g1 hC;go_enter func109,ntmps109;go_upto_region 1 with fail;show Code.wp _ _ _ _ ((w.alloc (Z PA 70)).alloc (Z (ZJ f t u) 125));generalize ((w.alloc (Z PA 70)).alloc (Z (ZJ f t u) 125))=w0 at hq |-;go_wp2_with fail;go_loopg [5,6,7,8,9] 64 (λgk a c d n _ wr=>∃k:Nat,k+gk=64/\n=I L k/\a=I L ((kI z wh fc b f t k).length:Int)/\c=I L (iH (kI z wh fc b f t k) f:Int)/\d=I L (iG (kI z wh fc b f t k) f:Int)/\Rm w PA (ZJ f t u) wr)
 case atStart=>exact⟨0,O,R,R,R,R,hq.a⟩
 case round=>
  obtain⟨k,k1,rfl,rfl,rfl,rfl,hR⟩:=hrel;by_cases c5:k<64
  .have i:k<64:=c5;have d1:0<=(k:Int):=O;have kl:(k:Int)<64:=O;have d0:¬ (64<=(k:Int)):=O;have D:=lZ z wh fc b f t k;have P:iH (kI z wh fc b f t k) f<=k:=q7 (Y8 _ _) D;have Q:iG (kI z wh fc b f t k) f<=k:=q7 (Y8 _ _) D;have wk:IntKind.i64.wrap ((k:Int)+1)=(k:Int)+1:=Vc;obtain⟨d4,T⟩:=Zn ((kI z wh fc b f t k).length);obtain⟨of,f1⟩:=Zn (iH (kI z wh fc b f t k) f);obtain⟨E,V⟩:=Zn (iG (kI z wh fc b f t k) f);rw[T.a]at D |-;rw[f1.a]at P |-;rw[V.a]at Q |-;have G:Y (AA z wh fc b f t k=Zl->(kI z wh fc b f t (k+1)).length=d4/\iH (kI z wh fc b f t (k+1)) f=of/\iG (kI z wh fc b f t (k+1)) f=E):=X λq=>by rw[Ew q];exact⟨T.a,f1.a,V.a⟩
   have K:Y (AA z wh fc b f t k=Zk->(kI z wh fc b f t (k+1)).length=d4+1/\iH (kI z wh fc b f t (k+1)) f=of+(if k%8=f%8 then 1 else 0)/\iG (kI z wh fc b f t (k+1)) f=E+(if k/8=f/8 then 1 else 0)):=X λq=>by rw[Cn q,wO,wN,qZ,T.a,f1.a,V.a];exact⟨R,R,R⟩
   have wo:IntKind.i64.wrap ((d4:Int)+1)=(d4:Int)+1:=Vc;have wf:IntKind.i64.wrap ((of:Int)+1)=(of:Int)+1:=Vc;have d2:IntKind.i64.wrap ((E:Int)+1)=(E:Int)+1:=Vc;clear T f1 V D P Q;by_cases hA:k=f
   .have b7:(k:Int)=f:=O;obtain⟨e,M,d3⟩:=G.a (by unfold AA;simp[hA]);have m:=X (YB e (YB M d3));clear e M d3 G K d5;go_upto_region 7 with fail;refine ZT (S:=Rm w PA (ZJ f t u)) WR (hR.next ZO.drew) (λl=>?_);refine ZB 0 (I L k) R (λw j=>WZ) l ?_;refine ZB 1 (ZI (w.heap.size+1)) R (λw j=>WZ) l ?_;refine ZB 2 (I L f) R (λw j=>WZ) l ?_;refine ZB 3 (Za Zk) R (λw j=>WZ) l ?_;refine ZB 4 (Za Zk) R (λw j=>WZ) l ?_;refine ZA 5 l ?_;refine ZA 6 l ?_;refine ZA 7 l ?_;refine ZA 8 l ?_;refine ZA 9 l ?_;refine ZA 10 l ?_;refine ZA 11 l ?_;refine ZA 12 l ?_;refine ZA 13 l ?_;refine ZA 14 l ?_;exact OI
   .have b7:¬ (k:Int)=f:=O;by_cases hB:z k=z f
    .have a7:((z k).toNat:Int)=((z f).toNat:Int):=by rw[hB]
     have c4:(((z k).toNat:Int) != ((z f).toNat:Int))=Zl:=by rw[hB];simp
     have f3:=X (λW=>d5.a k i W);obtain⟨lv,J⟩:=Zn (vo z wh fc b k t 0);rw[J.a]at f3;go_upto_region 7 with fail;refine ZT (S:=Rm w PA (ZJ f t u)) WR (hR.next ZO.drew) (λl=>?_);refine ZB 0 (I L k) R (λw j=>WZ) l ?_;refine ZB 1 (ZI (w.heap.size+1)) R (λw j=>WZ) l ?_;refine ZB 2 (I L f) R (λw j=>WZ) l ?_;refine ZB 3 (Za Zl) R (λw j=>WZ) l ?_;refine ZB 4 (Za Zl) R (λw j=>WZ) l ?_;refine ZB 5 (I L k) R (λw j=>WZ) l ?_;refine ZB 6 (ZI w.heap.size) R (λw j=>WZ) l ?_;refine ZB 7 (.pointer (S ⟨w.heap.size,k,N⟩)) R (λw j=>WZ) l ?_;refine ZB 8 (I Zg (z k).toNat) R (λw j=>WZ) l ?_;refine ZB 9 (ZI (w.heap.size+1)) R (λw j=>WZ) l ?_;refine ZB 10 (I L f) R (λw j=>WZ) l ?_;refine ZB 11 (ZI w.heap.size) R (λw j=>WZ) l ?_;refine ZB 12 (.pointer (S ⟨w.heap.size,f,N⟩)) R (λw j=>WZ) l ?_;refine ZB 13 (I Zg (z f).toNat) R (λw j=>WZ) l ?_;refine ZB 14 (Za Zl) R (λw j=>WZ) l ?_;refine ZB 15 (Za Zl) R (λw j=>WZ) l ?_;refine ZZ WR ?_ _;obtain⟨A,y,x,cf,o⟩:=Rm.cells p i r l;have b4:=X l.pa;have B:=X l;clear l hR cf o x d5;go_upto_region 9 with(first
      | (go_at_call 105;refine Z0 (f3.a _) λw5 b2=>?_)
      | (refine ZV R 70 _ R w.heap.size R 70 PA (0,0) _ b4.a underlying70 rfl b3 ?_)
      | (refine qqq R 125 _ R #[I L k,I L t,I Zg 0] ?_ ?_;focus (go_simp;exact nL _ _)))
     have f2:=B.a.next b2;obtain⟨A,y,x,cf,o⟩:=Rm.cells p i r f2;have H:=X f2;clear f2 B b4 b2 f3 cf o x;cases lv with
     | false =>
      obtain⟨e,M,d3⟩:=G.a (by unfold AA;rw[J.a];simp);have m:=X (YB e (YB M d3));clear e M d3 G K J;go_wp2_with fail;go_roundg (gk-1)
      case measure=>omega
      case rel=>exact⟨k+1,O,Vg,by rw[m.a.1],by rw[m.a.2.1],by rw[m.a.2.2],H.a⟩
     | true =>
      obtain⟨e,M,d3⟩:=K.a (by unfold AA;rw[J.a];simp[hA,hB]);have m:=X (YB e (YB M d3));clear e M d3 G K J;by_cases hF:k%8=f%8<;>by_cases hG:k/8=f/8
      .exact absurd (show k=f from O) hA
      .rw[qI hF,qF hG]at m;have a8:(k:Int)%8=f%8:=O
       have a9:¬ (k:Int)/8=f/8:=O
       go_wp2_with fail;go_roundg (gk-1)
       case measure=>omega
       case rel=>exact⟨k+1,O,Vg,by rw[m.a.1];rfl,by rw[m.a.2.1];rfl,by rw[m.a.2.2];rfl,H.a⟩
      .rw[qF hF,qI hG]at m;have a8:¬ (k:Int)%8=f%8:=O
       have a9:(k:Int)/8=f/8:=O
       go_wp2_with fail;go_roundg (gk-1)
       case measure=>omega
       case rel=>exact⟨k+1,O,Vg,by rw[m.a.1];rfl,by rw[m.a.2.1];rfl,by rw[m.a.2.2];rfl,H.a⟩
      .rw[qF hF,qF hG]at m;have a8:¬ (k:Int)%8=f%8:=O
       have a9:¬ (k:Int)/8=f/8:=O
       go_wp2_with fail;go_roundg (gk-1)
       case measure=>omega
       case rel=>exact⟨k+1,O,Vg,by rw[m.a.1];rfl,by rw[m.a.2.1];rfl,by rw[m.a.2.2];rfl,H.a⟩
    .have a7:¬ ((z k).toNat:Int)=((z f).toNat:Int):=λq=>hB (q6.1 O);have c4:(((z k).toNat:Int) != ((z f).toNat:Int))=Zk:=qU.2 a7;obtain⟨e,M,d3⟩:=G.a (by unfold AA;simp[hB]);have m:=X (YB e (YB M d3));clear e M d3 G K d5;go_upto_region 7 with fail;refine ZT (S:=Rm w PA (ZJ f t u)) WR (hR.next ZO.drew) (λl=>?_);refine ZB 0 (I L k) R (λw j=>WZ) l ?_;refine ZB 1 (ZI (w.heap.size+1)) R (λw j=>WZ) l ?_;refine ZB 2 (I L f) R (λw j=>WZ) l ?_;refine ZB 3 (Za Zl) R (λw j=>WZ) l ?_;refine ZB 4 (Za Zl) R (λw j=>WZ) l ?_;refine ZB 5 (I L k) R (λw j=>WZ) l ?_;refine ZB 6 (ZI w.heap.size) R (λw j=>WZ) l ?_;refine ZB 7 (.pointer (S ⟨w.heap.size,k,N⟩)) R (λw j=>WZ) l ?_;refine ZB 8 (I Zg (z k).toNat) R (λw j=>WZ) l ?_;refine ZB 9 (ZI (w.heap.size+1)) R (λw j=>WZ) l ?_;refine ZB 10 (I L f) R (λw j=>WZ) l ?_;refine ZB 11 (ZI w.heap.size) R (λw j=>WZ) l ?_;refine ZB 12 (.pointer (S ⟨w.heap.size,f,N⟩)) R (λw j=>WZ) l ?_;refine ZB 13 (I Zg (z f).toNat) R (λw j=>WZ) l ?_;refine ZB 14 (Za Zk) R (λw j=>WZ) l ?_;exact OI
  .have ek:k=64:=O;subst ek;obtain⟨A,y,x,cf,o⟩:=Rm.cells p p r hR;have f0:=X hR.gr;clear hR cf o y x d5 hq;have D:=lZ z wh fc b f t 64;have P:iH (kI z wh fc b f t 64) f<=64:=q7 (Y8 _ _) D;have Q:iG (kI z wh fc b f t 64) f<=64:=q7 (Y8 _ _) D;have a3:Y ((kI z wh fc b f t 64).length=0↔va=Zl):=X (by rw[<-a0.a];cases kI z wh fc b f t 64<;>simp);have a4:Y (iH (kI z wh fc b f t 64) f=0↔vc=Zl):=X (by rw[<-a1.a];simp);have a5:Y (iG (kI z wh fc b f t 64) f=0↔vd=Zl):=X (by rw[<-a2.a];simp);generalize (kI z wh fc b f t 64).length=d4 at D a3 |-;generalize iH (kI z wh fc b f t 64) f=of at P a4 |-;generalize iG (kI z wh fc b f t 64) f=E at Q a5 |-;clear a0 a1 a2;cases va with
   | false =>
    have e0:(d4:Int)=0:=by have:=a3.a.2 R;omega
    go_wp2_with(go_at_call 110;refine Z0 (hN.a _) λw9 F=>?_);go_ret;exact⟨R,Gr.trans f0.a F⟩
   | true =>
    have e0:¬ (d4:Int)=0:=by
     have:¬ d4=0:=λq=>by have:=a3.a.1 q;cases this
     omega
    cases vc with
    | false =>
     have e1:(of:Int)=0:=by have:=a4.a.2 R;omega
     go_wp2_with(go_at_call 110;refine Z0 (hN.a _) λw9 F=>?_);go_ret;exact⟨R,Gr.trans f0.a F⟩
    | true =>
     have e1:¬ (of:Int)=0:=by
      have:¬ of=0:=λq=>by have:=a4.a.1 q;cases this
      omega
     cases vd with
     | false =>
      have e2:(E:Int)=0:=by have:=a5.a.2 R;omega
      go_wp2_with(go_at_call 110;refine Z0 (hN.a _) λw9 F=>?_);go_ret;exact⟨R,Gr.trans f0.a F⟩
     | true =>
      have e2:¬ (E:Int)=0:=by
       have:¬ E=0:=λq=>by have:=a5.a.1 q;cases this
       omega
      go_wp2_with(go_at_call 110;refine Z0 (hN.a _) λw9 F=>?_);go_ret;exact⟨by rw[a6.a];rfl,Gr.trans f0.a F⟩
theorem qku:∀j,j<4->(xE j=hK j+2↔j%2=0)/\(xE j+2=hK j↔j%2=1):=WS
theorem sk{s:Int}{t:Nat}(a:f<64)(b:t<64)(h:xS (zI z) 5 s (f:Int) (t:Int)=Zk):t≠f+2/\t+2≠f:=qxv f a t b h
theorem fu{t:Nat}(h:0<=zK wh fc f t 0):∃j,j<4/\f=hK j/\t=xE j/\zK wh fc f t 0=(j:Int):=by
 have i:zK wh fc f t 0=if jZ wh fc f t 0 0 then 0 else if jZ wh fc f t 0 1 then 1 else if jZ wh fc f t 0 2 then 2 else if jZ wh fc f t 0 3 then 3 else -1:=R;rw[i]at h |-;by_cases b:jZ wh fc f t 0 0=Zk
 .rw[qI b];obtain⟨_,_,a,c⟩:=(zv O).1 b;exact⟨0,O,a,c,R⟩
 .rw[qF b]at h |-;by_cases d:jZ wh fc f t 0 1=Zk
  .rw[qI d];obtain⟨_,_,a,c⟩:=(zv O).1 d;exact⟨1,O,a,c,R⟩
  .rw[qF d]at h |-;by_cases e:jZ wh fc f t 0 2=Zk
   .rw[qI e];obtain⟨_,_,a,c⟩:=(zv O).1 e;exact⟨2,O,a,c,R⟩
   .rw[qF e]at h |-;by_cases g:jZ wh fc f t 0 3=Zk
    .rw[qI g];obtain⟨_,_,a,c⟩:=(zv O).1 g;exact⟨3,O,a,c,R⟩
    .rw[qF g]at h;omega
theorem pZ.cas{t:Nat}(h:pZ z wh fc b f t u 5) :
 (t=f+2->0<=zK wh fc f t u/\zK wh fc f t u%2=0)/\(t+2=f->0<=zK wh fc f t u/\zK wh fc f t u%2=1)/\(t≠f+2->t+2≠f->zK wh fc f t u<0):=by
 have r:=h.u0 O;subst r;have p:vE (z f)=5:=by simpa using ro h.hi h.hc
 have l:=h.go;unfold j9 at l;rw[qH,qF O]at l;have i:=l.2;unfold EE at i;rw[p]at i;have k:(t=f+2\/t+2=f)->0<=zK wh fc f t 0:=λq=>by
  cases n:xS (zI z) 5 (xK wh) (f:Int) (t:Int)with
  | true =>
   have:=sk h.hf h.ht n;omega
  | false =>
   have o:(5:Int).toNat=5:=R;rw[o,n]at i;simp only[qR,YH,qH,qG]at i;exact i.1.2
 refine⟨λq=>?_,λq=>?_,λv w=>?_⟩
 .have d:=k (Zi q);obtain⟨j,g,a,c,e⟩:=fu d;have:=(qku j g).1.1 O;exact⟨d,by rw[e];omega⟩
 .have d:=k (Zj q);obtain⟨j,g,a,c,e⟩:=fu d;have:=(qku j g).2.1 O;exact⟨d,by rw[e];omega⟩
 .by_cases d:0<=zK wh fc f t 0
  .obtain⟨j,g,a,c,e⟩:=fu d;have p1:=(qku j g).1;have p2:=(qku j g).2;obtain m|m:=Nat.mod_two_eq_zero_or_one j
   .have:=p1.2 m;omega
   .have:=p2.2 m;omega
  .omega
theorem pZ.dot{t:Nat}(a:kJ z wh fc b)(h:pZ z wh fc b f t u 0)(d:f%8=t%8):z t=46:=by
 have:=(h.pawn a).2 d;unfold oB at this;obtain⟨rfl,q⟩|⟨_,rfl,_,q⟩:=this
 .exact q
 .exact q
theorem da(e:kJ z wh fc b)(a:-1<=b)(d:b<=63){t:Nat}(g:f<64)(h:t<64)(i:u∈U5):vo z wh fc b f t u=Zk↔(f,t,u)∈xC z wh fc b:=by rw[C8 e a d g h i,je e a d]
theorem Cm(x:kJ z wh fc b)(v:-1<=b)(w:b<=63){t:Nat}(D:pZ z wh fc b f t u i)(J:i≠0) :
 wh3 (!(kI z wh fc b f t 64).isEmpty) (Zm (iH (kI z wh fc b f t 64) f≠0)) (Zm (iG (kI z wh fc b f t 64) f≠0)) f=iT (jX (xC z wh fc b) z f t) f:=by
 have h:∀n,n∈kI z wh fc b f t 64↔∃y∈jX (xC z wh fc b) z f t,y.1=n:=by
  intro n;unfold kI jX AA;rw[qV,qK];simp only[qH,YK,qX,qG,qV];constructor
  .rintro⟨B,⟨a,c⟩,d⟩;exact⟨(n,t,0),⟨(da x v w B D.ht WW).1 d,⟨R,a⟩,c⟩,R⟩
  .rintro⟨⟨H,M,P⟩,⟨F,⟨e,a⟩,c⟩,rfl⟩;obtain rfl:M=t:=e;obtain⟨j,o⟩:=um x v w F;have K:j=i:=by have r:=D.hc;have m:=o.hc;rw[show z H=z f from c,r]at m;omega
   have C:=o.u0 O;subst C;exact⟨o.hf,⟨a,c⟩,(da x v w o.hf D.ht WW).2 F⟩
 rw[C0];have r:(!(kI z wh fc b f t 64).isEmpty)=(!(jX (xC z wh fc b) z f t).isEmpty):=by
  congr 1;cases E:jX (xC z wh fc b) z f t with
  | nil =>
   cases A:kI z wh fc b f t 64 with
   | nil=>rfl
   | cons n l =>
    obtain⟨y,k,_⟩:=(h n).1 (by rw[A];exact XE ..);rw[E]at k;cases k
  | cons y l =>
   have:=(h y.1).2 ⟨y,by rw[E];exact XE ..,R⟩;cases A:kI z wh fc b f t 64 with
   | nil=>rw[A]at this;cases this
   | cons n l=>rfl
 have m:∀p:I5,Zm (((kI z wh fc b f t 64).filter p).length≠0)=(jX (xC z wh fc b) z f t).any λy=>p y.1:=by
  intro p;by_cases g:(jX (xC z wh fc b) z f t).any (λy=>p y.1)=Zk
  .rw[g,qG];obtain⟨y,k,G⟩:=qY.1 g;have:y.1∈(kI z wh fc b f t 64).filter p:=qV.2 ⟨(h _).2 ⟨y,k,R⟩,G⟩;intro q;rw[Yz]at q;rw[q]at this;cases this
  .rw[XH]at g;rw[g,qX,Decidable.not_not,Yz,X1];intro n B;obtain⟨y,k,rfl⟩:=(h n).1 B;have:=XD.1 g y k;exact OY
 unfold iH iG;rw[r,m,m]
theorem mR(z:Nat->UInt8)(c:Bool)(M:List Mv):(yO z c (M.length:Int)=1↔c=Zk/\M.isEmpty=Zk):=by
 unfold yO;cases M with
 | nil=>cases c<;>simp
 | cons a l =>
  have:¬ (((a :: l).length:Nat):Int)=0:=WX
  rw[qF this];constructor
  .intro q;split at q<;>omega
  .rintro⟨_,q⟩;cases q
theorem lD:∀i,i<6->(⟨#[80,78,66,82,81,75,112,110,98,114,113,107]⟩:I4).extract i (i+1)=xJ [kX i]:=WS
theorem BJ:∀u∈U5,u≠0->dP u<6/\kX (dP u)=vz u:=WS
structure Rs(w:I6)(PA M:I0)(B:Nat)(Q:I0)(W:I6):Prop where
 pa:W.heap[w.heap.size]?=S (Z PA 70)
 mv:W.heap[w.heap.size+1]?=S (Z M 125)
 q:W.heap[B]?=S (Z Q 70)
 gr:Gr w W
theorem Rs.next{Q:I0}(h:Rs w PA M B Q W)(g:Gr W a):Rs w PA M B Q a :=
 ⟨(ZE g h.pa),(ZE g h.mv),(ZE g h.q),Gr.trans h.gr g⟩
theorem qvd{g:Int}(r:jE z wh fc b h g PA)(o:Ok z wh fc b h g)(f t:Nat)(u:UInt8)(hx:(f,t,u)∈xC z wh fc b)(w:I6) :
  ZL 52 #[Zc PA,Zc (ZJ f t u)] w (.string (xJ (uj z wh fc b (f,t,u)))):=by
 obtain⟨i,x4⟩:=um o.good o.b0 o.b1 hx;have o':=o.next hx;obtain⟨hf,ht,hu,_,_⟩:=o.mv hx;obtain⟨a0,a1,a2,a3⟩:=o.clk;obtain⟨d0,d1,d2,d3⟩:=o'.clk;have g7:=x4.hi;have n4:Y (∀W,Calls prog 107 #[I Zg (z f).toNat] W λe w'=>e=Zd (I L i)/\w'=W):=X (λW=>by rw[<-ro x4.hi x4.hc];exact zp (z f) W);have h9:Y (∀W,Calls prog 106 #[Zc PA,Zc (ZJ f t u)] W λe w'=>∃Q,e=Zd (Zc Q)/\jE (zE z b (f,t,u)) (!wh) (kB fc f t 4) (vK z f t) (kK z f t h) (kj wh g) Q/\Gr W w'):=X (λW=>(qxg r f t hf ht u hu a0 a1 a2 a3 W).mono λe w' ⟨Q,j,e2,e3⟩=>⟨Q,j,bT o.good a1 a3 hf ht hu ((da o.good o.b0 o.b1 hf ht hu).2 hx) e2,e3⟩);have d:Y (∀Q,jE (zE z b (f,t,u)) (!wh) (kB fc f t 4) (vK z f t) (kK z f t h) (kj wh g) Q->∀W,ZL 112 #[Zc Q] W (Zc (bx (zE z b (f,t,u)) (!wh) (kB fc f t 4) (vK z f t)))):=X (λQ rQ W=>eL rQ o'.good o'.b0 o'.b1 d0 d1 d2 d3 o'.king.1 o'.king.2 W);have a7:=X (λW=>qxf r f t u W);have A:Y (i≠0->∀W,ZL 109 #[Zc PA,Zc (ZJ f t u)] W (.string (xJ (iT (jX (xC z wh fc b) z f t) f)))):=X (λhi W=>by rw[<-Cm o.good o.b0 o.b1 x4 hi];exact iF r o.good o.b0 o.b1 a0 a1 a2 a3 f t hf ht u W);have x:Y (∀W,ZL 110 #[I L f] W (.string (xJ [xA f,xI f]))):=X (λW=>qxo f hf W);have k:Y (∀W,ZL 110 #[I L t] W (.string (xJ [xA t,xI t]))):=X (λW=>qxo t ht W);have l:Y (u≠0->∀W,Calls prog 111 #[.string ⟨#[112,110,98,114,113,107]⟩,I Zg u.toNat] W λe w'=>e=Zd (I L (dP u:Nat))/\w'=W):=X (λh0 W=>qvi u hu h0 W);have n3:(prog.info? 70).map (·.size)=S PA.toList.length:=U1;have f0:(prog.info? 70).map (·.size)=S PA.size:=VU;have hq:=X (Rm.start w PA (ZJ f t u));have D:Y (i=5->_):=X (λe=>pZ.cas (e▸x4));have b6:Y (i=0->f%8=t%8->z t=46):=X (λe q=>pZ.dot o.good (e▸x4) q);have f8:Y (i≠0->u=0):=X x4.u0;have v:=X (F4 (xC z wh fc b) x4);have g9:Y (i=5->(t=f+2\/t+2=f)->jR (xC z wh fc b) z (f,t,u)=zQ (xC z wh fc b) z f t->False):=X (λe q p=>by
  have g8:=(zj x4.hi x4.hc).2;rw[e]at g8;unfold jR at p;have k3:=x4.cap;obtain q|q:=q
  .rw[qI ⟨by rw[g8];rfl,q⟩]at p;unfold zQ at p;rw[k3]at p;injection p with p _;exact E9 i g7 p.symm
  .rw[qF (λq2=>by have h2:t=f+2:=q2.2;omega),qI ⟨by rw[g8];rfl,q⟩]at p;unfold zQ at p;rw[k3]at p;injection p with p _;exact E9 i g7 p.symm)
 have s5:=ae (xC z wh fc b) x4;have b5:Y (vz (z f)=kX i):=X x4.cap;have v1:¬ (64<=(f:Int)):=O;have x1:¬ (64<=(t:Int)):=O;unfold uj;have hE:Y (∀c n:Bool,(kz (zE z b (f,t,u)) (!wh))=c->(!(xC (zE z b (f,t,u)) (!wh) (kB fc f t 4) (vK z f t)).isEmpty)=n->pX z wh fc b (f,t,u)=fe c n):=X (λc n j e2=>by unfold pX;rw[j,e2]);have x5:Y (yO (zE z b (f,t,u)) (kz (zE z b (f,t,u)) (!wh)) ((xC (zE z b (f,t,u)) (!wh) (kB fc f t 4) (vK z f t)).length:Int)=1↔kz (zE z b (f,t,u)) (!wh)=Zk/\(xC (zE z b (f,t,u)) (!wh) (kB fc f t 4) (vK z f t)).isEmpty=Zk):=X (mR _ _ _);unfold bx at d;generalize yO (zE z b (f,t,u)) (kz (zE z b (f,t,u)) (!wh)) ((xC (zE z b (f,t,u)) (!wh) (kB fc f t 4) (vK z f t)).length:Int)=ov at d x5;generalize ((xC (zE z b (f,t,u)) (!wh) (kB fc f t 4) (vK z f t)).length:Int)=nm at d;generalize (xC (zE z b (f,t,u)) (!wh) (kB fc f t 4) (vK z f t)).isEmpty=em at x5 hE;generalize kz (zE z b (f,t,u)) (!wh)=ck at d x5 hE;obtain⟨es,k4⟩:=Zn (pX z wh fc b (f,t,u));rw[k4.a]at hE |-;obtain⟨F,h8⟩:=Zn (jR (xC z wh fc b) z (f,t,u));rw[h8.a]at v s5 g9 |-;generalize zK wh fc f t u=cr at a7 D;clear o o' x4 hx k4 h8 a0 a1 a2 a3 d0 d1 d2 d3;go_enter func52,ntmps52;go_upto_region 1 with fail;show Code.wp _ _ _ _ ((w.alloc (Z PA 70)).alloc (Z (ZJ f t u) 125));generalize ((w.alloc (Z PA 70)).alloc (Z (ZJ f t u) 125))=w0 at hq |-;obtain⟨m0,m1,m2,cf,ct⟩:=Rm.cells hf ht r hq.a;have f1:=X hq.a.pa;go_upto_region 3 with(go_at_call 107;refine Z1 (n4.a _) ?_);clear n4;go_upto_region 4 with(first
  | (go_at_call 106;refine(h9.a _).mono ?_;rintro e x2 ⟨Q,rfl,hQ,k5⟩;have g4:=hQ.size;have h5:=X (qx hQ))
  | (refine ZV R 70 _ R w.heap.size R 70 PA (0,0) _ f1.a underlying70 rfl f0 ?_)
  | (refine ZC x2.heap.size Q Zv g4 h5.a ?_))
 have g3:((x2.alloc (Z zeroCells70 70)).setRow x2.heap.size Q).heap[x2.heap.size]?=S (Z Q 70):=Zt (Z7 x2 _);have k8:Gr x2 ((x2.alloc (Z zeroCells70 70)).setRow x2.heap.size Q):=ZN.setRow _ Zy _;have a4:Rs w PA (ZJ f t u) x2.heap.size Q ((x2.alloc (Z zeroCells70 70)).setRow x2.heap.size Q):=by have q4:=hq.a.next (Gr.trans k5 k8);exact⟨q4.pa,q4.mv,g3,q4.gr⟩
 show Code.wp _ _ _ _ ((x2.alloc (Z zeroCells70 70)).setRow x2.heap.size Q);generalize (x2.alloc (Z zeroCells70 70)).setRow x2.heap.size Q=w4 at a4 |-;generalize x2.heap.size=B at a4 |-;obtain⟨m0,m1,m2,cf,ct⟩:=Rm.cells hf ht r ⟨a4.pa,a4.mv,a4.gr⟩;have b7:=X a4;clear g3 k8 k5 a4 hq f1 h9;obtain⟨TK,y⟩:∃TK,Y (TK=Zk↔(z t≠46\/(i=0/\f%8≠t%8))):=⟨Zm (z t≠46\/(i=0/\f%8≠t%8)),X decide_eq_true_iff⟩;have f4:(z t=46/\((z t).toNat:Int)=46/\(((z t).toNat:Int) != 46)=Zl)\/(z t≠46/\¬ ((z t).toNat:Int)=46/\(((z t).toNat:Int) != 46)=Zk):=by
  by_cases e:z t=46
  .exact Zi ⟨e,Tg,Tg⟩
  .have e':¬ ((z t).toNat:Int)=46:=λq=>e (q6.1 (by have:(46:UInt8).toNat=46:=R;omega));exact Zj ⟨e,e',qU.2 e'⟩
 try simp only[py]
 go_cut [8]from 23 to 42 (λs8 wx=>s8=Za TK/\wx=w4)
 case first=>
  obtain⟨j,e2,e3⟩|⟨j,e2,e3⟩:=f4
  .by_cases l4:i=0
   .have l5:(i:Int)=0:=O;by_cases w7:f%8=t%8
    .have p0:(f:Int)%8=t%8:=O;have J:Y (TK=Zl):=X (by rw[<-XH,y.a];rintro(q|q);exact q j;exact q.2 w7);exact IT
    .have p0:¬ (f:Int)%8=t%8:=O;have v2:((f:Int)%8 != (t:Int)%8)=Zk:=qU.2 p0;have J:Y (TK=Zk):=X (y.a.2 (Zj ⟨l4,w7⟩));exact IT
   .have l5:¬ (i:Int)=0:=O;have J:Y (TK=Zl):=X (by rw[<-XH,y.a];rintro(q|q);exact q j;exact l4 q.1);exact IT
  .have J:Y (TK=Zk):=X (y.a.2 (Zi j));exact IT
 case rest=>
  obtain⟨rfl,f2⟩:=hcut;have f3:=f2.symm;subst f3;clear f2;have f1:=X b7.a.pa;go_upto_region 7 with(first
   | (go_at_call 108;refine Z0 (a7.a _) λw5 k9=>?_)
   | (refine ZV R 70 _ R w.heap.size R 70 PA (0,0) _ f1.a underlying70 rfl f0 ?_))
  have H:=X (b7.a.next k9);clear b7 k9 f1 a7;try simp only[py]
  obtain⟨CB,m⟩:∃CB,Y (CB=Zk↔(i=5/\0<=cr)):=⟨Zm (i=5/\0<=cr),X decide_eq_true_iff⟩;go_cut [50]from 45 to 51 (λt9 wx=>t9=Za CB/\wx=w5)
  case first=>
   by_cases f7:i=5
   .have m6:((i:Int)==5)=Zk:=UP;by_cases k0:0<=cr
    .have J:Y (CB=Zk):=X (m.a.2 ⟨f7,k0⟩);clear m d A x k l v D f7;exact OD
    .have J:Y (CB=Zl):=X (by rw[<-XH,m.a];exact λq=>k0 q.2);clear m d A x k l v D f7;exact OD
   .have m6:((i:Int)==5)=Zl:=Vp;have J:Y (CB=Zl):=X (by rw[<-XH,m.a];exact λq=>f7 q.1);clear m d A x k l v D;exact OD
  case rest=>
   obtain⟨rfl,f2⟩:=hcut;have f3:=f2.symm;subst f3;clear f2;go_upto_if 50 with fail;go_cut [9]from 51 to 90 (λs9 wx=>s9=.string (xJ F)/\Rs w PA (ZJ f t u) B Q wx)
   case first=>
    obtain⟨m0,m1,m2,cf,ct⟩:=Rm.cells hf ht r ⟨H.a.pa,H.a.mv,H.a.gr⟩;obtain⟨x3,b2,w3⟩|⟨x3,b2,w3⟩|⟨x3,w3⟩|⟨x3,w3⟩:=v.a
    .obtain⟨q0,q1⟩:=(D.a x3).1 b2;have J:CB=Zk:=m.a.2 ⟨x3,q0⟩;have et:Int.tmod cr 2=0:=by rw[Int.tmod_eq_emod_of_nonneg q0];exact q1
     exact JE
    .obtain⟨q0,q1⟩:=(D.a x3).2.1 b2;have J:CB=Zk:=m.a.2 ⟨x3,q0⟩;have et:Int.tmod cr 2=1:=by rw[Int.tmod_eq_emod_of_nonneg q0];exact q1
     exact JE
    .have J:CB=Zl:=by rw[<-XH,m.a];exact λq=>O
     have t0:¬ (0<(i:Int)):=O;have M:Y (TK=Zk↔f%8≠t%8):=X (by
      rw[y.a];exact⟨λq=>q.elim (λq1 q2=>q1 (b6.a x3 q2)) (λq1=>q1.2),λq=>Zj ⟨x3,q⟩⟩)
     have p8:(u=0/\((u.toNat:Int) != 0)=Zl)\/(u≠0/\((u.toNat:Int) != 0)=Zk):=by
      by_cases e:u=0
      .exact Zi ⟨e,Tg⟩
      .exact Zj ⟨e,qU.2 (λq=>e (q6.1 Ul))⟩
     have z1:Y (f%8=t%8->u=0->xJ F=xJ ([]++[xA t,xI t])):=X (λa c=>by rw[w3];unfold z7;rw[qI a,qI c];rfl);have z2:Y (f%8=t%8->u≠0->xJ F=xJ ([]++[xA t,xI t]++[61]++[vz u])):=X (λa c=>by rw[w3];unfold z7;rw[qI a,qF c];rfl);have z3:Y (f%8≠t%8->u=0->xJ F=xJ ([xA f]++[120]++[xA t,xI t])):=X (λa c=>by rw[w3];unfold z7;rw[qF a,qI c];rfl);have z4:Y (f%8≠t%8->u≠0->xJ F=xJ ([xA f]++[120]++[xA t,xI t]++[61]++[vz u])):=X (λa c=>by rw[w3];unfold z7;rw[qF a,qF c];rfl);have r0:=X (λW=>xb [] [xA t,xI t] WU W);have r1:=X (λW=>xb [xA f] [120] WU W);have r2:=X (λW=>xb ([xA f]++[120]) [xA t,xI t] WU W);have r3:=X (λW=>xb ([]++[xA t,xI t]) [61] WU W);have r4:=X (λW=>xb ([]++[xA t,xI t]++[61]) [vz u] WU W);have r5:=X (λW=>xb ([xA f]++[120]++[xA t,xI t]) [61] WU W);have r6:=X (λW=>xb ([xA f]++[120]++[xA t,xI t]++[61]) [vz u] WU W);have h4:(xJ [xA f,xI f]).extract 0 1=xJ [xA f]:=R;have v0:(xJ [xA f,xI f]).size=2:=R;generalize xJ ([xA f]++[120]++[xA t,xI t]++[61]++[vz u])=Y6 at r6 z4;generalize xJ ([xA f]++[120]++[xA t,xI t]++[61])=Y5 at r5 r6;generalize xJ ([xA f]++[120]++[xA t,xI t])=Y2 at r2 r5 z3;generalize xJ ([xA f]++[120])=Y1 at r1 r2;generalize xJ ([]++[xA t,xI t]++[61]++[vz u])=Y4 at r4 z2;generalize xJ ([]++[xA t,xI t]++[61])=Y3 at r3 r4;generalize xJ ([]++[xA t,xI t])=Y0 at r0 r3 z1;generalize xJ [xA f,xI f]=NF at x h4 v0;generalize xJ [xA f]=F1 at r1 h4;generalize xJ [xA t,xI t]=NT at k r0 r2;generalize h7:xJ [vz u]=UC at r4 r6;have v9:∀W,(Op.stringOp .add ⟨#[]⟩ NT).run prog W=.ok (.string Y0) W:=r0.a;have t2:∀W,(Op.stringOp .add F1 ⟨#[120]⟩).run prog W=.ok (.string Y1) W:=r1.a;have t3:∀W,(Op.stringOp .add Y1 NT).run prog W=.ok (.string Y2) W:=r2.a;have t4:∀W,(Op.stringOp .add Y0 ⟨#[61]⟩).run prog W=.ok (.string Y3) W:=r3.a;have t5:∀W,(Op.stringOp .add Y3 UC).run prog W=.ok (.string Y4) W:=r4.a;have w1:∀W,(Op.stringOp .add Y2 ⟨#[61]⟩).run prog W=.ok (.string Y5) W:=r5.a;have w2:∀W,(Op.stringOp .add Y5 UC).run prog W=.ok (.string Y6) W:=r6.a;have a6:Y (∀W,Gr w5 W->W.cell? ⟨w.heap.size+1,0,N⟩=S (I L f)/\W.cell? ⟨w.heap.size+1,1,N⟩=S (I L t)/\W.cell? ⟨w.heap.size+1,2,N⟩=S (I Zg u.toNat)):=X (λW gW=>qm (H.a.next gW).mv);have T:Y (u≠0->dP u<6/\(⟨#[80,78,66,82,81,75,112,110,98,114,113,107]⟩:I4).extract (dP u) (dP u+1)=UC):=X (λh0=>by
      obtain⟨k1,k2⟩:=BJ u hu h0;exact⟨k1,by rw[lD _ k1,k2,h7]⟩)
     generalize dP u=G at l T;subst J;clear m d A v D x3 w3 r0 r1 r2 r3 r4 r5 r6 y b6 f8 f4 h7 cf ct b5;by_cases w7:f%8=t%8
     .have a5:TK=Zl:=by rw[<-XH,M.a];exact λq=>q w7
      have a8:=X (z1.a w7);have a9:=X (z2.a w7);subst a5;clear z1 z2 z3 z4 w7 M;go_upto_region 18 with(go_at_call 110;refine Z0 (k.a _) λw6 x8=>?_);obtain⟨n0,n1,n2⟩:=a6.a _ x8;have P:=X (H.a.next x8);obtain⟨j,e2⟩|⟨j,e2⟩:=p8
      .have b3:=X (a8.a j);clear a8 a9 j x8;go_wp2_with fail;exact Ip
      .have b3:=X (a9.a j);have h1:=X (l.a j);obtain⟨t1,f5⟩:=T.a j;have wk:IntKind.i64.wrap ((G:Int)+1)=(G:Int)+1:=Vc;have kn:((G:Int)+1).toNat=G+1:=O;have kb:¬ (12<(G:Int)+1):=O;have kc:¬ ((G:Int)+1<G):=O;have kd:¬ ((G:Int)<0):=O;have ke:(G:Int)<=G+1:=O;have kf:(G:Int)+1<=12:=O;clear a8 a9 j x8 l T;go_wp2_with(go_at_call 111;refine Z1 (h1.a _) ?_);exact Ip
     .have a5:TK=Zk:=M.a.2 w7;have a8:=X (z3.a w7);have a9:=X (z4.a w7);subst a5;clear z1 z2 z3 z4 w7 M;go_upto_region 15 with(go_at_call 110;refine Z0 (x.a _) λw6 x8=>?_);obtain⟨l0,l1,l2⟩:=a6.a _ x8;have f9:=X x8;clear x8;go_upto_region 18 with(go_at_call 110;refine Z0 (k.a _) λV E=>?_);have d4:=Gr.trans f9.a E;obtain⟨n0,n1,n2⟩:=a6.a _ d4;have P:=X (H.a.next d4);clear d4 E f9 l0 l1 l2;obtain⟨j,e2⟩|⟨j,e2⟩:=p8
      .have b3:=X (a8.a j);clear a8 a9 j;go_wp2_with fail;exact Ip
      .have b3:=X (a9.a j);have h1:=X (l.a j);obtain⟨t1,f5⟩:=T.a j;have wk:IntKind.i64.wrap ((G:Int)+1)=(G:Int)+1:=Vc;have kn:((G:Int)+1).toNat=G+1:=O;have kb:¬ (12<(G:Int)+1):=O;have kc:¬ ((G:Int)+1<G):=O;have kd:¬ ((G:Int)<0):=O;have ke:(G:Int)<=G+1:=O;have kf:(G:Int)+1<=12:=O;clear a8 a9 j l T;go_wp2_with(go_at_call 111;refine Z1 (h1.a _) ?_);exact Ip
    .have J:CB=Zl:=by
      rw[<-XH,m.a];rintro⟨q1,q2⟩;have s7:=D.a q1;by_cases g1:t=f+2
      .exact g9.a q1 (Zi g1) w3
      .by_cases g2:t+2=f
       .exact g9.a q1 (Zj g2) w3
       .have:=s7.2.2 g1 g2;omega
     have t0:0<(i:Int):=O;have M:Y (TK=Zk↔z t≠46):=X (by
      rw[y.a];exact⟨λq=>q.elim id (λq1=>absurd q1.1 x3),Zi⟩)
     have v4:((u.toNat:Int) != 0)=Zl:=by rw[f8.a x3];rfl
     have b4:=X (A.a x3);have n5:=gz (jX (xC z wh fc b) z f t) f;unfold zQ at w3;rw[b5.a]at w3;generalize iT (jX (xC z wh fc b) z f t) f=wt at b4 n5 w3;have z1:Y (z t=46->xJ F=xJ ([kX i]++wt++[xA t,xI t])):=X (λa=>by rw[w3,qI a,Yh];rfl);have z2:Y (z t≠46->xJ F=xJ ([kX i]++wt++[120]++[xA t,xI t])):=X (λa=>by rw[w3,qF a];rfl);have r1:=X (λW=>xb [kX i] wt WX W);have r2:=X (λW=>xb ([kX i]++wt) [120] WX W);have r3:=X (λW=>xb ([kX i]++wt) [xA t,xI t] WX W);have r4:=X (λW=>xb ([kX i]++wt++[120]) [xA t,xI t] WX W);have f5:(⟨#[80,78,66,82,81,75,112,110,98,114,113,107]⟩:I4).extract i (i+1)=xJ [kX i]:=lD i g7;generalize xJ ([kX i]++wt++[120]++[xA t,xI t])=P4 at r4 z2;generalize xJ ([kX i]++wt++[xA t,xI t])=P3 at r3 z1;generalize xJ ([kX i]++wt++[120])=P2 at r2 r4;generalize xJ ([kX i]++wt)=P1 at r1 r2 r3;generalize xJ [kX i]=P0 at r1 f5;generalize xJ wt=WT at r1 b4;generalize xJ [xA t,xI t]=NT at k r3 r4;have t2:∀W,(Op.stringOp .add P0 WT).run prog W=.ok (.string P1) W:=r1.a;have t3:∀W,(Op.stringOp .add P1 ⟨#[120]⟩).run prog W=.ok (.string P2) W:=r2.a;have t4:∀W,(Op.stringOp .add P1 NT).run prog W=.ok (.string P3) W:=r3.a;have t5:∀W,(Op.stringOp .add P2 NT).run prog W=.ok (.string P4) W:=r4.a;have wi:IntKind.i64.wrap ((i:Int)+1)=(i:Int)+1:=Vc;have kn:((i:Int)+1).toNat=i+1:=O;have kb:¬ (12<(i:Int)+1):=O;have kc:¬ ((i:Int)+1<i):=O;have kd:¬ ((i:Int)<0):=O;have v3:∀W:I6,(Instr.slice 9 (.string (⟨#[80,78,66,82,81,75,112,110,98,114,113,107]⟩:I4)) (S (I L i)) (S (I L ((i:Int)+1))) N).run prog W=.ok (.string P0) W:=λW=>by rw[run_slice_string W 9 _ _ _ _ _ underlying9 O O (by show(i:Int)+1<=12;omega),kn,YE,f5]
     subst J;clear m d A v D w3 r1 r2 r3 r4 y b6 f8 f4 cf ct b5 n5 l x m0 m1 m2;go_upto_region 12 with fail;refine ZT (S:=Rs w PA (ZJ f t u) B Q) WR (H.a.next ZO.drew) (λqD=>?_);refine tq 0 (I L i) qD ?_;refine tq 1 (I L i) qD ?_;refine tq 2 (I L ((i:Int)+1)) qD ?_;refine ZB 3 (.string P0) R (λw hw=>by have v5:prog.underlying 9=S .string:=underlying9;go_simp) qD ?_;refine ty 4 (Zc PA) R (wY n3 Vb _ R w.heap.size R (λ_ h=>h.pa)) qD ?_;refine ZB 5 (Zc (ZJ f t u)) R (λw hw=>by obtain⟨m0,m1,m2⟩:=qm hw.mv;go_simp) qD ?_;refine rd 6 λK hK=>?_;go_simp;refine Z0 (b4.a _) λwc l3=>?_;refine hK.out _ _ (qD.next l3) λqD=>?_;clear hK K l3;try simp only[py]
     refine tq 7 (.string P1) qD ?_;refine tq 8 (.string P1) qD ?_;refine ZZ WR ?_ _;have h6:=X qD;obtain⟨n0,n1,n2⟩:=qm qD.mv;clear qD b4;by_cases w7:z t=46
     .have a5:TK=Zl:=by rw[<-XH,M.a];exact λq=>q w7
      have b3:=X (z1.a w7);exact OF
     .have a5:TK=Zk:=M.a.2 w7;have b3:=X (z2.a w7);exact OF
   case rest=>
    obtain⟨rfl,g5⟩:=hcut;have n7:=X g5.q;have g0:=X g5.gr;have r7:(prog.info? 70).map (·.size)=S Q.size:=by rw[g4];exact jJ
    have p7:=X (d.a Q hQ);have ra:=X (λW=>xb F [35] WX W);have rb:=X (λW=>xb F [43] WX W);have c5:Y (ck=Zk->em=Zk->xJ (F++es)=xJ (F++[35])):=X (λj e2=>by rw[hE.a Zk Zl j (by rw[e2];rfl)];rfl);have c6:Y (ck=Zk->em=Zl->xJ (F++es)=xJ (F++[43])):=X (λj e2=>by rw[hE.a Zk Zk j (by rw[e2];rfl)];rfl);have f6:Y (ck=Zl->xJ (F++es)=xJ F):=X (λj=>by rw[hE.a Zl (!em) j R];show xJ (F++[])=_;rw[Yh]);clear g5 H A x k l v D d hQ h5 m0 m1 m2 cf ct m y f4 b6 f8 b5 r hE;generalize xJ (F++[35])=SA at ra c5;generalize xJ (F++[43])=SB at rb c6;have w9:∀W,(Op.stringOp .add (xJ F) ⟨#[35]⟩).run prog W=.ok (.string SA) W:=ra.a;have x0:∀W,(Op.stringOp .add (xJ F) ⟨#[43]⟩).run prog W=.ok (.string SB) W:=rb.a;clear ra rb;go_upto_region 22 with(first
     | (go_at_call 112;refine Z0 (p7.a _) λV E=>?_)
     | (refine ZV R 70 _ R B R 70 Q (0,0) _ n7.a underlying70 rfl r7 ?_)
     | (refine ZU R 186 _ _ R V.heap.size (xB ck nm ov) R R 186 (xB Zl 0 0) Zv vI R (xw _ _ _) ?_))
    have h3:((V.alloc (Z (xB Zl 0 0) 186)).setRow V.heap.size (xB ck nm ov)).heap[V.heap.size]?=S (Z (xB ck nm ov) 186):=Zt (Z7 V _);have g6:Gr w ((V.alloc (Z (xB Zl 0 0) 186)).setRow V.heap.size (xB ck nm ov)):=Gr.trans (Gr.trans g0.a E) (ZN.setRow _ Zy _);show Code.wp _ _ _ _ ((V.alloc (Z (xB Zl 0 0) 186)).setRow V.heap.size (xB ck nm ov));generalize (V.alloc (Z (xB Zl 0 0) 186)).setRow V.heap.size (xB ck nm ov)=w8 at h3 g6 |-;obtain⟨s0,s1,s2⟩:=qm h3;have d5:=X g6;clear h3 g6 E p7 g0 n7;cases ck with
    | true =>
     cases em with
     | true =>
      have j:ov=1:=x5.a.2 ⟨R,R⟩;have b3:=X (c5.a R R);subst j;clear c5 c6 f6 x5;go_wp2_with fail;go_ret;exact⟨T0,d5.a⟩
     | false =>
      have j:(ov==1)=Zl:=by rw[qM];exact λq=>by have:=(x5.a.1 q).2;cases this
      have b3:=X (c6.a R R);clear c5 c6 f6 x5;go_wp2_with fail;go_ret;exact⟨T0,d5.a⟩
    | false =>
     have j:(ov==1)=Zl:=by rw[qM];exact λq=>by have:=(x5.a.1 q).1;cases this
     have b3:=X (f6.a R);clear c5 c6 f6 x5;go_wp2_with fail;go_ret;exact⟨T0,d5.a⟩
noncomputable def BE(w3:I6)(A M Q:I0):I6:=(((((w3.alloc (Z zeroCells70 70)).alloc (Z zC 125)).alloc (Z zeroCells70 70)).setRow w3.heap.size A).setRow (w3.heap.size+1) M).setRow (w3.heap.size+2) Q
theorem ru(a:I6)(A M Q:I0):Gr a (BE a A M Q):=((ZN.al.al.setRow _ Zy _).setRow _ O _).setRow _ O _
structure Ll(w2:I6)(b1:Nat)(A:I0)(b2 k f t:Nat)(u:UInt8)(W:I6):Prop where
 pa:W.heap[b1]?=S (Z A 70)
 x0:W.cell? ⟨b2,k*3,N⟩=S (I L f)
 x1:W.cell? ⟨b2,k*3+1,N⟩=S (I L t)
 x2:W.cell? ⟨b2,k*3+2,N⟩=S (I Zg u.toNat)
 gr:Gr w2 W
theorem Ll.next{e:I6}{b t:Nat}(h:Ll e b A d k f t u W)(g:Gr W a):Ll e b A d k f t u a :=
 ⟨(ZE g h.pa),(ZW g (Ye W _ h.x0)).trans h.x0,(ZW g (Ye W _ h.x1)).trans h.x1,(ZW g (Ye W _ h.x2)).trans h.x2,Gr.trans h.gr g⟩
theorem mb(s n:I4)(hs:s.size<4294967281)(w:I6):Calls prog 29 #[Zb s,Zb n] w λe w'=>vU s n e/\Gr w w':=by
 have h1:=X (qvq s hs w);obtain⟨p,hr,E,l⟩|⟨k,hk,a7,l⟩:=xy s
 .have h2:Y (ZL 53 #[Zb s] w (Ze #[Zc (jV p),I L 0])):=X (h1.a.mono λe w' h=>⟨l e h.1,h.2⟩);have o:=Ok.of hr E;obtain⟨a0,a1,a2,a3⟩:=o.clk;have m:=jo hr;have hz:=m.size;have ho:=X (qx m);have D:Y (∀W:I6,Calls prog 54 #[Zc (jV p)] W λe w'=>∃v,e=Zd v/\np W.heap.size v (yY (xM p) p.white (yC p.castle) p.behind) w'/\Gr W w'):=X λW=>ai (F5 m) o.good o.b0 o.b1 a0 a1 a2 a3 W;have Q:∀y,y∈yY (xM p) p.white (yC p.castle) p.behind↔y∈xC (xM p) p.white (yC p.castle) p.behind:=λy=>by rw[qk3 o.good o.b0 o.b1];exact(xq _).mem_iff
  have b:Y (∀y∈yY (xM p) p.white (yC p.castle) p.behind,∀W,ZL 52 #[Zc (jV p),Zc #[I L (y.1:Int),I L (y.2.1:Int),I Zg (y.2.2.toNat:Int)]] W (Zb (xJ (uj (xM p) p.white (yC p.castle) p.behind y)))):=X λy hy W=>qvd (F5 m) o y.1 y.2.1 y.2.2 ((Q y).1 hy) W;have H:∀y∈yY (xM p) p.white (yC p.castle) p.behind,y.1<64/\y.2.1<64:=λy hy=>zg _ _ _ _ y ((Q y).1 hy);have g1:Y (∀y∈yY (xM p) p.white (yC p.castle) p.behind,xJ (uj (xM p) p.white (yC p.castle) p.behind y)=n->vU s n (Zd (Ze #[Zb (xJ (uY y.1 y.2.1 y.2.2)),I L 0]))):=X λy hy e=>Zj (Zj ⟨p,y,hr,E,qV.2 ⟨(Q y).1 hy,qJ e⟩,R⟩);have g0:Y ((∀y∈yY (xM p) p.white (yC p.castle) p.behind,xJ (uj (xM p) p.white (yC p.castle) p.behind y)≠n)->vU s n (Zd (Ze #[Zb ⟨#[]⟩,I L 4]))):=X λq=>Zj (Zi ⟨p,hr,E,X1.2 (λy hy c=>q y ((Q y).2 hy) (q8 c)),R⟩);have d1:(yY (xM p) p.white (yC p.castle) p.behind).length<=1000000:=by rw[qk3 o.good o.b0 o.b1,qj7];exact bu _ _ _ _
  generalize yY (xM p) p.white (yC p.castle) p.behind=J at D b H g1 g0 d1;obtain⟨d,f8⟩:∃d:Mv->I4,d=λy=>xJ (uj (xM p) p.white (yC p.castle) p.behind y):=⟨_,R⟩;have a:Y (∀y∈J,∀W,ZL 52 #[Zc (jV p),Zc #[I L (y.1:Int),I L (y.2.1:Int),I Zg (y.2.2.toNat:Int)]] W (Zb (d y))):=X (by rw[f8];exact b.a);have B:Y (∀y∈J,d y=n->vU s n (Zd (Ze #[Zb (xJ (uY y.1 y.2.1 y.2.2)),I L 0]))):=X (by rw[f8];exact g1.a);have x:Y ((∀y∈J,d y≠n)->vU s n (Zd (Ze #[Zb ⟨#[]⟩,I L 4]))):=X (by rw[f8];exact g0.a);generalize jV p=A at h2 hz ho D a;clear h1 l m hr E hs o a0 a1 a2 a3 Q f8 b g1 g0;have c6:(prog.info? 70).map (·.size)=S A.toList.length:=by rw[ZX,hz];exact jJ
  have a9:(prog.info? 70).map (·.size)=S A.size:=by rw[hz];exact jJ
  go_enter func29,ntmps29;go_upto_region 2 with(first
   | (go_at_call 53;refine Z0 h2.a λr f6=>?_)
   | (refine ZC r.heap.size A Zv hz ho.a ?_))
  generalize b3:(r.alloc (Z zeroCells70 70)).setRow r.heap.size A=w4;have a4:AC w r.heap.size A w4:=by
   have P:Gr r w4:=by rw[<-b3];exact ZN.setRow _ Zy _
   exact⟨by rw[<-b3];exact Zt (Z7 r _),Gr.trans f6 P⟩
  generalize r.heap.size=b1 at a4 |-;have d3:=X a4.pa;have a8:=X a4;clear b3 f6 h2 a4;go_upto_region 4 with fail;obtain⟨f5,hN⟩:∃f5,Y (f5=J.length):=⟨_,X R⟩;go_upto_region 5 with(first
   | (go_at_call 54;refine(D.a _).mono ?_;rintro e w2 ⟨v,rfl,hv,b7⟩;obtain⟨pp,c2,rfl,b5,b6⟩:=bt hv;rw[<-hN.a])
   | (refine ZV R 70 _ R b1 R 70 A (0,0) _ d3.a underlying70 rfl a9 ?_))
  have M:=X b6;have f9:=X (a8.a.next b7);clear D hv b7 b6 b5 a8 d3;go_wp2_with fail;go_loopg [9,10] f5 (λgk i _ wr=>∃k:Nat,k+gk=f5/\i=I L k/\(∀j (hj:j<J.length),j<k->d J[j]≠n)/\Gr w2 wr)
  case atStart=>exact⟨0,O,R,λj _ q=>absurd q (Yy j),ZO⟩
  case round=>
   obtain⟨k,k1,rfl,F,f7⟩:=hrel;by_cases f1:k<f5
   .have d0:k<J.length:=by rw[<-hN.a];exact f1
    obtain⟨b2,e2,x0,x1,x2⟩:=M.a k d0;subst e2;have G:J[k]∈J:=Xs _;have a6:=X (a.a _ G);have T:=H _ G;have z:=X (B.a _ G);have a5:Y (d J[k]≠n->∀j (hj:j<J.length),j<k+1->d J[j]≠n):=X λq j hj f2=>by
     by_cases e:j=k
     .subst e;exact q
     .exact F j hj O
    generalize d J[k]=V at a6 z a5;generalize J[k]=y at x0 x1 x2 a6 T z;obtain⟨f,t,u⟩:=y;simp only at x0 x1 x2 a6 T z;have hS:Y (Ll w2 b1 A b2 k f t u wr):=X (Ll.next ⟨f9.a.pa,x0,x1,x2,ZO⟩ f7);have d4:=X (λW=>mZ f t T.1 T.2 u W);generalize xJ (uY f t u)=TX at z d4;have k0:0<=(k:Int):=O;have kl:(k:Int)<f5:=O;have f3:=X d0;clear x0 x1 x2 G F f7 H a B x M T;go_upto_region 8 with fail;refine ZT (S:=Ll w2 b1 A b2 k f t u) WR (hS.a.next ZO.drew) (λf4=>?_);refine ty 0 (Zc A) R (wY c6 Vb _ R b1 R (λ_ h=>h.pa)) f4 ?_;refine tq 1 (Zq (S ⟨b2,0,N⟩) f5 c2) f4 ?_;refine tq 2 (I L k) f4 ?_;refine tq 3 (.pointer (S ⟨b2,k*3,N⟩)) f4 ?_;refine ZB 4 (Zc (ZJ f t u)) R (λw hw=>by have x0:=hw.x0;have x1:=hw.x1;have x2:=hw.x2;go_simp) f4 ?_;refine rd 5 λK hK=>?_;go_simp;refine Z0 (a6.a _) λwc c4=>?_;refine hK.out _ _ (f4.next c4) λf4=>?_;clear hK K c4;try simp only[py]
    refine tq 6 (Zb V) f4 ?_;refine ZZ WR ?_ _;have b4:=X f4;have y0:=f4.x0;have y1:=f4.x1;have y2:=f4.x2;clear f4 hS;by_cases hq:V=n
    .have hb:(V.toList==n.toList)=Zk:=by rw[cN];exact qJ hq
     have g:=X (z.a hq);clear z a5 hq;go_wp2_with(go_at_call 55;refine Z0 (d4.a _) λw9 d5=>?_);go_ret2;exact⟨g.a,Gr.trans (Gr.trans f9.a.gr b4.a.gr) d5⟩
    .have hb:(V.toList==n.toList)=Zl:=by rw[cN];exact qE hq
     have d2:=X (a5.a hq);clear z a5 hq;go_wp2_with fail;go_roundg (gk-1)
     case measure=>omega
     case rel=>exact⟨k+1,O,Vg,d2.a,b4.a.gr⟩
   .have g:=X (x.a λy hy=>by
     obtain⟨j,hj,rfl⟩:=List.getElem_of_mem hy;exact F j hj (by have:=hN.a;omega))
    have f0:=X (Gr.trans f9.a.gr f7);clear F f7 H a B x M f9 hN;go_wp2_with fail;go_ret2;exact⟨g.a,f0.a⟩
 .have h2:Y (ZL 53 #[Zb s] w (Ze #[Zc zeroCells70,I L k])):=X (h1.a.mono λe w' h=>⟨l e h.1,h.2⟩);have g:Y (vU s n (Zd (Ze #[Zb ⟨#[]⟩,I L k]))):=X (Zi ⟨k,a7,R⟩);have k2:(k != 0)=Zk:=Oo;clear h1 l a7 hs hk;go_enter func29,ntmps29;go_upto_region 2 with(first
   | (go_at_call 53;refine Z0 h2.a λr f6=>?_)
   | (refine ZC r.heap.size zeroCells70 Zv xF xH ?_))
  have P:Gr r ((r.alloc (Z zeroCells70 70)).setRow r.heap.size zeroCells70):=ZN.setRow _ Zy _;have c5:=Gr.trans f6 P;generalize (r.alloc (Z zeroCells70 70)).setRow r.heap.size zeroCells70=w4 at P c5 |-;clear h2 f6 P;go_wp2_with fail;go_ret2;exact⟨g.a,c5⟩
end Go.Proofs.YtnfakamfmkhlbabGreatDoor.C
