import Derived.Test.YtnfakamfmkhlbabGreatDoorB12
set_option maxRecDepth 100000
set_option maxHeartbeats 4000000
set_option linter.all false
open Go.Value renaming int->I,bool->Za,string->Zb,agg->Zc,tuple->Ze,slice->Zq
open Go.IntKind renaming i64->L,u8->Zg,u64->Zh
open Go.Obj renaming cells->Z
open Go.Ending renaming returned->Zd
open Or renaming inl->Zi,inr->Zj
open Option renaming some->S,none->N
open Bool renaming true->Zk,false->Zl
open Decidable renaming decide->Zm
open Go.RowKit renaming Hid->Y
open Go renaming World->I6,Value->I7
namespace Go.Proofs.YtnfakamfmkhlbabGreatDoor.C
open Go.ChangeShapes Go.WideShapes Go.ChangeAt Go.RowKit Go.Shelf Go.Proofs.YtnfakamfmkhlbabGreatDoor.P Tryz
attribute [local go_sem] qd qe Oper.semAt_some
variable {z:I2}{wh:Bool}{b h m:Int}{PA A M:I0}{fc:I5}{w W a w' w1 V:I6}{f n i k g base d e l j x B Bp:Nat}{v:I7}{u:UInt8}{Q:Nat->Obj->Prop}{rs:I3}{y:I1}
theorem Fl{a:Bool}(h:vZ z a 64=1):∃y,y<64/\∀n,n<64->(jB (z n)=((bg a+5:Nat):Int)↔n=y):=by
 unfold vZ at h;obtain⟨y,f⟩:=List.length_eq_one_iff.1 h;have b:∀n,n∈(List.range 64).filter (λn=>Zm (jB (z n)=((bg a+5:Nat):Int)))↔n=y:=λn=>by rw[f,qT]
 have d:y<64:=qK.1 (qV.1 ((b y).2 R)).1;refine⟨y,d,λn e=>?_⟩;rw[<-b n,qV,qG,qK];exact⟨λh=>⟨e,h⟩,λh=>h.2⟩
theorem BM:∀y,y<64->((List.range 64).filter λn=>Zm (n=y)).length=1:=WS
theorem un{Z:I2}{a:Bool}{y:Nat}(d:y<64)(h:∀n,n<64->(jB (Z n)=((bg a+5:Nat):Int)↔n=y)):vZ Z a 64=1:=by unfold vZ;rw[List.filter_congr (q:=λn=>Zm (n=y)) (λn b=>XB.2 (h n (qK.1 b)))];exact BM y d
def wW(f t n:Nat):Nat:=if n=f then t else if n=t then f else n
theorem dD(f t n:Nat):wW f t (wW f t n)=n:=by
 unfold wW;by_cases b:n=f
 .subst b;rw[qI R];by_cases a:t=n
  .rw[qI a,a]
  .rw[qF a,qI R]
 .rw[qF b];by_cases a:n=t
  .subst a;rw[qI R,qI R]
  .rw[qF a,qF b,qF a]
theorem oq{t:Nat}(a:f<64)(d:t<64)(b:n<64):wW f t n<64:=by
 unfold wW;split
 .exact d
 .split
  .exact a
  .exact b
theorem oo{t:Nat}(d:f<64)(e:t<64):((List.range 64).map (wW f t)).Perm (List.range 64):=by
 have b:((List.range 64).map (wW f t)).Nodup:=by rw[List.nodup_iff_pairwise_ne,List.pairwise_map];exact(List.nodup_iff_pairwise_ne.1 List.nodup_range).imp λ{a c} hac h=>hac (by rw[<-dD f t a,h,dD])
 rw[List.perm_ext_iff_of_nodup b List.nodup_range];intro a;rw[YL,qK];constructor
 .rintro⟨n,i,rfl⟩;exact oq d e (qK.1 i)
 .intro g;exact⟨wW f t a,qK.2 (oq d e g),dD f t a⟩
theorem sQ{Z:I2}{a:Bool}{t:Nat}(b:f<64)(e:t<64)(h:∀n,n<64->(vB (Z n)=xK a↔vB (z (wW f t n))=xK a)):ka Z a 64=ka z a 64:=by unfold ka;rw[<-List.countP_eq_length_filter,<-List.countP_eq_length_filter,<-(oo b e).countP_eq (λn=>Zm (vB (z n)=xK a)),List.countP_map];refine List.countP_congr λn d=>?_;simp only[Function.comp,qG];exact h n (qK.1 d)
theorem EF{Z:I2}{a:Bool}(h:∀n,n<64->vB (Z n)=xK a->vB (z n)=xK a):ka Z a 64<=ka z a 64:=by unfold ka;rw[<-List.countP_eq_length_filter,<-List.countP_eq_length_filter];refine List.countP_mono_left λn b=>?_;rw[qG,qG];exact h n (qK.1 b)
structure pG(z Z:I2)(wh:Bool)(f t cs:Nat)(c:UInt8):Prop where
 at':∀n,Z n=if n=t then c else if n=f then 46 else if n=cs then 46 else z n
 hf:f<64
 ht:t<64
 own:vB (z f)=xK wh
 no:vB (z t)≠xK wh
 new:vB c=xK wh
 op:cs=t\/vB (z cs)=xK (!wh)
theorem FQ:vB 46=0:=WS
theorem FT(b:Bool):xK b≠0:=by cases b<;>decide
theorem pG.ne{Z:I2}{t cs:Nat}{c:UInt8}(h:pG z Z wh f t cs c):f≠t:=λe=>h.no (by rw[<-e];exact h.own)
theorem pG.men{Z:I2}{t cs:Nat}{c:UInt8}(h:pG z Z wh f t cs c):ka Z wh 64=ka z wh 64/\ka Z (!wh) 64<=ka z (!wh) 64:=by
 have d:=h.ne;constructor
 .refine sQ h.hf h.ht λn g=>?_;rw[h.at' n];unfold wW;by_cases c1:n=t
  .rw[qI c1,qF (λe=>d (e.symm.trans c1)),qI c1];exact⟨λ_=>h.own,λ_=>h.new⟩
  .rw[qF c1];by_cases c2:n=f
   .rw[qI c2,qI c2,FQ];exact⟨λe=>absurd e.symm (FT wh),λe=>absurd e h.no⟩
   .rw[qF c2,qF c2,qF c1];by_cases c3:n=cs
    .rw[qI c3,FQ];obtain e|e:=h.op
     .exact absurd (c3.trans e) c1
     .refine⟨λb=>absurd b.symm (FT wh),λb=>?_⟩;rw[c3,e]at b;exact absurd b.symm (BC wh)
    .rw[qF c3]
 .refine EF λn g a=>?_;rw[h.at' n]at a;by_cases c1:n=t
  .rw[qI c1,h.new]at a;exact absurd a (BC wh)
  .rw[qF c1]at a;by_cases c2:n=f
   .rw[qI c2,FQ]at a;exact absurd a.symm (FT _)
   .rw[qF c2]at a;by_cases c3:n=cs
    .rw[qI c3,FQ]at a;exact absurd a.symm (FT _)
    .rwa[qF c3]at a
theorem jv{t cs:Nat}(h:jY z wh b i f t u cs)(j:i=5->t≠f+2/\t+2≠f):pG z (zE z b (f,t,u)) wh f t cs (yH (z f) u):=by
 obtain⟨q,g,e,_⟩:=h.tr;refine⟨iq h j,h.hf,h.ht,ja h.hi h.hc,h.no,ja g e,?_⟩;by_cases a:i=0/\(t:Int)=b
 .obtain⟨_,_,_,_,d⟩:=h.ep a.1 a.2;exact Zj (ja (q:=0) O d)
 .exact Zi (h.nep a)
theorem tE{t:Nat}(n:i<6)(m:jB (z f)=((bg wh+i:Nat):Int))(a:j9 z wh fc b f t u=Zk)(r:i=5->t≠f+2/\t+2≠f):xS (zI z) i (xK wh) (f:Int) (t:Int)=Zk\/z t=46:=by
 have p:=ro n m;unfold j9 at a;simp only[qH]at a;obtain⟨⟨⟨_,_⟩,k⟩,a⟩:=a;by_cases e:vE (z f)=0
 .have q:i=0:=O;subst q;rw[qI e]at a;unfold BD at a;by_cases d:xS (zI z) 0 (xK wh) (f:Int) (t:Int)=Zk
  .exact Zi d
  .rw[qF d]at a;simp only[qH,qG]at a;exact Zj a.1.2
 .rw[qF e]at a;have l:(vE (z f)).toNat=i:=by rw[p];exact YE i
  rw[l]at a;unfold EE at a;by_cases d:xS (zI z) i (xK wh) (f:Int) (t:Int)=Zk
  .exact Zi d
  .exfalso;rw[qF d,Bool.and_assoc,qH,qG]at a;have g:u=0:=by rw[qE e,XK]at k;have:=eq_of_beq k;exact Xd λh=>by rw[qJ h]at this;cases this
   subst g;obtain⟨j,o,_,_,v,w,_,_⟩:=Fv.1 a.2;have:=r a.1;have:=cI j o;omega
theorem BS{t:Nat}(k:i<6)(q:f<64)(w:t<64)(j:jB (z f)=((bg wh+i:Nat):Int))(r:j9 z wh fc b f t u=Zk)(x:i=5->t≠f+2/\t+2≠f)(n:vZ z (!wh) 64=1)(a:zM z (xR z (!wh)) wh=Zl):jB (z t)≠((bg (!wh)+5:Nat):Int):=by
 intro m;obtain h|h:=tE k j r x
 .obtain⟨y,p,l,e⟩:=js n;obtain⟨y',_,o⟩:=Fl n;have d:t=y':=(o t w).1 m;have g:y=y':=(o y p).1 (by
   have v:y∈vD (xD z 64 (bg (!wh)+5)):=by rw[l];simp
   have:=Dt.1 v;rw[dc z _ 64 O y p]at this;exact(q8 this.2).2)
  rw[e,g,<-d]at a;unfold zM at a;rw[XD]at a;refine a f (qK.2 q) ?_;rw[ja k j,(qkr k j).2,h];simp
 .rw[h,xp]at m;have:=mM wh;omega
theorem cO(a wh:Bool):a=wh\/a=!wh:=by cases a<;>cases wh<;>simp
theorem BF:∀c∈([80,112]:I1),∀u∈([113,114,98,110]:I1),0<vE (yH c u):=WS
structure nt(Z:I2):Prop where
 bad:∀n,n<64->vf Z n=Zl
 kin:∀bb,vZ Z bb 64=1
 men:∀bb,ka Z bb 64<=16
section
variable {z:I2}{wh:Bool}{fc:I5}{b:Int}{i f t cs:Nat}{u:UInt8}
theorem jY.kings(a:jY z wh b i f t u cs)(E:i=5->t≠f+2/\t+2≠f)(m:∀k,vZ z k 64=1)(v:jB (z t)≠((bg (!wh)+5:Nat):Int)):∀k,vZ (zE z b (f,t,u)) k 64=1:=by
 have o:=jv a E;have C:=mM wh;have D:=o.ne;obtain⟨q,G,r,A⟩:=a.tr;have F:=a.hi;have l:cs=t\/jB (z cs)=((bg (!wh):Nat):Int):=by
  by_cases h:i=0/\(t:Int)=b
  .obtain⟨_,_,_,_,B⟩:=a.ep h.1 h.2;exact Zj B
  .exact Zi (a.nep h)
 intro k;obtain rfl|rfl:=cO k wh
 .obtain⟨y,w,d⟩:=Fl (m k);by_cases x:i=5
  .have p:f=y:=(d f a.hf).1 (by rw[a.hc,x]);refine un a.ht λn j=>?_;rw[o.at' n];by_cases c1:n=t
   .rw[qI c1,r,A.2 x];exact⟨λ_=>c1,λ_=>R⟩
   .rw[qF c1];by_cases c2:n=f
    .rw[qI c2,xp];exact⟨λe=>O,λe=>absurd e c1⟩
    .rw[qF c2];by_cases c3:n=cs
     .rw[qI c3,xp];exact⟨λe=>O,λe=>absurd e c1⟩
     .rw[qF c3,d n j];exact⟨λe=>absurd (e.trans p.symm) c2,λe=>absurd e c1⟩
  .refine un w λn j=>?_;rw[o.at' n];by_cases c1:n=t
   .rw[qI c1,r];refine⟨λe=>?_,λe=>?_⟩
    .exact absurd (A.1 O) x
    .have:=(d t a.ht).2 (c1.symm.trans e);exact absurd (ja O this) a.no
   .exact Oz
 .obtain⟨y,w,d⟩:=Fl (m (!wh));refine un w λn j=>?_;rw[o.at' n];by_cases c1:n=t
  .rw[qI c1,r];refine⟨λe=>O,λe=>?_⟩;exact absurd ((d t a.ht).2 (c1.symm.trans e)) v
  .exact Oz
theorem iA{c:UInt8}{a:Bool}{q:Nat}{g:Nat->UInt8}(d:g n=c)(b:q<6)(e:jB c=((bg a+q:Nat):Int))(h:q=0->¬ (n/8=0\/n/8=7)):vf g n=Zl:=by grind[vf,ro,qE]
theorem qky{Z:I2}(a:Z n=46):vf Z n=Zl:=by unfold vf;rw[a];rfl
theorem wH{Z:I2}(a:Z n=z n)(h:vf z n=Zl):vf Z n=Zl:=by unfold vf at h |-;rw[a];exact h
theorem jY.bad(h:jY z wh b i f t u cs)(F:i=5->t≠f+2/\t+2≠f)(g:u∈U5)(k:j9 z wh fc b f t u=Zk)(C:∀n,n<64->vf z n=Zl):∀n,n<64->vf (zE z b (f,t,u)) n=Zl:=by
 have B:=jv h F;obtain⟨q,A,w,H⟩:=h.tr;have x:=ro h.hi h.hc;intro n D;have a:=B.at' n;by_cases c1:n=t
 .rw[qI c1]at a;refine iA a A w λG y=>?_;rw[c1]at y;unfold j9 at k;simp only[qH]at k;have j:=eq_of_beq k.1.2;have d:zO t=Zk:=by
   unfold zO;obtain e|e:=y
   .rw[qJ e];rfl
   .rw[qJ e,Bool.or_true]
  rw[d,Wl]at j;have m:=ro A w;by_cases u0:u=0
  .subst u0;have o:yH (z f) 0=z f:=by unfold yH;rw[qI R]
   rw[o,x]at m;rw[x,qJ (show((i:Nat):Int)=0 from O)]at j;cases j
  .rw[qJ u0]at j;have E:vE (z f)=0:=q8 j.symm;have l:i=0:=O;have v:z f∈([80,112]:I1):=by have:=jn (p:=bg wh+i) (by have:=mM wh;omega) h.hc;rw[this,l];cases wh<;>decide
   have r:u∈([113,114,98,110]:I1):=by
    unfold U5 at g;simp only[Yj,XC,or_false]at g |-;obtain e|e|e|e|e:=g
    .exact absurd e u0
    .exact Zj (Zj (Zi e))
    .exact Zj (Zj (Zj e))
    .exact Zi e
    .exact Zj (Zi e)
   have:=BF _ v _ r;omega
 .rw[qF c1]at a;by_cases c2:n=f
  .rw[qI c2]at a;exact qky a
  .rw[qF c2]at a;by_cases c3:n=cs
   .rw[qI c3]at a;exact qky a
   .rw[qF c3]at a;exact wH a (C n D)
theorem jY.brd(d:jY z wh b i f t u cs)(h:i=5->t≠f+2/\t+2≠f)(g:u∈U5)(k:j9 z wh fc b f t u=Zk)(a:nt z)(e:jB (z t)≠((bg (!wh)+5:Nat):Int)):nt (zE z b (f,t,u)):=by
 refine⟨d.bad h g k a.bad,d.kings h a.kin e,λj=>?_⟩;obtain⟨l,m⟩:=(jv d h).men;obtain rfl|rfl:=cO j wh
 .rw[l];exact a.men _
 .exact q7 m (a.men _)
end
section
variable {z:I2}{wh:Bool}{fc:I5}{b:Int}
theorem nE(h:wU z wh i):z (xE i)=46/\z (rN i)=46:=by have a:=h.e;unfold wn at a;rw[qW]at a;obtain⟨j,k⟩:=pB i h.hi;obtain⟨l,n,f⟩:=qY.1 j;obtain⟨m,o,g⟩:=qY.1 k;have b:=eq_of_beq (a l n);have d:=eq_of_beq (a m o);rw[q8 f]at b;rw[q8 g]at d;exact⟨b,d⟩
def EO(z:I2)(i n:Nat):UInt8:=if n=xE i then z (hK i)else if n=hK i then 46 else if n=xE i then 46 else z n
theorem CU(h:wU z wh i)(o:nt z):nt (zE z b (hK i,xE i,0)):=by
 obtain⟨w,C,H,q,f5,f6,f7,f8,f9,a6,P,Q,x,A,j,l,B⟩:=zi i h.hi;obtain⟨F,G⟩:=nE h;obtain⟨E,D⟩:=zj (i:=5) O h.k;have E:jD (z (hK i))=Zl:=by rw[E];rfl
 have D:jA (z (hK i))=Zk:=by rw[D];rfl
 have g:=FB (b:=b) h.hi E D;have a7:=mM wh;have s1:pG z (EO z i) wh (hK i) (xE i) (xE i) (z (hK i)):=⟨λn=>R,w,C,ja O h.k,by rw[F,FQ];exact λe=>FT wh e.symm,ja O h.k,Zi R⟩;have V:EO z i (hR i)=z (hR i):=by unfold EO;rw[qF j,qF x,qF j]
 have W:EO z i (rN i)=z (rN i):=by unfold EO;rw[qF l,qF A,qF l]
 have s2:pG (EO z i) (zE z b (hK i,xE i,0)) wh (hR i) (rN i) (rN i) (z (hR i)):=by
  refine⟨λn=>?_,H,q,by rw[V];exact ja O h.r,by rw[W,G,FQ];exact λe=>FT wh e.symm,ja O h.r,Zi R⟩;rw[g n];by_cases c1:n=hR i
  .rw[qI c1,qF (λe=>B (e.symm.trans c1)),qI c1]
  .rw[qF c1];by_cases c2:n=rN i
   .rw[qI c2,qI c2]
   .rw[qF c2,qF c2,qF c1,qF c2];unfold EO;by_cases c3:n=xE i
    .rw[qI c3,qI c3]
    .rw[qF c3,qF c3,qF c3]
 refine⟨λn p=>?_,λu=>?_,λu=>?_⟩
 .have a:=g n;by_cases c1:n=hR i
  .rw[qI c1]at a;exact qky a
  .rw[qF c1]at a;by_cases c2:n=rN i
   .rw[qI c2]at a;exact iA a (q:=3) O h.r O
   .rw[qF c2]at a;by_cases c3:n=xE i
    .rw[qI c3]at a;exact iA a (q:=5) O h.k O
    .rw[qF c3]at a;by_cases f:n=hK i
     .rw[qI f]at a;exact qky a
     .rw[qF f]at a;exact wH a (o.bad n p)
 .obtain rfl|rfl:=cO u wh
  .obtain⟨y,J,d⟩:=Fl (o.kin u);have v:hK i=y:=(d _ w).1 h.k;refine un C λn p=>?_;rw[g n];by_cases c1:n=hR i
   .rw[qI c1,xp];exact⟨λe=>O,λe=>absurd (c1.symm.trans e) j⟩
   .rw[qF c1];by_cases c2:n=rN i
    .rw[qI c2,h.r];exact⟨λe=>O,λe=>absurd (c2.symm.trans e) l⟩
    .rw[qF c2];by_cases c3:n=xE i
     .rw[qI c3,h.k];exact⟨λ_=>c3,λ_=>R⟩
     .rw[qF c3];by_cases f:n=hK i
      .rw[qI f,xp];exact⟨λe=>O,λe=>absurd e c3⟩
      .rw[qF f,d n p];exact⟨λe=>absurd (e.trans v.symm) f,λe=>absurd e c3⟩
  .obtain⟨y,J,d⟩:=Fl (o.kin (!wh));have no:∀m,m<64->jB (z m)≠((bg (!wh)+5:Nat):Int)->m≠y:=λm a3 T e=>T ((d m a3).2 e);have a0:=no _ H (by rw[h.r];omega);have a1:=no _ q (by rw[G,xp];omega);have a5:=no _ C (by rw[F,xp];omega);have n4:=no _ w (by rw[h.k];omega);refine un J λn p=>?_;rw[g n];by_cases c1:n=hR i
   .rw[qI c1,xp];exact⟨λe=>O,λe=>absurd (c1.symm.trans e) a0⟩
   .rw[qF c1];by_cases c2:n=rN i
    .rw[qI c2,h.r];exact⟨λe=>O,λe=>absurd (c2.symm.trans e) a1⟩
    .rw[qF c2];by_cases c3:n=xE i
     .rw[qI c3,h.k];exact⟨λe=>O,λe=>absurd (c3.symm.trans e) a5⟩
     .rw[qF c3];by_cases f:n=hK i
      .rw[qI f,xp];exact⟨λe=>O,λe=>absurd (f.symm.trans e) n4⟩
      .rw[qF f];exact d n p
 .obtain⟨K,a2⟩:=s1.men;obtain⟨M,a4⟩:=s2.men;obtain rfl|rfl:=cO u wh
  .rw[M,K];exact o.men _
  .exact q7 a4 (q7 a2 (o.men _))
theorem lO{Z:I2}{F:I5}(o:F 0=Zk->Z 4=75/\Z 7=82)(p:F 1=Zk->Z 4=75/\Z 0=82)(q:F 2=Zk->Z 60=107/\Z 63=114)(r:F 3=Zk->Z 60=107/\Z 56=114):jH Z F=Zk:=by
 have b:∀(f:Nat)(e:Int)(rs:Nat)(g:Int)(k:Nat)(a d:UInt8),(a.toNat:Int)=e->(d.toNat:Int)=g->(F k=Zk->Z f=a/\Z rs=d)->xN Z F f e rs g k=Zk:=λf e rs g k a d m n h=>by
  unfold xN;cases u:F k with
  | false=>rfl
  | true =>
   obtain⟨j,l⟩:=h u;rw[j,l,m,n,qJ R,qJ R];rfl
 unfold jH;rw[qW];intro k i;have i:=qK.1 i;have:k=0\/k=1\/k=2\/k=3:=O;obtain rfl|rfl|rfl|rfl:=this
 .exact b 4 75 7 82 0 75 82 R R o
 .exact b 4 75 0 82 1 75 82 R R p
 .exact b 60 107 63 114 2 107 114 R R q
 .exact b 60 107 56 114 3 107 114 R R r
theorem Fw{t:Nat}(i:k<4)(h:kB fc f t 4 k=Zk):fc k=Zk/\(f:Int)≠xY k/\(t:Int)≠xY k/\(f:Int)≠zD k/\(t:Int)≠zD k:=by simp_all[kB,E6,pP,lS,qH,qX]
theorem nC{g:Int}(a:zP h g=Zk)(f t:Nat):zP (kK z f t h) (kj wh g)=Zk:=by
 unfold zP at a |-;simp only[qH,qG]at a |-;unfold kK kj;refine⟨⟨⟨?_,?_⟩,?_⟩,?_⟩
 .split<;>omega
 .split<;>omega
 .split<;>omega
 .split<;>omega
end
section
variable {z:I2}{wh:Bool}{fc:I5}{b:Int}{i f t cs:Nat}{u:UInt8}
theorem Ed:jB 75=5/\jB 82=3/\jB 107=11/\jB 114=9:=WS
theorem jY.keep(d:jY z wh b i f t u cs)(j:i=5->t≠f+2/\t+2≠f)(e:n≠t)(h:n≠f)(k:jB (z n)≠0/\jB (z n)≠6):zE z b (f,t,u) n=z n:=by
 rw[(jv d j).at' n,qF e,qF h];by_cases c3:n=cs
 .exfalso;by_cases a:i=0/\(t:Int)=b
  .obtain⟨_,_,_,_,g⟩:=d.ep a.1 a.2;rw[<-c3]at g;have:=mM wh;omega
  .exact e (c3.trans (d.nep a))
 .rw[qF c3]
theorem jY.cast(d:jY z wh b i f t u cs)(e:i=5->t≠f+2/\t+2≠f)(m:kJ z wh fc b):jH (zE z b (f,t,u)) (kB fc f t 4)=Zk:=by
 obtain⟨o,p,q,r⟩:=Ed;refine lO (λh=>?_) (λh=>?_) (λh=>?_) (λh=>?_)
 .obtain⟨a,g,j,k,l⟩:=Fw O h;obtain⟨c1,c2⟩:=m.c0 a;simp[xY,zD]at g j k l;rw[d.keep e (n:=4) O O Ov,d.keep e (n:=7) O O Ou];exact⟨c1,c2⟩
 .obtain⟨a,g,j,k,l⟩:=Fw O h;obtain⟨c1,c2⟩:=m.c1 a;simp[xY,zD]at g j k l;rw[d.keep e (n:=4) O O Ov,d.keep e (n:=0) O O Ou];exact⟨c1,c2⟩
 .obtain⟨a,g,j,k,l⟩:=Fw O h;obtain⟨c1,c2⟩:=m.c2 a;simp[xY,zD]at g j k l;rw[d.keep e (n:=60) O O Ov,d.keep e (n:=63) O O Ou];exact⟨c1,c2⟩
 .obtain⟨a,g,j,k,l⟩:=Fw O h;obtain⟨c1,c2⟩:=m.c3 a;simp[xY,zD]at g j k l;rw[d.keep e (n:=60) O O Ov,d.keep e (n:=56) O O Ou];exact⟨c1,c2⟩
theorem jY.beh(j:jY z wh b i f t u cs)(E:i=5->t≠f+2/\t+2≠f)(a:j9 z wh fc b f t u=Zk):xX (zE z b (f,t,u)) (!wh) (vK z f t)=Zk:=by
 have w:=jv j E;have K:=j.hf;have P:=j.ht;unfold vK;rw[dR];by_cases c0:vE (z f)=0
 case neg=>rw[qE c0];rfl
 rw[qJ c0,Xc];by_cases c2:AW f t=Zk
 case neg=>rw[qF c2];rfl
 rw[qI c2];have v:uI f t*uI f t=4:=q8 c2;unfold j9 at a;simp only[qH]at a;obtain⟨⟨_,C⟩,a⟩:=a;rw[qI c0]at a;unfold BD at a;have p:¬ xS (zI z) 0 (xK wh) (f:Int) (t:Int)=Zk:=λD=>by have:=lW D;rw[this]at v;cases wh<;>cases v
 rw[qF p]at a;unfold DC at a;simp only[qH,Ym,qG]at a;obtain⟨⟨J,M⟩,a⟩:=a;obtain a|⟨⟨e,B⟩,r⟩:=a
 .rw[a]at v;cases wh<;>cases v
 have y:i=0:=by have:=ro j.hi j.hc;omega
 have o:zO t=Zl->yH (z f) u=z f:=λl=>by
  rw[l,XU]at C;have:=eq_of_beq C;have u0:u=0:=Xd λh=>by rw[qJ h]at this;cases this
  rw[u0];unfold yH;rw[qI R]
 have A:=jn (p:=bg wh+i) (by have:=mM wh;omega) j.hc;rw[y]at A;have q:∀n,n≠t->n≠f->z n=46->zE z b (f,t,u) n=46:=λn F G H=>by rw[w.at' n,qF F,qF G,H];split<;>rfl
 have k:zE z b (f,t,u) f=46:=by rw[w.at' f,qF w.ne,qI R]
 have d:zE z b (f,t,u) t=yH (z f) u:=by rw[w.at' t,qI R]
 unfold uI at e;cases wh
 .simp only[xK,qR,YH]at e B r;have l:zO t=Zl:=US;rw[o l,A,show yQ (bg Zl+0)=112 from WS]at d;obtain⟨m,rfl⟩:∃m,f=m+16:=⟨f-16,O⟩;have x:t=m:=O;subst x;have em:(t+16+t)/2=t+8:=O;rw[em];unfold xX;have g:=q (t+8) O O (by rw[show t+16-8=t+8 from O]at r;exact r);rw[show(((t+8:Nat):Int)).toNat=t+8 from YE _,show(((t+8:Nat):Int)+8).toNat=t+16 from O,show(((t+8:Nat):Int)-8).toNat=t from O,g,k,d];simp only[X3,YS];rw[qJ (show(40:Int)<=((t+8:Nat):Int) from O),qJ (show((t+8:Nat):Int)<48 from O)];simp
 .simp only[xK,YS]at e B r;have l:zO t=Zl:=US;rw[o l,A,show yQ (bg Zk+0)=80 from WS]at d;have x:t=f+16:=O;subst x;have em:(f+(f+16))/2=f+8:=O;rw[em];unfold xX;have g:=q (f+8) O O r;rw[show(((f+8:Nat):Int)).toNat=f+8 from YE _,show(((f+8:Nat):Int)+8).toNat=f+16 from O,show(((f+8:Nat):Int)-8).toNat=f from O,g,k,d];simp only[Bool.not_true,qR,YH];rw[qJ (show(16:Int)<=((f+8:Nat):Int) from O),qJ (show((f+8:Nat):Int)<24 from O)];simp
theorem tw(h:wU z wh i)(e:kJ z wh fc b):jH (zE z b (hK i,xE i,0)) (kB fc (hK i) (xE i) 4)=Zk:=by
 obtain⟨g,f⟩:=zj (i:=5) O h.k;have g:jD (z (hK i))=Zl:=by rw[g];rfl
 have f:jA (z (hK i))=Zk:=T1;have d:=FB (b:=b) h.hi g f;have o:=h.hi;have:i=0\/i=1\/i=2\/i=3:=O;refine lO (λh=>?_) (λh=>?_) (λh=>?_) (λh=>?_);all_goals
  obtain⟨a,j,l,m,n⟩:=Fw O h;rw[d,d];rcases this with rfl|rfl|rfl|rfl<;>simp[hK,hR,xE,rN,xY,zD]at j l m n |-<;>first|exact e.c0 a|exact e.c1 a|exact e.c2 a|exact e.c3 a
end
theorem nH{g:Int}(a:k6 z wh fc b h g=Zk)(a4:-1<=b)(a3:b<=63){t:Nat}(Q:(f,t,u)∈xC z wh fc b):k6 (zE z b (f,t,u)) (!wh) (kB fc f t 4) (vK z f t) (kK z f t h) (kj wh g)=Zk:=by
 have k:=qkv a;rw[<-aY]at a |-;have v:=zg _ _ _ _ _ Q;have A:f<64:=v.1;have C:t<64:=v.2;have x:=(je k a4 a3 _).2 Q;obtain⟨i,f',t',u',e,B,_,_,y,P,a2⟩:=(Ay k).1 (qV.1 x).1;have a9:f=f':=by injection e
 have b0:t=t':=Vo;have b2:u=u':=Vo;subst a9 b0 b2;obtain⟨u2,F,_,M⟩:=wX a2;have e5:u=u2:=by injection F with _ F;injection F
 subst e5;have w:u∈U5:=by unfold U5;rcases M with e|e|e|e|e<;>rw[e]<;>decide
 have j:=(C8 k a4 a3 A C w).2 x;unfold vo at j;rw[qH,pC k B A C y P a2]at j;obtain⟨l,d⟩:=j;have d:zM (zE z b (f,t,u)) (xR (zE z b (f,t,u)) wh) (!wh)=Zl:=VG;unfold zT at a;simp only[qH,qG,qW,YK]at a;obtain⟨⟨⟨⟨⟨q,⟨⟨a0,a5⟩,a6⟩,a7⟩,_⟩,_⟩,ho⟩,r⟩:=a;have G:nt z:=⟨λn a1=>q n (qK.2 a1),λE=>by cases E<;>assumption,λE=>by cases E<;>assumption⟩;have m:nt (zE z b (f,t,u))->jH (zE z b (f,t,u)) (kB fc f t 4)=Zk->xX (zE z b (f,t,u)) (!wh) (vK z f t)=Zk->zT (zE z b (f,t,u)) (!wh) (kB fc f t 4) (vK z f t) (kK z f t h) (kj wh g)=Zk:=λp q1 q2=>by
  unfold zT;rw[Bool.not_not,d,q1,q2,nC r f t,qJ (p.kin Zk),qJ (p.kin Zl),qJ (p.men Zk),qJ (p.men Zl)];have:((List.range 64).all λn=>!(vf (zE z b (f,t,u)) n))=Zk:=qW.2 λn a1=>by rw[p.bad n (qK.1 a1)];rfl
  rw[this];rfl
 obtain⟨H,D⟩|⟨W,o,a8,b1,T,V⟩:=ko k B A C y P a2
 .have J:=BS B A C y l D (G.kin _) ho;exact m (H.brd D w l G J) (H.cast D k) (H.beh D l)
 .subst a8 b1 T;refine m (CU o G) (tw o k) ?_;have K:jD (z (hK W))=Zl:=by rw[(zj B y).1,V];rfl
  unfold vK;rw[K];rfl
theorem ib(k:Nat)(a:k<64):IntKind.u64.wrap (2 ^ k)=U (1#64 <<< k):=by have:=rp k a;unfold v6 at this;rw[<-this,YE]
theorem dY(f:kJ z wh fc b)(j:-1<=b)(k:b<=63){x:Mv}(m:x∈xC z wh fc b):x.2.2∈U5:=by
 obtain⟨i,n,r,g,e,p,_,_,o,q,l⟩:=(Ay f).1 (qV.1 ((je f j k x).2 m)).1;obtain⟨u2,a,_,d⟩:=wX l;have h:g=u2:=by injection a with _ a;injection a
 rw[e];show g∈U5;rw[h];unfold U5;rcases d with e|e|e|e|e<;>rw[e]<;>decide
theorem BI{s:I4}{p:pH}(d:xG s=S p):∀n,64<=n->xM p n=0:=by obtain⟨B,a,b,_⟩:=FM s p d;intro n e;rw[ip (by first|exact a|exact b)];unfold zB;rw[YR,Y9 O];rfl
structure Mvd(z:I2)(wh:Bool)(fc:I5)(b:Int)(f t:Nat)(u:UInt8):Prop where
 far:∀n,64<=n->zE z b (f,t,u) n=z n
 safe:zM (zE z b (f,t,u)) (xR (zE z b (f,t,u)) wh) (!wh)=Zl
 king:∃y:Nat,y<64/\xR (zE z b (f,t,u)) wh=(y:Int)
theorem D8(d:kJ z wh fc b)(m:-1<=b)(o:b<=63){t:Nat}(E:(f,t,u)∈xC z wh fc b):Mvd z wh fc b f t u:=by
 have j:=zg _ _ _ _ _ E;have p:f<64:=j.1;have q:t<64:=j.2;have D:u∈U5:=dY d m o E;have l:=(je d m o _).2 E;obtain⟨i,a2,a0,P,e,x,_,_,w,A,C⟩:=(Ay d).1 (qV.1 l).1;have a1:f=a2:=by injection e
 have J:t=a0:=Vo;have K:u=P:=Vo;subst a1 J K;have a:=(C8 d m o p q D).2 l;unfold vo at a;rw[qH,pC d x p q w A C]at a;refine⟨λn a5=>?_,by simpa using a.2,(jy d m o x p q w A C).1⟩;obtain⟨v,a3⟩|⟨r,g,F,G,H,Q⟩:=ko d x p q w A C
 .rw[(jv v a3).at' n,qF O,qF O,qF];intro a4;by_cases h:i=0/\(t:Int)=b
  .obtain⟨_,M,_,_,_⟩:=v.ep h.1 h.2;omega
  .have:=v.nep h;omega
 .subst F G H;obtain⟨B,y⟩:=zj (i:=5) O g.k;have B:jD (z (hK r))=Zl:=by rw[B];rfl
  have y:jA (z (hK r))=Zk:=by rw[y];rfl
  obtain⟨a6,T,V,W,_⟩:=zi r g.hi;rw[FB (b:=b) g.hi B y n,qF O,qF O,qF O,qF O]
def mr(n:Nat):Nat:=(7-n/8)*8+n%8
def mm(x:Mv):Mv:=(mr x.1,mr x.2.1,x.2.2)
theorem qkj(e:kJ z wh fc b)(a:-1<=b)(d:b<=63){t:Nat}(g:f<64)(h:t<64)(i:u∈U5):(f,t,u)∈xC z wh fc b↔vo z wh fc b f t u=Zk:=by rw[C8 e a d g h i,je e a d]
theorem tv{b:I5}(h:∀i,i<4->fc i=b i)(f t:Nat)(u:UInt8):zK wh fc f t u=zK wh b f t u:=by
 have d:∀fc:I5,zK wh fc f t u=if jZ wh fc f t u 0 then 0 else if jZ wh fc f t u 1 then 1 else if jZ wh fc f t u 2 then 2 else if jZ wh fc f t u 3 then 3 else -1:=λ_=>R;have a:∀i,i<4->jZ wh fc f t u i=jZ wh b f t u i:=λi e=>by unfold jZ;rw[h i e]
 rw[d,d,a 0 O,a 1 O,a 2 O,a 3 O]
theorem sZ{a:I5}(h:∀i,i<4->fc i=a i)(f t:Nat)(u:UInt8):vo z wh fc b f t u=vo z wh a b f t u:=by grind[j9,EE,tv,ua,sm,vo]
theorem EC{k:I5}(l:kJ z wh fc b)(hD:kJ z wh k b)(e:-1<=b)(g:b<=63)(h:∀i,i<4->fc i=k i)(x:Mv):x∈xC z wh fc b↔x∈xC z wh k b:=by
 obtain⟨f,t,u⟩:=x;constructor
 .intro d;have a:=zg _ _ _ _ _ d;have j:u∈U5:=dY l e g d;rw[qkj hD e g a.1 a.2 j,<-sZ h];exact(qkj l e g a.1 a.2 j).1 d
 .intro d;have a:=zg _ _ _ _ _ d;have j:u∈U5:=dY hD e g d;rw[qkj l e g a.1 a.2 j,sZ h];exact(qkj hD e g a.1 a.2 j).1 d
section
structure Ok(z:I2)(wh:Bool)(fc:I5)(b h g:Int):Prop where
 can:k6 z wh fc b h g=Zk
 b0:-1<=b
 b1:b<=63
 nz:∀n,64<=n->z n=0
 nf:∀n,4<=n->fc n=Zl
variable {z:I2}{wh:Bool}{fc:I5}{b h g:Int}
theorem Ok.good(o:Ok z wh fc b h g):kJ z wh fc b:=qkv o.can
theorem Ok.clk(o:Ok z wh fc b h g):0<=h/\h<=65535/\0<=g/\g<=65535:=by obtain⟨_,_,a,c⟩:=nG o.can;omega
theorem Ok.lay(o:Ok z wh fc b h g):xO z=Zk:=o.good.ok
theorem Ok.next(o:Ok z wh fc b h g){t:Nat}(e:(f,t,u)∈xC z wh fc b):Ok (zE z b (f,t,u)) (!wh) (kB fc f t 4) (vK z f t) (kK z f t h) (kj wh g):=by have a:=zg _ _ _ _ _ e;obtain⟨c0,c1,c2,c3⟩:=o.clk;obtain⟨i,_⟩:=iK z f t a.1 a.2 c0 (wh:=wh) c2 c3;exact⟨nH o.can o.b0 o.b1 e,O,O,λn d=>by rw[(D8 o.good o.b0 o.b1 e).far n d];exact o.nz n d,λn d=>by unfold kB;rw[o.nf n d];rfl⟩
theorem Ok.mv(o:Ok z wh fc b h g){t:Nat}(i:(f,t,u)∈xC z wh fc b):f<64/\t<64/\u∈U5/\(jA (z f)=Zk->t=f+2->f+3<64)/\(jA (z f)=Zk->t+2=f->4<=f):=by have d:=zg _ _ _ _ _ i;have j:=qjw o.good o.b0 o.b1;have e:=(qV.1 ((je o.good o.b0 o.b1 _).2 i)).1;exact⟨d.1,d.2,dY o.good o.b0 o.b1 i,λa c=>j.k1 f t u e a c,λa c=>j.k2 f t u e a c⟩
def yC(fc:I5)(n:Nat):Bool:=Zm (n<4)&&fc n
theorem fU(fc:I5)(h:n<4):yC fc n=fc n:=by unfold yC;rw[qJ h];rfl
theorem Ok.of{s:I4}{p:pH}(a:xG s=S p)(e:xP p=Zk):Ok (xM p) p.white (yC p.castle) p.behind p.half p.full:=by obtain⟨b,d⟩:=qjv a;refine⟨?_,b,d,BI a,λn g=>by unfold yC;rw[qE O];rfl⟩;rw[fx _ _ _ _ _ (λi f=>fU p.castle f)];exact e
theorem F5(r:jE z wh fc b h g PA):jE z wh (yC fc) b h g PA:=⟨r.size,r.sq,r.wh,λi a=>by rw[fU fc a];exact r.c i a,r.b,r.h,r.g⟩
end
section
theorem vJ.fr(h:vJ w)(f:Fr Q w w')(a:∀o,Q 1 o):vJ w' :=
 ⟨λj v b=>f.cell (h.1 j v b) (λo _=>a o),qN h.2 f.size⟩
variable {z:I2}{wh:Bool}{fc:I5}{b h g:Int}{PA:I0}
end
end Go.Proofs.YtnfakamfmkhlbabGreatDoor.C
namespace Go.Proofs.YtnfakamfmkhlbabGreatDoor.P
open Go.ChangeShapes Go.WideShapes Go.ChangeAt Go.RowKit Go.Shelf Go.Proofs.YtnfakamfmkhlbabGreatDoor.P
variable {z:I2}{wh:Bool}{b h m:Int}{PA A M:I0}{fc:I5}{w W a w' w1 V:I6}{f n i k g base d e l j x B Bp:Nat}{v:I7}{u:UInt8}{Q:Nat->Obj->Prop}{rs:I3}{y:I1}
theorem C5(n:Int):-1<=sg n/\sg n<=1:=by unfold sg;split<;>(try split)<;>omega
theorem nw(n:Int)(a:-7<=n)(b:n<=7):0<=ab n/\ab n<=7:=by unfold ab;split<;>omega
theorem mO(a b:Int)(h:0<=a/\a<=7)(g:0<=b/\b<=7):wrap64 (a*b)=a*b:=by have d:0<=a*b:=Int.mul_nonneg h.1 g.1;have e:a*b<=7*7:=Int.mul_le_mul h.2 g.2 g.1 O;unfold wrap64;omega
theorem cC(a b:Int) :
 ((ab a==ab b)=Zk/\Zm (0<ab a)=Zl/\(a==0)=Zk/\(b==0)=Zk)
 ∨ ((ab a==ab b)=Zl/\Zm (0<ab a)=Zl/\(a==0)=Zk/\(b==0)=Zl)
 ∨ ((ab a==ab b)=Zl/\Zm (0<ab a)=Zk/\(a==0)=Zl/\(b==0)=Zk)
 ∨ ((ab a==ab b)=Zk/\Zm (0<ab a)=Zk/\(a==0)=Zl/\(b==0)=Zl)
 ∨ ((ab a==ab b)=Zl/\Zm (0<ab a)=Zk/\(a==0)=Zl/\(b==0)=Zl):=by simp only[YF,qM,qG,qX];unfold ab;split<;>split<;>omega
theorem FC(x y:Int)(a:0<=x)(b:x<=63)(d:0<=y)(e:y<=63)(f:yd x y=Zk\/yg x y=Zk):1<=LI x y:=(Fz x y a b d e f).1
theorem FD(x y:Int)(a:0<=x)(b:x<=63)(d:0<=y)(e:y<=63)(f:yd x y=Zk\/yg x y=Zk):pI x y (LI x y)=y:=(Fz x y a b d e f).2.1
theorem FE(x y:Int)(d:0<=x)(e:x<=63)(f:0<=y)(g:y<=63)(h:yd x y=Zk\/yg x y=Zk):∀i,1<=i->i<LI x y->pI x y i≠y :=
 λi a b=>((Fz x y d e f g h).2.2 i O).2.2 a b
theorem IX(x y:Int):pI x y 1=x+8*sg (y/8-x/8)+sg (y%8-x%8):=by unfold pI;omega
theorem FF(x y:Int):∀i,pI x y (i+1)=pI x y i+8*sg (y/8-x/8)+sg (y%8-x%8):=by grind[pI]
end Go.Proofs.YtnfakamfmkhlbabGreatDoor.P
