import Derived.Test.YtnfakamfmkhlbabGreatDoorUm20
import Derived.Test.YtnfakamfmkhlbabGreatDoorUm19
import Derived.Test.YtnfakamfmkhlbabGreatDoorUm11
import Derived.Test.YtnfakamfmkhlbabGreatDoorUm13
import Derived.Test.YtnfakamfmkhlbabGreatDoorUm17
import Derived.Test.YtnfakamfmkhlbabGreatDoorUm12
import Derived.Test.YtnfakamfmkhlbabGreatDoorKz2
set_option maxRecDepth 100000
set_option maxHeartbeats 4000000
set_option linter.unusedSimpArgs false
namespace Go.Proofs.YtnfakamfmkhlbabGreatDoor.C
open Go.RowKit Go.Proofs.YtnfakamfmkhlbabGreatDoor.P Go.ChangeShapes Go.WideShapes Go.ChangeAt
theorem qv7{α β:Type}{A B:α->List β}:∀l:List α,(∀k∈l,(A k).Sublist (B k))->(l.flatMap A).Sublist (l.flatMap B)
 | [],_=>by simp
 | a :: r,h=>by
   rw[List.flatMap_cons,List.flatMap_cons];exact List.Sublist.append (h a (List.mem_cons_self ..)) (qv7 r fun k hk=>h k (List.mem_cons_of_mem _ hk))
theorem eG(z:Nat->UInt8):∀l:List Nat,(nu z l).Sublist l
 | []=>by simp[nu]
 | a :: r=>by
   unfold nu;split
   ·exact List.Sublist.cons_cons a (eG z r)
   ·exact List.Sublist.cons_cons a (List.nil_sublist r)
theorem m7:∀x,x<64->((List.range 16).flatMap fun k=>if k<8 then rr k x else[]).Nodup:=by decide +kernel
theorem ez:∀x,x<64->((List.range 16).flatMap fun k=>if pM x (jU k)then[nx x (jU k)]else[]).Nodup:=by decide +kernel
theorem iD{z:Nat->UInt8}{f:Nat}(hf:f<64){bw:Bool}{i:Nat}(hi:i<6)(hc:jB (z f)=((bg bw+i:Nat):Int)):(zU z f 16).Nodup:=by
 have hbg:bg bw=0\/bg bw=6:=by cases bw<;>simp[bg]
 have hp:bg bw+i<12:=by omega
 have hz:=jn hp hc;have hm:(bg bw+i)%6=i:=by omega
 have hF:=uv (bg bw+i) hp;rw[hm]at hF;unfold zU;cases hfar:vx i with
 | true =>
  have hG:=qjz (bg bw+i) hp (by rw[hm];exact hfar);refine List.Nodup.sublist (qv7 _ fun k hk=>?_) (m7 f hf);have hk:=qK.1 hk;unfold yj;rw[hz,(hG k hk).1,hF,hfar,qI rfl];by_cases h8:k<8
  ·rw[qI h8];split
   ·unfold kq;rw[uH];exact eG z _
   ·exact List.nil_sublist _
  ·rw[qF (by simp[h8]),qF h8];exact List.nil_sublist _
 | false =>
  refine List.Nodup.sublist (qv7 _ fun k hk=>?_) (ez f hf);unfold yj;rw[hz,hF,hfar,gy];split
  ·rw[qF (by simp)];exact List.Sublist.refl _
  ·exact List.nil_sublist _
theorem bR:∀x,x<64->(rr 0 x).Nodup/\(rr 4 x).Nodup:=by decide +kernel
theorem qze{f:Nat->Int}{s x y:Int}(h:xS f 0 s x y=true):y%8≠x%8:=by
 unfold xS at h;rw[qI rfl,qH,beq_iff_eq,beq_iff_eq]at h;intro e;rw[e]at h;have:=h.1;unfold ab at this;split at this<;>omega
theorem lu{z:Nat->UInt8}{wh:Bool}{fc:Nat->Bool}{b:Int}(hC:kJ z wh fc b){f:Nat}(hf:f<64){i:Nat}(hi:i<6)(hc:jB (z f)=((bg wh+i:Nat):Int)):(yF z wh fc b f).Nodup:=by
 obtain⟨hp,hk⟩:=zj hi hc;have hA:=iD hf hi hc;unfold yF;rw[hp,hk,List.nodup_append];refine⟨List.Pairwise.filter _ hA,?_,?_⟩
 ·by_cases e0:i=0
  ·rw[qJ e0,qI rfl];unfold cW;refine List.Nodup.sublist ((List.takeWhile_sublist _).trans (List.take_sublist _ _)) ?_;unfold kq;rw[uH];refine List.Nodup.sublist (eG z _) ?_;cases wh
   ·exact(bR f hf).2
   ·exact(bR f hf).1
  ·rw[qE e0,qF (by simp)];by_cases e5:i=5
   ·rw[qJ e5,qI rfl,List.nodup_append];refine⟨by unfold uz;split<;>simp,by unfold pA;split<;>simp,fun a ha c hc e=>?_⟩
    unfold uz at ha;unfold pA at hc;split at ha
    ·split at hc
     ·simp at ha hc;omega
     ·cases hc
    ·cases ha
   ·rw[qE e5,qF (by simp)];exact List.nodup_nil
 ·intro a ha c hc' e;subst e;have ha:=(qV.1 ha).1;have ha64:=cP hf ha;rw[Dq hf hi hc ha64]at ha;by_cases e0:i=0
  ·subst e0;have hr:=hC.pw wh f hf hc;rw[qJ rfl,qI rfl,Fq hf hr]at hc';have h1:=qze ha;rcases hc' with⟨e,_⟩|⟨hs,e,_⟩
   ·unfold fw at e;cases wh<;>simp at e<;>omega
   ·unfold fw at e;unfold vQ at hs;cases wh<;>simp at e hs<;>omega
  ·rw[qE e0,qF (by simp)]at hc';by_cases e5:i=5
   ·subst e5;rw[qJ rfl,qI rfl]at hc';have:=(qx8 ha).1;rw[FI _ 5 (by omega) _ 1]at this;have hk2:=qxv f hf a ha64 this;obtain⟨h1,h2⟩:=FK hC hf hc;rcases List.mem_append.1 hc' with h|h
    ·unfold uz at h;split at h
     ·simp at h;omega
     ·cases h
    ·unfold pA at h;split at h
     ·rename_i hh;rw[qH]at hh;have hfe:=h2 hh.1;have:2<=f:=by rw[hfe];cases wh<;>decide
      simp at h;omega
     ·cases h
   ·rw[qE e5,qF (by simp)]at hc';cases hc'
theorem qj1(p:Bool)(f t:Nat):(xT p f t).Nodup:=by
 unfold xT;split
 ·simp
 ·simp
theorem FP{p:Bool}{f t:Nat}{x:Mv}(h:x∈xT p f t):x.1=f/\x.2.1=t:=by
 obtain⟨u,rfl,_⟩:=wX h;exact⟨rfl,rfl⟩
theorem fF{z:Nat->UInt8}{wh:Bool}{fc:Nat->Bool}{b:Int}(hC:kJ z wh fc b):(yo z wh fc b).Nodup:=by
 unfold yo;refine List.Pairwise.filter _ ?_;unfold ye;rw[List.pairwise_flatMap];constructor
 ·intro f hf;have hf:=qK.1 hf;unfold nh;split
  ·rename_i hm;rw[rt (ji hC.ok hf),qG]at hm;obtain⟨i,hi,e1,_⟩:=zq hm;rw[List.pairwise_flatMap];refine⟨fun t _=>qj1 _ _ _,(lu hC hf hi e1).imp fun {a c} hne x hx y hy e=>?_⟩;subst e;exact hne ((FP hx).2.symm.trans (FP hy).2)
  ·exact List.Pairwise.nil
 ·refine(List.nodup_range (n:=64)).imp fun {a c} hne x hx y hy e=>?_
  subst e
  have key:∀f,x∈nh z wh fc b f->x.1=f:=fun f h=>by
   unfold nh at h;split at h
   ·obtain⟨t,_,h⟩:=List.mem_flatMap.1 h;exact(FP h).1
   ·cases h
  exact hne ((key a hx).symm.trans (key c hy))
theorem po(s:BitVec 64):(vD s).Nodup:=List.Pairwise.filter _ (List.nodup_range (n:=64))
theorem fB(z:Nat->UInt8)(wh:Bool)(fc:Nat->Bool)(b:Int):(xC z wh fc b).Nodup:=by
 have kf:∀(m:Nat->BitVec 64)(own oth beh:BitVec 64)(k f:Nat)(x:Mv),x∈kF m wh own oth beh fc k f->x.1=f:=fun m own oth beh k f x h=>by
  unfold kF bE at h;obtain⟨t,_,h⟩:=List.mem_flatMap.1 h;split at h
  ·exact(FP h).1
  ·cases h
 unfold xC zH List.Nodup;rw[List.pairwise_flatMap];constructor
 ·intro k _;unfold yN;rw[List.pairwise_flatMap];constructor
  ·intro f _;unfold kF;rw[List.pairwise_flatMap];constructor
   ·intro t _;unfold bE;split
    ·exact qj1 _ _ _
    ·exact List.Pairwise.nil
   ·refine(po _).imp fun {a c} hne x hx y hy e=>?_
    subst e;unfold bE at hx hy;split at hx
    ·split at hy
     ·exact hne ((FP hx).2.symm.trans (FP hy).2)
     ·cases hy
    ·cases hx
  ·refine(po _).imp fun {a c} hne x hx y hy e=>?_
   subst e;exact hne ((kf _ _ _ _ _ _ _ hx).symm.trans (kf _ _ _ _ _ _ _ hy))
 ·refine(List.nodup_range (n:=6)).imp fun {a c} hne x hx y hy e=>?_
  subst e;unfold yN at hx hy;obtain⟨f,hf,hx⟩:=List.mem_flatMap.1 hx;obtain⟨g,hg,hy⟩:=List.mem_flatMap.1 hy;have e1:=kf _ _ _ _ _ _ _ hx;have e2:=kf _ _ _ _ _ _ _ hy;rw[Dt]at hf hg;rw[vH z _ f hf.1,qG]at hf;rw[vH z _ g hg.1,qG]at hg;rw[<-e2,e1,hf.2]at hg;have:=hg.2;exact hne (by omega)
theorem Fm:∀f,f<64->∀g,g<64->xQ f=xQ g->f=g:=by decide +kernel
theorem oX{x y:Mv}(hx:bi x)(hy:bi y)(h:yJ x=yJ y):x=y:=by
 obtain⟨f,t,u⟩:=x;obtain⟨f',t',u'⟩:=y;unfold yJ uY at h;simp only at h;rw[qS,qS]at h;obtain⟨h1,h2⟩:=List.append_inj h rfl;obtain⟨h2,h3⟩:=List.append_inj h2 rfl;have e1:=Fm f hx.1 f' hy.1 h1;have e2:=Fm t hx.2 t' hy.2 h2
 have e3:u=u':=by
  by_cases a:u=0
  ·by_cases c:u'=0
   ·rw[a,c]
   ·rw[qI a,qF c]at h3;cases h3
  ·by_cases c:u'=0
   ·rw[qF a,qI c]at h3;cases h3
   ·rw[qF a,qF c]at h3;injection h3
 rw[e1,e2,e3]
theorem zu{α:Type}{r:α->α->Prop}(asym:∀a b,r a b->¬ r b a):∀(l1 l2:List α),l1.Pairwise r->l2.Pairwise r->(∀x,x∈l1↔x∈l2)->l1=l2
 | [],[],_,_,_=>rfl
 | [],b :: r2,_,_,h=>absurd ((h b).2 (List.mem_cons_self ..)) (by simp)
 | a :: r1,[],_,_,h=>absurd ((h a).1 (List.mem_cons_self ..)) (by simp)
 | a :: r1,b :: r2,h1,h2,h=>by
   rw[List.pairwise_cons]at h1 h2
   have hab:a=b:=by
    rcases List.mem_cons.1 ((h a).1 (List.mem_cons_self ..))with e|e
    ·exact e
    ·rcases List.mem_cons.1 ((h b).2 (List.mem_cons_self ..))with e'|e'
     ·exact e'.symm
     ·exact absurd (h1.1 b e') (asym _ _ (h2.1 a e))
   subst hab;have irr:¬ r a a:=fun k=>asym _ _ k k
   rw[zu asym r1 r2 h1.2 h2.2 fun x=>?_];constructor
   ·intro hx;rcases List.mem_cons.1 ((h x).1 (List.mem_cons_of_mem _ hx))with e|e
    ·rw[e]at hx;exact absurd (h1.1 a hx) irr
    ·exact e
   ·intro hx;rcases List.mem_cons.1 ((h x).2 (List.mem_cons_of_mem _ hx))with e|e
    ·rw[e]at hx;exact absurd (h2.1 a hx) irr
    ·exact e
theorem qvc{xs:List Mv}(hn:xs.Nodup)(hok:∀x∈xs,bi x):(jI xs).Pairwise fun x y=>yJ x<yJ y:=by
 have h1:(jI xs).Pairwise fun x y=>(!n8 y x)=true:=by
  unfold jI;refine List.pairwise_mergeSort (fun a b c h1 h2=>?_) (fun a b=>?_) xs
  ·unfold n8 at *;simp only[Bool.not_eq_true',qX]at *;exact List.not_lt.2 (List.le_trans (List.not_lt.1 h1) (List.not_lt.1 h2))
  ·unfold n8;rw[Bool.or_eq_true];simp only[Bool.not_eq_true',qX];rcases List.le_total (yJ a) (yJ b)with h|h
   ·exact .inl (List.not_lt.2 h)
   ·exact .inr (List.not_lt.2 h)
 have h2:(jI xs).Nodup:=List.Nodup.perm hn (xq xs).symm;have hok':∀x∈jI xs,bi x:=fun x hx=>hok x ((xq xs).mem_iff.1 hx)
 have h3:(jI xs).Pairwise fun x y=>(!n8 y x)=true/\x≠y:=List.Pairwise.and h1 h2
 refine List.Pairwise.imp_of_mem (fun {a c} ha hc h=>?_) h3;unfold n8 at h;simp only[Bool.not_eq_true',qX]at h;by_cases hlt:yJ a<yJ c
 ·exact hlt
 ·exact absurd (oX (hok' a ha) (hok' c hc) (List.le_antisymm (List.not_lt.1 h.1) (List.not_lt.1 hlt))) h.2
theorem Fd{z:Nat->UInt8}{wh:Bool}{fc:Nat->Bool}{b:Int}(hC:kJ z wh fc b)(h0:-1<=b)(h1:b<=63):jI (yo z wh fc b)=jI (xC z wh fc b)/\(jI (xC z wh fc b)).Pairwise fun x y=>yJ x<yJ y:=by
 have hk:=qjw hC h0 h1;have r1:=qvc (fF hC) (fun x hx=>iI hk.home (qV.1 hx).1);have r2:=qvc (fB z wh fc b) (zg z wh fc b);refine⟨zu (fun a c h=>List.lt_asymm h) _ _ r1 r2 fun x=>?_,r2⟩;rw[(xq _).mem_iff,(xq _).mem_iff];exact je hC h0 h1 x
theorem Fp{s:ByteArray}{p:pH}(hr:xG s=some p)(hc:xP p=true):kJ (xM p) p.white p.castle p.behind ∧ -1<=p.behind/\p.behind<=63:=⟨qkv hc,qjv hr⟩
def zO(t:Nat):Bool:=decide (t/8=0)||decide (t/8=7)
def uI(f t:Nat):Int:=((t/8:Nat):Int)-((f/8:Nat):Int)
def DC(z:Nat->UInt8)(wh:Bool)(f t:Nat):Bool:=decide (uI f t=xK wh)||(decide (uI f t=2*xK wh)&&decide (f/8=(if wh then 1 else 6))&&decide (z (if wh then f+8 else f-8)=46))
def BD(z:Nat->UInt8)(wh:Bool)(b:Int)(f t:Nat):Bool :=
 if xS (zI z) 0 (xK wh) (f:Int) (t:Int)then decide (vB (z t)=xK (!wh))||decide ((t:Int)=b)
 else decide (f%8=t%8)&&decide (z t=46)&&DC z wh f t
def EE(z:Nat->UInt8)(wh:Bool)(fc:Nat->Bool)(k f t:Nat)(u:UInt8):Bool :=
 if xS (zI z) k (xK wh) (f:Int) (t:Int)then true
 else decide (k=5)&&decide (0<=zK wh fc f t u)&&km z (zK wh fc f t u).toNat
def j9(z:Nat->UInt8)(wh:Bool)(fc:Nat->Bool)(b:Int)(f t:Nat)(u:UInt8):Bool :=
 decide (vB (z f)=xK wh)&&!decide (vB (z t)=xK wh)&&(decide (u≠0)==(decide (vE (z f)=0)&&zO t))&&(if vE (z f)=0 then BD z wh b f t else EE z wh fc (vE (z f)).toNat f t u)
def U5:List UInt8:=[0,98,110,113,114]
theorem mh:∀t,t<64->kP.getLsbD t=zO t:=by decide +kernel
theorem pg{p:Bool}{f t:Nat}(ht:t<64){u:UInt8}(hu:u∈U5):(f,t,u)∈xT p f t↔(decide (u≠0)==(p&&zO t))=true:=by
 unfold xT;rw[mh t ht];unfold U5 at hu;simp only[List.mem_cons,List.not_mem_nil,or_false]at hu;cases p&&zO t
 ·rw[qF (by simp)];rcases hu with rfl|rfl|rfl|rfl|rfl<;>simp
 ·rw[qI rfl];rcases hu with rfl|rfl|rfl|rfl|rfl<;>simp
theorem ro{c:UInt8}{wh:Bool}{i:Nat}(hi:i<6)(h:jB c=((bg wh+i:Nat):Int)):vE c=(i:Int):=by
 unfold vE;rw[h];unfold bg;cases wh
 ·simp only[qR,if_false];rw[qI (by omega)];omega
 ·simp only[if_true];rw[qF (by omega)];omega
theorem ir{z:Nat->UInt8}{wh:Bool}{f t:Nat}(hf:f<64)(_ht:t<64)(hr:¬ (f/8=0\/f/8=7)):(decide (f%8=t%8)&&decide (z t=46)&&DC z wh f t)=true↔oB z wh f t:=by
 unfold DC uI oB vQ;simp only[qH,Bool.or_eq_true,qG];cases wh
 ·have e1:fw false f 1=f-8:=rfl;have e2:fw false f 2=f-16:=rfl;rw[e1,e2];simp only[xK,qR,if_false];constructor
  ·rintro⟨⟨h1,h2⟩,h3|⟨⟨h3,h4⟩,h5⟩⟩
   ·have:t=f-8:=by omega
    exact .inl ⟨this,by rw[<-this];exact h2⟩
   ·have:t=f-16:=by omega
    exact .inr ⟨h4,this,h5,by rw[<-this];exact h2⟩
  ·rintro(⟨h1,h2⟩|⟨h1,h2,h3,h4⟩)
   ·exact⟨⟨by omega,by rw[h1];exact h2⟩,.inl (by omega)⟩
   ·exact⟨⟨by omega,by rw[h2];exact h4⟩,.inr ⟨⟨by omega,h1⟩,h3⟩⟩
 ·have e1:fw true f 1=f+8:=rfl;have e2:fw true f 2=f+16:=rfl;rw[e1,e2];simp only[xK,if_true];constructor
  ·rintro⟨⟨h1,h2⟩,h3|⟨⟨h3,h4⟩,h5⟩⟩
   ·have:t=f+8:=by omega
    exact .inl ⟨this,by rw[<-this];exact h2⟩
   ·have:t=f+16:=by omega
    exact .inr ⟨h4,this,h5,by rw[<-this];exact h2⟩
  ·rintro(⟨h1,h2⟩|⟨h1,h2,h3,h4⟩)
   ·exact⟨⟨by omega,by rw[h1];exact h2⟩,.inl (by omega)⟩
   ·exact⟨⟨by omega,by rw[h2];exact h4⟩,.inr ⟨⟨by omega,h1⟩,h3⟩⟩
theorem DN{z:Nat->UInt8}{wh:Bool}{f t:Nat}(hr:¬ (f/8=0\/f/8=7))(h:oB z wh f t):z t=46/\xS (zI z) 0 (xK wh) (f:Int) (t:Int)=false:=by
 have e:t%8=f%8:=by
  unfold oB vQ fw at h;cases wh<;>simp at h<;>omega
 refine⟨?_,?_⟩
 ·rcases h with⟨h1,h2⟩|⟨_,h1,_,h2⟩
  ·rw[h1];exact h2
  ·rw[h1];exact h2
 ·cases ha:xS (zI z) 0 (xK wh) (f:Int) (t:Int)with
  | false=>rfl
  | true=>exact absurd (by omega) (qze ha)
theorem dq:∀i,i<4->xY i=((hK i:Nat):Int)/\vN i=((xE i:Nat):Int)/\zD i=((hR i:Nat):Int):=by decide +kernel
theorem tY{z:Nat->UInt8}{i:Nat}(hi:i<4):nB z i=wn z (hK i) (hD i) (hN i):=by
 have z46:∀n,(((z n).toNat:Int)=46)↔(z n==46)=true:=fun n=>by
  constructor
  ·intro h;have:z n=46:=uc h rfl;simp[this]
  ·intro h;have:z n=46:=by simpa using h
   rw[this];rfl
 unfold nB freeI wn;rw[Bool.eq_iff_iff,qG,qW];have hc:i=0\/i=1\/i=2\/i=3:=by omega
 constructor
 ·intro h j hj;have hj:=qK.1 hj;rw[<-z46]
  have e:kC (hK i) (hD i) (j+1)=(ll i (j+1)).toNat:=by
   unfold kC ll xY hD hK;rcases hc with rfl|rfl|rfl|rfl<;>simp<;>omega
  rw[e];refine h (j+1) ?_ (by omega);unfold hN at hj;unfold AR;rcases hc with rfl|rfl|rfl|rfl<;>simp at hj ⊢<;>omega
 ·intro h j hj h1
  have:=h (j-1) (qK.2 (by
   unfold AR at hj;unfold hN;rcases hc with rfl|rfl|rfl|rfl<;>simp at hj ⊢<;>omega))
  rw[<-z46]at this;rw[<-this]
  have e:kC (hK i) (hD i) (j-1+1)=(ll i j).toNat:=by
   unfold kC ll xY hD hK;rcases hc with rfl|rfl|rfl|rfl<;>simp<;>omega
  rw[e]
theorem Fx{z:Nat->UInt8}(hok:xO z=true){i:Nat}(hi:i<4):km z i=az z (decide (i<2)) (hK i) (hD i) (hN i):=by
 unfold km az;rw[tY hi];unfold DD;have e3:∀p:Nat->Bool,(List.range 3).all p=(p 0&&(p 1&&(p 2&&true))):=fun p=>rfl
 rw[e3];have key:∀j,j<3->vL z (kC (hK i) (hD i) j) (!decide (i<2))=zM z (((kC (hK i) (hD i) j:Nat)):Int) (!decide (i<2)):=fun j hj=>jk hok (eD i hi j (by omega) (by unfold hN;split<;>omega)) _
 rw[key 0 (by omega),key 1 (by omega),key 2 (by omega)]
 have q:xY i=((kC (hK i) (hD i) 0:Nat):Int)/\(xY i+vN i).tdiv 2=((kC (hK i) (hD i) 1:Nat):Int)/\vN i=((kC (hK i) (hD i) 2:Nat):Int):=by
  have hc:i=0\/i=1\/i=2\/i=3:=by omega
  rcases hc with rfl|rfl|rfl|rfl<;>decide
 rw[<-q.1,<-q.2.1,<-q.2.2];cases wn z (hK i) (hD i) (hN i)<;>cases zM z (xY i) (!decide (i<2))<;>cases zM z ((xY i+vN i).tdiv 2) (!decide (i<2))<;>cases zM z (vN i) (!decide (i<2))<;>rfl
theorem zv{wh:Bool}{fc:Nat->Bool}{f t:Nat}{i:Nat}(hi:i<4):jZ wh fc f t 0 i=true↔fc i=true/\wh=decide (i<2)/\f=hK i/\t=xE i:=by
 obtain⟨e1,e2,_⟩:=dq i hi;unfold jZ;rw[e1,e2];simp only[qH,beq_iff_eq];constructor
 ·rintro⟨⟨⟨⟨h1,h2⟩,h3⟩,h4⟩,_⟩;refine⟨h1,?_,by omega,by omega⟩
  revert h2
  cases wh<;>cases decide (i<2)<;>simp[xK]
 ·rintro⟨h1,h2,h3,h4⟩;exact⟨⟨⟨⟨h1,by rw[h2]⟩,by omega⟩,by omega⟩,rfl⟩
theorem Fv{z:Nat->UInt8}{wh:Bool}{fc:Nat->Bool}{f t:Nat}:(decide (0<=zK wh fc f t 0)&&km z (zK wh fc f t 0).toNat)=true↔∃i,i<4/\wh=decide (i<2)/\fc i=true/\f=hK i/\t=xE i/\km z i=true/\zK wh fc f t 0=(i:Int):=by
 have hu:zK wh fc f t 0=if jZ wh fc f t 0 0 then 0 else if jZ wh fc f t 0 1 then 1 else if jZ wh fc f t 0 2 then 2 else if jZ wh fc f t 0 3 then 3 else -1:=rfl;constructor
 ·intro h;rw[qH,qG]at h;obtain⟨h1,h2⟩:=h
  have go:∀i,i<4->jZ wh fc f t 0 i=true->zK wh fc f t 0=(i:Int)->∃i,i<4/\wh=decide (i<2)/\fc i=true/\f=hK i/\t=xE i/\km z i=true/\zK wh fc f t 0=(i:Int):=fun i hi hc he=>by
   obtain⟨a1,a2,a3,a4⟩:=(zv hi).1 hc;rw[he]at h2;exact⟨i,hi,a2,a1,a3,a4,h2,he⟩
  by_cases c0:jZ wh fc f t 0 0=true
  ·exact go 0 (by omega) c0 (by rw[hu,qI c0];rfl)
  ·by_cases c1:jZ wh fc f t 0 1=true
   ·exact go 1 (by omega) c1 (by rw[hu,qF c0,qI c1];rfl)
   ·by_cases c2:jZ wh fc f t 0 2=true
    ·exact go 2 (by omega) c2 (by rw[hu,qF c0,qF c1,qI c2];rfl)
    ·by_cases c3:jZ wh fc f t 0 3=true
     ·exact go 3 (by omega) c3 (by rw[hu,qF c0,qF c1,qF c2,qI c3];rfl)
     ·rw[hu,qF c0,qF c1,qF c2,qF c3]at h1;omega
 ·rintro⟨i,hi,a1,a2,a3,a4,a5,a6⟩;rw[a6,qH,qG];exact⟨by omega,a5⟩
theorem lQ{wh:Bool}{fc:Nat->Bool}{f t i:Nat}(hi:i<4)(h1:fc i=true)(h2:wh=decide (i<2))(h3:f=hK i)(h4:t=xE i):zK wh fc f t 0=(i:Int):=by
 have hu:zK wh fc f t 0=if jZ wh fc f t 0 0 then 0 else if jZ wh fc f t 0 1 then 1 else if jZ wh fc f t 0 2 then 2 else if jZ wh fc f t 0 3 then 3 else -1:=rfl;have hp:jZ wh fc f t 0 i=true:=(zv hi).2 ⟨h1,h2,h3,h4⟩
 have hn:∀j,j<4->j≠i->¬ jZ wh fc f t 0 j=true:=fun j hj hne h=>by
  have:=((zv hj).1 h).2.2.2;rw[h4]at this
  revert this
  unfold xE;have hc:i=0\/i=1\/i=2\/i=3:=by omega
  have hd:j=0\/j=1\/j=2\/j=3:=by omega
  rcases hc with rfl|rfl|rfl|rfl<;>rcases hd with rfl|rfl|rfl|rfl<;>simp at hne ⊢
 rw[hu];have hc:i=0\/i=1\/i=2\/i=3:=by omega
 rcases hc with rfl|rfl|rfl|rfl
 ·rw[qI hp];rfl
 ·rw[qF (hn 0 (by omega) (by omega)),qI hp];rfl
 ·rw[qF (hn 0 (by omega) (by omega)),qF (hn 1 (by omega) (by omega)),qI hp];rfl
 ·rw[qF (hn 0 (by omega) (by omega)),qF (hn 1 (by omega) (by omega)),qF (hn 2 (by omega) (by omega)),qI hp];rfl
theorem tc{z:Nat->UInt8}{wh:Bool}{fc:Nat->Bool}{b:Int}(hC:kJ z wh fc b){f t:Nat}(hf:f<64)(hc:jB (z f)=((bg wh+5:Nat):Int)):t∈uz z wh fc f++pA z wh fc f↔(decide (0<=zK wh fc f t 0)&&km z (zK wh fc f t 0).toNat)=true:=by
 obtain⟨k1,k2⟩:=FK hC hf hc;rw[Fv,List.mem_append];have e:(hK (jC wh)+2=xE (jC wh)/\hD (jC wh)=1/\hN (jC wh)=2/\jC wh<4/\decide (jC wh<2)=wh)/\(hK (jC wh+1)-2=xE (jC wh+1)/\hD (jC wh+1)=-1/\hN (jC wh+1)=3/\jC wh+1<4/\decide (jC wh+1<2)=wh):=by cases wh<;>decide
 obtain⟨⟨a1,a2,a3,a4,a5⟩,⟨b1,b2,b3,b4,b5⟩⟩:=e;constructor
 ·rintro(h|h)
  ·unfold uz at h;split at h
   ·rename_i hh;rw[qH]at hh;have hfe:=k1 hh.1;have ht:t=xE (jC wh):=by rw[qT.1 h,<-a1,<-hfe]
    exact⟨jC wh,a4,a5.symm,hh.1,hfe,ht,by rw[Fx hC.ok a4,a5,a2,a3,<-hfe];exact hh.2,lQ a4 hh.1 a5.symm hfe ht⟩
   ·cases h
  ·unfold pA at h;split at h
   ·rename_i hh;rw[qH]at hh;have hfe:=k2 hh.1;have ht:t=xE (jC wh+1):=by rw[qT.1 h,<-b1,<-hfe]
    exact⟨jC wh+1,b4,b5.symm,hh.1,hfe,ht,by rw[Fx hC.ok b4,b5,b2,b3,<-hfe];exact hh.2,lQ b4 hh.1 b5.symm hfe ht⟩
   ·cases h
 ·rintro⟨i,hi,h1,h2,h3,h4,h5,_⟩;rw[Fx hC.ok hi,<-h1]at h5
  have:i=jC wh\/i=jC wh+1:=by
   have hh:i=0\/i=1\/i=2\/i=3:=by omega
   rcases hh with rfl|rfl|rfl|rfl<;>(subst h1;decide)
  rcases this with rfl|rfl
  ·left;unfold uz;rw[a2,a3,<-h3]at h5;rw[qI (by rw[h2,h5];rfl),h4,<-a1,h3];exact qT.2 rfl
  ·right;unfold pA;rw[b2,b3,<-h3]at h5;rw[qI (by rw[h2,h5];rfl),h4,<-b1,h3];exact qT.2 rfl
theorem qjy{z:Nat->UInt8}{wh:Bool}{fc:Nat->Bool}{b:Int}(hC:kJ z wh fc b){f t:Nat}{u:UInt8}(hf:f<64)(ht:t<64)(hu:u∈U5) :
  j9 z wh fc b f t u=true↔∃i,i<6/\jB (z f)=((bg wh+i:Nat):Int)/\t∈yF z wh fc b f/\(f,t,u)∈xT (decide (i=0)) f t:=by
 have hokt:=ji hC.ok ht;by_cases hco:vB (z f)=xK wh
 case neg =>
  constructor
  ·intro h;unfold j9 at h;rw[qE hco]at h;simp at h
  ·rintro⟨i,hi,hc,_⟩;exact absurd (ja hi hc) hco
 obtain⟨i,hi,hc,_⟩:=zq hco;have hk:=ro hi hc;obtain⟨hp,hkg⟩:=zj hi hc
 have uniq:(∃i,i<6/\jB (z f)=((bg wh+i:Nat):Int)/\t∈yF z wh fc b f/\(f,t,u)∈xT (decide (i=0)) f t)↔(t∈yF z wh fc b f/\(f,t,u)∈xT (decide (i=0)) f t):=by
  constructor
  ·rintro⟨j,hj,e,h⟩;have:j=i:=by rw[hc]at e;omega
   rw[this]at h;exact h
  ·intro h;exact⟨i,hi,hc,h⟩
 rw[uniq,pg ht hu];unfold j9;rw[qJ hco,hk,Bool.true_and,qH,qH]
 have e0:decide ((i:Int)=0)=decide (i=0):=by
  by_cases h:i=0
  ·simp[h]
  ·rw[qE h,qE (by omega)]
 rw[e0]
 have key:∀(hU:(decide (u≠0)==(decide (i=0)&&zO t))=true),((!decide (vB (z t)=xK wh))=true/\(if(i:Int)=0 then BD z wh b f t else EE z wh fc (i:Int).toNat f t u)=true)↔t∈yF z wh fc b f:=by
  intro hU;rw[Bool.not_eq_true',qX];unfold yF;rw[List.mem_append,qV,Dq hf hi hc ht,hp,hkg];unfold yG;rw[hp,rt hokt,rt hokt];by_cases i0:i=0
  ·subst i0;have hr:=hC.pw wh f hf hc;rw[qJ rfl,qI rfl,qI rfl,qI (show((0:Nat):Int)=0 from rfl),Fq hf hr];unfold BD;rw[Bool.or_eq_true,beq_iff_eq,qG];cases ha:xS (zI z) 0 (xK wh) (f:Int) (t:Int)with
   | true =>
    rw[qI rfl,Bool.or_eq_true,qG,qG];constructor
    ·rintro⟨_,h|h⟩
     ·exact .inl ⟨rfl,.inr h⟩
     ·exact .inl ⟨rfl,.inl h⟩
    ·rintro(⟨_,h|h⟩|h)
     ·exact⟨by rw[(lT hC.beh h).1];exact rq _,.inr h⟩
     ·exact⟨by rw[h];exact fun e=>BC wh e.symm,.inl h⟩
     ·rw[(DN hr h).2]at ha;cases ha
   | false =>
    rw[qF (by simp),ir hf ht hr];constructor
    ·rintro⟨_,h⟩;exact .inr h
    ·rintro(⟨h,_⟩|h)
     ·cases h
     ·exact⟨by rw[(DN hr h).1];exact rq _,h⟩
  ·rw[qE i0,qF (by omega),qF (by simp),qF (by simp),Int.toNat_natCast,Bool.not_eq_true',qX];unfold EE;by_cases i5:i=5
   ·subst i5
    have u0:u=0:=by
     rw[beq_iff_eq]at hU;have:decide (u≠0)=false:=hU;simpa using this
    subst u0;rw[qJ rfl,qI rfl,tc hC hf hc,Bool.true_and];cases ha:xS (zI z) 5 (xK wh) (f:Int) (t:Int)with
    | true =>
     rw[qI rfl];constructor
     ·rintro⟨h,_⟩;exact .inl ⟨rfl,h⟩
     ·rintro(⟨_,h⟩|h)
      ·exact⟨h,rfl⟩
      ·obtain⟨ci,hci,c1,c2,c3,c4,c5,_⟩:=Fv.1 h;rw[Fx hC.ok hci,<-c1]at c5;have hcas:=cJ hC hci c1 c2 c5;refine⟨?_,rfl⟩;rw[c4,hcas.dot (pB ci hci).1];exact rq _
    | false =>
     rw[qF (by simp)];constructor
     ·rintro⟨_,h⟩;exact .inr h
     ·rintro(⟨h,_⟩|h)
      ·cases h
      ·refine⟨?_,h⟩;obtain⟨ci,hci,c1,c2,c3,c4,c5,_⟩:=Fv.1 h;rw[Fx hC.ok hci,<-c1]at c5;have hcas:=cJ hC hci c1 c2 c5;rw[c4,hcas.dot (pB ci hci).1];exact rq _
   ·rw[qE i5];cases ha:xS (zI z) i (xK wh) (f:Int) (t:Int)with
    | true=>simp
    | false=>simp
 constructor
 ·rintro⟨⟨h1,h2⟩,h3⟩;exact⟨(key h2).1 ⟨h1,h3⟩,h2⟩
 ·rintro⟨h1,h2⟩;have:=(key h2).2 h1;exact⟨⟨this.1,h2⟩,this.2⟩
section
attribute [local go_sem] qd qe
def uP(z:Nat->UInt8)(b:Int)(f t:Nat):Bool:=decide (vE (z f)=0)&&decide ((t:Int)=b)&&decide (f%8≠t%8)
def dP(u:UInt8):Nat:=if u=110 then 1 else if u=98 then 2 else if u=114 then 3 else 4
def wC(z:Nat->UInt8)(b:Int)(f t:Nat):Nat->UInt8:=if uP z b f t then vW z (f/8*8+t%8) 46 else z
def CY(z:Nat->UInt8)(b:Int)(f t:Nat):Nat->UInt8:=vW (vW (wC z b f t) t (z f)) f 46
def n9(z:Nat->UInt8)(wh:Bool)(b:Int)(f t:Nat)(u:UInt8):Nat->UInt8:=if u=0 then CY z b f t else vW (CY z b f t) t (yP (dP u) wh)
def sm(z:Nat->UInt8)(wh:Bool)(fc:Nat->Bool)(f t:Nat)(u:UInt8):Bool:=decide (vE (z f)=5)&&decide (0<=zK wh fc f t u)
def ua(z:Nat->UInt8)(wh:Bool)(fc:Nat->Bool)(b:Int)(f t:Nat)(u:UInt8):Nat->UInt8:=if sm z wh fc f t u then vW (vW (n9 z wh b f t u) (zD (zK wh fc f t u).toNat).toNat 46) ((f+t)/2) (yP 3 wh)else n9 z wh b f t u
theorem jE.castle{z:Nat->UInt8}{wh:Bool}{fc fc':Nat->Bool}{b h g:Int}{Q:Array Value}(r:jE z wh fc b h g Q)(e:∀i,i<4->fc i=fc' i):jE z wh fc' b h g Q :=
 ⟨r.size,r.sq,r.wh,fun i hi=>by rw[<-e i hi];exact r.c i hi,r.b,r.h,r.g⟩
end
theorem BG:∀wh:Bool,∀u∈[98,110,113,114],yP (dP u) wh=yH (yQ (bg wh)) u:=by decide +kernel
theorem cI:∀i,i<4->xE i=hK i+2\/xE i+2=hK i:=by decide +kernel
theorem wB{z:Nat->UInt8}{b:Int}{f t:Nat}(h:uP z b f t=false):wC z b f t=z:=by
 unfold wC;rw[h];rfl
theorem pC{z:Nat->UInt8}{wh:Bool}{fc:Nat->Bool}{b:Int}(hC:kJ z wh fc b){i f t:Nat}{u:UInt8}(hi:i<6)(hf:f<64)(ht:t<64)(hc:jB (z f)=((bg wh+i:Nat):Int))(hm:t∈yF z wh fc b f)(hu:(f,t,u)∈xT (decide (i=0)) f t):ua z wh fc b f t u=zE z b (f,t,u):=by
 have hkd:=ro hi hc;obtain⟨u',e,u0,u1⟩:=wX hu;have:u=u':=by injection e with _ e;injection e
 subst this;rcases ko hC hi hf ht hc hm hu with⟨hP,kg⟩|⟨ci,hK',e1,e2,e3,e4⟩
 ·have hkc:sm z wh fc f t u=false:=by
   cases hx:sm z wh fc f t u with
   | false=>rfl
   | true =>
    unfold sm at hx;rw[qH,qG,qG,hkd]at hx;have i5:i=5:=by omega
    have hu0:=u0 (qE (by omega));subst hu0;have hx2:=hx.2
    have hall:∀j,j<4->jZ wh fc f t 0 j=true->False:=fun j hj h=>by
     obtain⟨_,_,a3,a4⟩:=(zv hj).1 h;have:=kg i5;have:=cI j hj;omega
    have hun:zK wh fc f t 0=if jZ wh fc f t 0 0 then 0 else if jZ wh fc f t 0 1 then 1 else if jZ wh fc f t 0 2 then 2 else if jZ wh fc f t 0 3 then 3 else -1:=rfl;rw[hun,qF (hall 0 (by omega)),qF (hall 1 (by omega)),qF (hall 2 (by omega)),qF (hall 3 (by omega))]at hx2;omega
  have hB:=iq hP kg;funext n;rw[hB n];unfold ua;rw[hkc,qF (by simp)];have hft:=hP.ft
  have h2:CY z b f t n=if n=t then z f else if n=f then 46 else if n=wu wh b i t then 46 else z n:=by
   unfold CY vW;by_cases c1:n=f
   ·rw[qI c1,qF (fun e=>hft (c1.symm.trans e)),qI c1]
   ·rw[qF c1,qF c1];by_cases c2:n=t
    ·rw[qI c2,qI c2]
    ·rw[qF c2,qF c2];by_cases hep:i=0/\(t:Int)=b
     ·obtain⟨q1,q2⟩:=hep;obtain⟨_,_,e3,_,_⟩:=hP.ep q1 q2;have hcf:=hP.cf
      have hpas:uP z b f t=true:=by
       unfold uP;rw[hkd,q1,qJ q2,qJ (show f%8≠t%8 from fun e=>hcf (by rw[e3,<-e];omega))];rfl
      unfold wC;rw[hpas,qI rfl,<-e3];rfl
     ·have hpas:uP z b f t=false:=by
       cases hx:uP z b f t with
       | false=>rfl
       | true =>
        unfold uP at hx;rw[qH,qH,qG,qG,hkd]at hx;exact absurd ⟨by omega,hx.1.2⟩ hep
      rw[wB hpas,hP.nep hep,qF c2]
  unfold n9;by_cases hu0:u=0
  ·rw[qI hu0,h2,hu0];rfl
  ·rw[qF hu0];unfold vW
   have i0:i=0:=by
    by_cases k:i=0
    ·exact k
    ·exact absurd (u0 (qE k)) hu0
   have hz:=jn (by cases wh<;>decide) (show jB (z f)=((bg wh:Nat):Int) by rw[hc,i0];rfl)
   by_cases c2:n=t
   ·rw[qI c2,qI c2,hz];refine BG wh u ?_;rcases u1 with e|e|e|e|e
    ·exact absurd e hu0
    ·rw[e];simp
    ·rw[e];simp
    ·rw[e];simp
    ·rw[e];simp
   ·rw[qF c2,h2,qF c2,qF c2]
 ·subst e3 e4;have hkg:=zj hi hc
  have hmem:t∈uz z wh fc f++pA z wh fc f:=by
   unfold yF at hm;rw[List.mem_append,qV,hkg.1,hkg.2]at hm;rcases hm with⟨hm,_⟩|hm
   ·rw[Dq hf hi hc ht]at hm;have:=(qx8 hm).1;rw[FI _ 5 (by omega) _ 1]at this;have:=qxv f hf t ht this;have:=cI ci hK'.hi;omega
   ·rw[qE (show ¬ (5:Nat)=0 by omega),qF (by simp),qJ rfl,qI rfl]at hm;exact hm
  obtain⟨cj,hj,j1,j2,j3,j4,j5,j6⟩:=Fv.1 ((tc hC hf hc).1 hmem);obtain⟨hp,hk⟩:=zj hi hc
  have hkc:sm z wh fc f t 0=true:=by
   unfold sm;rw[hkd,j6,qJ (show(0:Int)<=(cj:Int) by omega)];rfl
  have hpas:uP z b f t=false:=by
   unfold uP;rw[hkd];rfl
  have hrook:yP 3 wh=z (hR cj):=by
   have hcc:cj=0\/cj=1\/cj=2\/cj=3:=by omega
   subst j1;rcases hcc with rfl|rfl|rfl|rfl
   ·rw[show z (hR 0)=82 from(hC.c0 j2).2];rfl
   ·rw[show z (hR 1)=82 from(hC.c1 j2).2];rfl
   ·rw[show z (hR 2)=114 from(hC.c2 j2).2];rfl
   ·rw[show z (hR 3)=114 from(hC.c3 j2).2];rfl
  obtain⟨f1,f2,f3,f4,f5,f6,f7,f8,f9,f10,f11,f12,f13,f14,f15,f16,f17⟩:=zi cj hj
  have hmid:(f+t)/2=rN cj:=by
   have hcc:cj=0\/cj=1\/cj=2\/cj=3:=by omega
   rw[j3,j4];rcases hcc with rfl|rfl|rfl|rfl<;>rfl
  have hhr:(zD cj).toNat=hR cj:=by rw[(dq cj hj).2.2];rfl
  funext n;have hat:=FB (z:=z) (b:=b) hj (by rw[<-j3,hp];rfl) (by rw[<-j3,hk];rfl) n;rw[<-j3,<-j4]at hat;rw[hat];unfold ua;rw[hkc,qI rfl,j6,Int.toNat_natCast,hhr,hmid,hrook];unfold n9 CY;rw[qI rfl,wB hpas];unfold vW;by_cases c1:n=hR cj
  ·rw[qF (fun e=>f17 (e.symm.trans c1)),qI c1,qI c1]
  ·rw[qF c1,qF c1];by_cases c2:n=rN cj
   ·rw[qI c2,qI c2]
   ·rw[qF c2,qF c2];by_cases c3:n=t
    ·rw[qI c3,qI c3,qF (fun e=>f12 (by rw[<-j4,<-j3];exact c3.symm.trans e))]
    ·rw[qF c3,qF c3]
theorem F9{z:Nat->UInt8}{wh:Bool}{fc:Nat->Bool}{b:Int}(hC:kJ z wh fc b){i f t:Nat}{u:UInt8}(hi:i<6)(hf:f<64)(ht:t<64)(hc:jB (z f)=((bg wh+i:Nat):Int))(hm:t∈yF z wh fc b f)(hu:(f,t,u)∈xT (decide (i=0)) f t):xO (zE z b (f,t,u))=true:=by
 rcases ko hC hi hf ht hc hm hu with⟨hP,kg⟩|⟨ci,hK',e1,e2,e3,e4⟩
 ·exact okZ hP (iq hP kg) hC.ok
 ·subst e1 e2 e3 e4;obtain⟨hp,hk⟩:=zj hi hc;obtain⟨f1,f2,f3,f4,_⟩:=zi ci hK'.hi;refine Fy fun n hn=>?_
  rw[FB hK'.hi (by rw[hp];rfl) (by rw[hk];rfl)];split
  ·rfl
  ·split
   ·exact ji hC.ok f3
   ·split
    ·exact ji hC.ok f1
    ·split
     ·rfl
     ·exact ji hC.ok hn
def vo(z:Nat->UInt8)(wh:Bool)(fc:Nat->Bool)(b:Int)(f t:Nat)(u:UInt8):Bool:=j9 z wh fc b f t u&&!(zM (ua z wh fc b f t u) (xR (ua z wh fc b f t u) wh) (!wh))
theorem C8{z:Nat->UInt8}{wh:Bool}{fc:Nat->Bool}{b:Int}(hC:kJ z wh fc b)(h0:-1<=b)(h1:b<=63){f t:Nat}{u:UInt8}(hf:f<64)(ht:t<64)(hu:u∈U5):vo z wh fc b f t u=true↔(f,t,u)∈yo z wh fc b:=by
 unfold vo yo;rw[qH,qjy hC hf ht hu,qV,Ay hC]
 have key:∀i,i<6->jB (z f)=((bg wh+i:Nat):Int)->t∈yF z wh fc b f->(f,t,u)∈xT (decide (i=0)) f t->(!(zM (ua z wh fc b f t u) (xR (ua z wh fc b f t u) wh) (!wh)))=uS z wh b (f,t,u):=fun i hi hc hm htu=>by
  obtain⟨y,hy,e⟩:=(jy hC h0 h1 hi hf ht hc hm htu).1;unfold uS;rw[pC hC hi hf ht hc hm htu,e,Int.toNat_natCast,jk (F9 hC hi hf ht hc hm htu) hy]
 constructor
 ·rintro⟨⟨i,hi,hc,hm,htu⟩,h⟩;rw[key i hi hc hm htu]at h;exact⟨⟨i,f,t,u,rfl,hi,hf,ht,hc,hm,htu⟩,h⟩
 ·rintro⟨⟨i,f',t',u',e,hi,_,_,hc,hm,htu⟩,h⟩;have e1:f=f':=by injection e
  have e2:t=t':=by injection e with _ e;injection e
  have e3:u=u':=by injection e with _ e;injection e
  subst e1 e2 e3;exact⟨⟨i,hi,hc,hm,htu⟩,by rw[key i hi hc hm htu];exact h⟩
def pQ(i:Nat):Nat:=i%8*8+i/8
def ED(z:Nat->UInt8)(f t:Nat):Nat:=if vE (z f)=0/\zO t=true then 5 else 1
def kr(z:Nat->UInt8)(wh:Bool)(fc:Nat->Bool)(b:Int)(f t n:Nat):List Mv:=((U5.take n).filter fun u=>vo z wh fc b f t u).map fun u=>(f,t,u)
def eH(z:Nat->UInt8)(wh:Bool)(fc:Nat->Bool)(b:Int)(f n:Nat):List Mv:=(List.range n).flatMap fun k=>kr z wh fc b f (pQ k) (ED z f (pQ k))
def yE(z:Nat->UInt8)(wh:Bool)(fc:Nat->Bool)(b:Int)(n:Nat):List Mv:=(List.range n).flatMap fun i=>if vB (z (pQ i))=xK wh then eH z wh fc b (pQ i) 64 else[]
end Go.Proofs.YtnfakamfmkhlbabGreatDoor.C
