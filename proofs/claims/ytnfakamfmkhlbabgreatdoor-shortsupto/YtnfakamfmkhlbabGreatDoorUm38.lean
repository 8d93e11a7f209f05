import Derived.Test.YtnfakamfmkhlbabGreatDoorUm21
import Derived.Test.YtnfakamfmkhlbabGreatDoorUm36
import Derived.Test.YtnfakamfmkhlbabGreatDoorUm37
import Derived.Test.YtnfakamfmkhlbabGreatDoorKz2
import Derived.Test.YtnfakamfmkhlbabGreatDoorKz3
set_option maxRecDepth 100000
set_option maxHeartbeats 4000000
set_option linter.unusedSimpArgs false
namespace Go.Proofs.YtnfakamfmkhlbabGreatDoor.C
open Go.Proofs.YtnfakamfmkhlbabGreatDoor.P Go.ChangeShapes Go.WideShapes Go.ChangeAt Go.RowKit Go.Shelf
section
set_option maxRecDepth 100000
structure pZ(z:Nat->UInt8)(wh:Bool)(fc:Nat->Bool)(b:Int)(f t:Nat)(u:UInt8)(i:Nat):Prop where
 hf:f<64
 ht:t<64
 hu:u∈U5
 hi:i<6
 hc:jB (z f)=((bg wh+i:Nat):Int)
 go:j9 z wh fc b f t u=true
 tu:(f,t,u)∈xT (decide (i=0)) f t
theorem um{z:Nat->UInt8}{wh:Bool}{fc:Nat->Bool}{b:Int}(hC:kJ z wh fc b)(h0:-1<=b)(h1:b<=63){f t:Nat}{u:UInt8}(hx:(f,t,u)∈xC z wh fc b):∃i,pZ z wh fc b f t u i:=by
 have h2:(f,t,u)∈ye z wh fc b 64:=(qV.1 ((je hC h0 h1 _).2 hx)).1;obtain⟨i,f',t',u',e,hi,hf,ht,hc,hm,hu⟩:=(Ay hC).1 h2;injection e with e1 e;injection e with e2 e3;subst e1 e2 e3;obtain⟨v,e,_,hv⟩:=wX hu;injection e with _ e;injection e with _ e
 have hu5:u∈U5:=by
  rw[e];rcases hv with rfl|rfl|rfl|rfl|rfl<;>decide
 exact⟨i,hf,ht,hu5,hi,hc,(qjy hC hf ht hu5).2 ⟨i,hi,hc,hm,hu⟩,hu⟩
theorem pZ.u0{z:Nat->UInt8}{wh:Bool}{fc:Nat->Bool}{b:Int}{f t:Nat}{u:UInt8}{i:Nat}(h:pZ z wh fc b f t u i)(hi:i≠0):u=0:=by
 obtain⟨v,e,hv,_⟩:=wX h.tu;injection e with _ e;injection e with _ e;rw[e];exact hv (by simpa using hi)
theorem oR:∀p,p<12->vz (yQ p)=kX (p%6):=by decide +kernel
theorem pZ.cap{z:Nat->UInt8}{wh:Bool}{fc:Nat->Bool}{b:Int}{f t:Nat}{u:UInt8}{i:Nat}(h:pZ z wh fc b f t u i):vz (z f)=kX i:=by
 have hi:=h.hi;have hb:bg wh=0\/bg wh=6:=by cases wh<;>simp[bg]
 rw[jn (p:=bg wh+i) (by omega) h.hc,oR _ (by omega)];congr 1;omega
theorem F4(M:List Mv){z:Nat->UInt8}{wh:Bool}{fc:Nat->Bool}{b:Int}{f t:Nat}{u:UInt8}{i:Nat}(h:pZ z wh fc b f t u i) :
  (i=5/\t=f+2/\jR M z (f,t,u)=[79,45,79])\/(i=5/\t+2=f/\jR M z (f,t,u)=[79,45,79,45,79])\/(i=0/\jR M z (f,t,u)=z7 f t u)\/(i≠0/\jR M z (f,t,u)=zQ M z f t):=by
 obtain⟨e1,e2⟩:=zj h.hi h.hc;unfold jR;simp only[e1,e2,qG];by_cases h5:i=5
 ·by_cases ha:t=f+2
  ·exact .inl ⟨h5,ha,by rw[qI ⟨h5,ha⟩]⟩
  ·by_cases hb:t+2=f
   ·exact .inr (.inl ⟨h5,hb,by rw[qF (fun q=>ha q.2),qI ⟨h5,hb⟩]⟩)
   ·exact .inr (.inr (.inr ⟨by omega,by rw[qF (fun q=>ha q.2),qF (fun q=>hb q.2),qF (by omega)]⟩))
 ·by_cases h0:i=0
  ·exact .inr (.inr (.inl ⟨h0,by rw[qF (fun q=>h5 q.1),qF (fun q=>h5 q.1),qI h0]⟩))
  ·exact .inr (.inr (.inr ⟨h0,by rw[qF (fun q=>h5 q.1),qF (fun q=>h5 q.1),qF h0]⟩))
theorem tM:∀a,a<8->∀b,b<8->UInt8.ofNat (97+a)=UInt8.ofNat (97+b)->a=b:=by decide +kernel
theorem ri:∀a,a<8->∀b,b<8->UInt8.ofNat (49+a)=UInt8.ofNat (49+b)->a=b:=by decide +kernel
theorem gY:∀a,a<8->∀b,b<8->UInt8.ofNat (97+a)≠UInt8.ofNat (49+b):=by decide +kernel
theorem FR:∀a,a<8->∀i,i<6->UInt8.ofNat (97+a)≠kX i/\UInt8.ofNat (97+a)≠79:=by decide +kernel
theorem dO:∀a,a<8->UInt8.ofNat (49+a)≠120/\UInt8.ofNat (49+a)≠43/\UInt8.ofNat (49+a)≠35:=by decide +kernel
theorem E9:∀i,i<6->kX i≠79:=by decide +kernel
theorem CV:∀i,i<6->∀j,j<6->kX i=kX j->i=j:=by decide +kernel
theorem FZ:∀u∈U5,∀v∈U5,u≠0->v≠0->vz u=vz v->u=v:=by decide +kernel
theorem oS:∀u∈U5,vz u≠43/\vz u≠35:=by decide +kernel
theorem gZ{f g:Nat}(h:xA f=xA g):f%8=g%8:=tM _ (by omega) _ (by omega) h
theorem mL{f g:Nat}(hf:f<64)(hg:g<64)(h:xI f=xI g):f/8=g/8:=ri _ (by omega) _ (by omega) h
theorem jw(f t:Nat)(u:UInt8):∃g l,z7 f t u=xA g :: l:=by
 unfold z7;split
 ·exact⟨t,_,rfl⟩
 ·exact⟨f,_,rfl⟩
theorem pZ.pawn{z:Nat->UInt8}{wh:Bool}{fc:Nat->Bool}{b:Int}{f t:Nat}{u:UInt8}(hC:kJ z wh fc b)(h:pZ z wh fc b f t u 0):(f%8≠t%8->((t/8:Nat):Int)-((f/8:Nat):Int)=xK wh)/\(f%8=t%8->oB z wh f t):=by
 have hr:=hC.pw wh f h.hf (by simpa using h.hc);have hk:vE (z f)=0:=by simpa using ro h.hi h.hc
 have hg:=h.go;unfold j9 at hg;rw[qH,qI hk]at hg;have hp:=hg.2;unfold BD at hp;cases ha:xS (zI z) 0 (xK wh) (f:Int) (t:Int)with
 | true =>
  refine⟨fun _=>?_,fun q=>?_⟩
  ·have:=gE ha;omega
  ·exact absurd (show(t:Int)%8=(f:Int)%8 by omega) (qze ha)
 | false =>
  rw[ha]at hp;simp only[qR,if_false]at hp;have hq:=(ir h.hf h.ht hr).1 hp;rw[qH,qH,qG]at hp;exact⟨fun q=>absurd hp.1.1 q,fun _=>hq⟩
theorem lI{z:Nat->UInt8}{wh:Bool}{n i:Nat}(h:jB (z n)=((bg wh+i:Nat):Int)):z n≠46:=fun e=>by
 rw[e,xp]at h;omega
theorem r9{z:Nat->UInt8}{wh:Bool}{fc:Nat->Bool}{b:Int}{f g t:Nat}{u:UInt8}(hC:kJ z wh fc b)(hx:pZ z wh fc b f t u 0)(hy:pZ z wh fc b g t u 0)(hfg:f%8=g%8):f=g:=by
 have hf:=hx.hf;have hg:=hy.hf;have rx:=hC.pw wh f hx.hf (by simpa using hx.hc);have ry:=hC.pw wh g hy.hf (by simpa using hy.hc);by_cases hs:f%8=t%8
 ·have ax:=(hx.pawn hC).2 hs;have ay:=(hy.pawn hC).2 (by omega);have nx:=lI hx.hc;have ny:=lI hy.hc;unfold oB fw vQ at ax ay;cases wh
  ·simp only[qR,if_false,qG]at ax ay;rcases ax with⟨a1,a2⟩|⟨a0,a1,a2,a3⟩<;>rcases ay with⟨c1,c2⟩|⟨c0,c1,c2,c3⟩
   ·omega
   ·exact absurd (by rw[show f=g-8*1 by omega];exact c2) nx
   ·exact absurd (by rw[show g=f-8*1 by omega];exact a2) ny
   ·omega
  ·simp only[if_true,qG]at ax ay;rcases ax with⟨a1,a2⟩|⟨a0,a1,a2,a3⟩<;>rcases ay with⟨c1,c2⟩|⟨c0,c1,c2,c3⟩
   ·omega
   ·exact absurd (by rw[show f=g+8*1 by omega];exact c2) nx
   ·exact absurd (by rw[show g=f+8*1 by omega];exact a2) ny
   ·omega
 ·have ax:=(hx.pawn hC).1 hs;have ay:=(hy.pawn hC).1 (by omega);omega
theorem mQ{f t g s:Nat}{u v:UInt8}(ht:t<64)(hs:s<64)(hu:u∈U5)(hv:v∈U5)(h:z7 f t u=z7 g s v):f%8=g%8/\t=s/\u=v:=by
 have tail:∀{t s:Nat}{u v:UInt8},t<64->s<64->u∈U5->v∈U5->xQ t++(if u=0 then[]else[61,vz u])=xQ s++(if v=0 then[]else[61,vz v])->t=s/\u=v:=by
  intro t s u v ht hs hu hv h;rw[zF,zF]at h;simp only[List.cons_append,List.nil_append,List.cons.injEq]at h;obtain⟨h1,h2,h3⟩:=h;refine⟨Fm _ ht _ hs (by rw[zF,zF,h1,h2]),?_⟩;by_cases a:u=0<;>by_cases c:v=0
  ·rw[a,c]
  ·rw[qI a,qF c]at h3;cases h3
  ·rw[qF a,qI c]at h3;cases h3
  ·rw[qF a,qF c]at h3;simp only[List.cons.injEq,and_true,true_and]at h3;exact FZ u hu v hv a c h3
 unfold z7 at h;rw[qS,qS]at h;by_cases a:f%8=t%8<;>by_cases c:g%8=s%8
 ·rw[qI a,qI c]at h;obtain⟨e1,e2⟩:=tail ht hs hu hv h;exact⟨by rw[a,c,e1],e1,e2⟩
 ·rw[qI a,qF c,zF t]at h;simp only[List.cons_append,List.nil_append,List.cons.injEq]at h;exact absurd h.2.1 (dO (t/8) (by omega)).1
 ·rw[qF a,qI c,zF s]at h;simp only[List.cons_append,List.nil_append,List.cons.injEq]at h;exact absurd h.2.1.symm (dO (s/8) (by omega)).1
 ·rw[qF a,qF c]at h;simp only[List.cons_append,List.nil_append,List.cons.injEq,true_and]at h;obtain⟨e1,e2⟩:=tail ht hs hu hv h.2;exact⟨gZ h.1,e1,e2⟩
theorem lk{L L':List Mv}{f g:Nat}{x y:Mv}(hf:f<64)(hg:g<64)(hx:x.1=f)(hy:y.1=g)(hL:y∈L)(hL':x∈L')(h:iT L f=iT L' g):f=g:=by
 have n1:¬ L.isEmpty=true:=by cases L with|nil=>cases hL|cons a l=>simp
 have n2:¬ L'.isEmpty=true:=by cases L' with|nil=>cases hL'|cons a l=>simp
 unfold iT at h;rw[qF n1,qF n2]at h
 have f1:L.all (fun y=>!decide (y.1%8=f%8))=true->g%8≠f%8:=fun q=>by
  have:=qW.1 q y hL;simpa[hy]using this
 have r1:L.all (fun y=>!decide (y.1/8=f/8))=true->g/8≠f/8:=fun q=>by
  have:=qW.1 q y hL;simpa[hy]using this
 split at h
 ·rename_i q;have q1:=f1 q;split at h
  ·injection h with h _;exact absurd (gZ h).symm q1
  ·split at h
   ·injection h with h _;exact absurd h (gY (f%8) (by omega) (g/8) (by omega))
   ·exact absurd (congrArg List.length h) (by simp[zF])
 ·split at h
  ·rename_i q;have q1:=r1 q;split at h
   ·injection h with h _;exact absurd h.symm (gY (g%8) (by omega) (f/8) (by omega))
   ·split at h
    ·injection h with h _;exact absurd (mL hf hg h).symm q1
    ·exact absurd (congrArg List.length h) (by simp[zF])
  ·split at h
   ·exact absurd (congrArg List.length h) (by simp[zF])
   ·split at h
    ·exact absurd (congrArg List.length h) (by simp[zF])
    ·exact Fm _ hf _ hg h
theorem CI{a c:List UInt8}{t s:Nat}(ht:t<64)(hs:s<64)(h:a++xQ t=c++xQ s):a=c/\t=s:=by
 have:=List.append_inj' h (by rw[zF,zF];rfl);exact⟨this.1,Fm _ ht _ hs this.2⟩
theorem wF{z:Nat->UInt8}{wh:Bool}{fc:Nat->Bool}{b:Int}(hC:kJ z wh fc b)(h0:-1<=b)(h1:b<=63){x y:Mv}(hx:x∈xC z wh fc b)(hy:y∈xC z wh fc b)(h:jR (xC z wh fc b) z x=jR (xC z wh fc b) z y):x=y:=by
 obtain⟨f,t,u⟩:=x;obtain⟨g,s,v⟩:=y;obtain⟨i,lx⟩:=um hC h0 h1 hx;obtain⟨j,ly⟩:=um hC h0 h1 hy;have kg:i=5->j=5->f=g:=fun a c=>FO (hC.k1 wh) lx.hf ly.hf (by rw[<-a];exact lx.hc) (by rw[<-c];exact ly.hc)
 have ux:i≠0->u=0:=lx.u0;have uy:j≠0->v=0:=ly.u0;have hi:=lx.hi;have hj:=ly.hi;rcases F4 (xC z wh fc b) lx with⟨a1,a2,a3⟩|⟨a1,a2,a3⟩|⟨a1,a3⟩|⟨a1,a3⟩<;>rcases F4 (xC z wh fc b) ly with⟨c1,c2,c3⟩|⟨c1,c2,c3⟩|⟨c1,c3⟩|⟨c1,c3⟩<;>rw[a3,c3]at h
 ·rw[kg a1 c1,show t=s by have:=kg a1 c1;omega,ux (by omega),uy (by omega)]
 ·cases h
 ·obtain⟨q,l,e⟩:=jw g s v;rw[e]at h;injection h with h _;exact absurd h.symm (FR (q%8) (by omega) 0 (by omega)).2
 ·unfold zQ at h;rw[ly.cap]at h;injection h with h _;exact absurd h.symm (E9 j hj)
 ·cases h
 ·rw[kg a1 c1,show t=s by have:=kg a1 c1;omega,ux (by omega),uy (by omega)]
 ·obtain⟨q,l,e⟩:=jw g s v;rw[e]at h;injection h with h _;exact absurd h.symm (FR (q%8) (by omega) 0 (by omega)).2
 ·unfold zQ at h;rw[ly.cap]at h;injection h with h _;exact absurd h.symm (E9 j hj)
 ·obtain⟨q,l,e⟩:=jw f t u;rw[e]at h;injection h with h _;exact absurd h (FR (q%8) (by omega) 0 (by omega)).2
 ·obtain⟨q,l,e⟩:=jw f t u;rw[e]at h;injection h with h _;exact absurd h (FR (q%8) (by omega) 0 (by omega)).2
 ·obtain⟨e1,e2,e3⟩:=mQ lx.ht ly.ht lx.hu ly.hu h;subst a1 c1 e2 e3;rw[r9 hC lx ly e1]
 ·obtain⟨q,l,e⟩:=jw f t u;unfold zQ at h;rw[e,ly.cap]at h;injection h with h _;exact absurd h (FR (q%8) (by omega) j hj).1
 ·unfold zQ at h;rw[lx.cap]at h;injection h with h _;exact absurd h (E9 i hi)
 ·unfold zQ at h;rw[lx.cap]at h;injection h with h _;exact absurd h (E9 i hi)
 ·obtain⟨q,l,e⟩:=jw g s v;unfold zQ at h;rw[e,lx.cap]at h;injection h with h _;exact absurd h.symm (FR (q%8) (by omega) i hi).1
 ·unfold zQ at h;injection h with ha hb;rw[lx.cap,ly.cap]at ha;have hij:=CV i hi j hj ha;obtain⟨hb,e⟩:=CI lx.ht ly.ht hb;subst hij e;have hb':=(List.append_inj' hb rfl).1
  have hz:z f=z g:=by
   have hb2:bg wh=0\/bg wh=6:=by cases wh<;>simp[bg]
   rw[jn (p:=bg wh+i) (by omega) lx.hc,jn (p:=bg wh+i) (by omega) ly.hc]
  have eu:=ux a1;have ev:=uy a1;subst eu ev;by_cases hne:f=g
  ·rw[hne]
  ·have:=lk (x:=(f,t,0)) (y:=(g,t,0)) lx.hf ly.hf rfl rfl (L:=jX (xC z wh fc b) z f t) (L':=jX (xC z wh fc b) z g t)
    (qV.2 ⟨hy,by simp[hz,Ne.symm hne]⟩) (qV.2 ⟨hx,by simp[hz,hne]⟩) hb'
   exact absurd this hne
theorem gl(M:List Mv){z:Nat->UInt8}{wh:Bool}{fc:Nat->Bool}{b:Int}{f t:Nat}{u:UInt8}{i:Nat}(h:pZ z wh fc b f t u i):∃l c,jR M z (f,t,u)=l++[c]/\c≠43/\c≠35:=by
 have ht:=h.ht;have hn:∀a:List UInt8,∃l c,a++xQ t=l++[c]/\c≠43/\c≠35:=fun a=>⟨a++[xA t],xI t,by rw[zF,qS];rfl,(dO (t/8) (by omega)).2⟩
 rcases F4 M h with⟨_,_,e⟩|⟨_,_,e⟩|⟨_,e⟩|⟨_,e⟩<;>rw[e]
 ·exact⟨[79,45],79,rfl,by decide,by decide⟩
 ·exact⟨[79,45,79,45],79,rfl,by decide,by decide⟩
 ·unfold z7;by_cases hu:u=0
  ·rw[qI hu,List.append_nil];exact hn _
  ·rw[qF hu];exact⟨_,vz u,by rw[show([61,vz u]:List UInt8)=[61]++[vz u]from rfl,<-qS],oS u h.hu⟩
 ·unfold zQ;rw[<-List.cons_append];exact hn _
theorem mC{z:Nat->UInt8}{wh:Bool}{fc:Nat->Bool}{b:Int}(hC:kJ z wh fc b)(h0:-1<=b)(h1:b<=63){x y:Mv}(hx:x∈xC z wh fc b)(hy:y∈xC z wh fc b){e1 e2:List UInt8}(he1:e1=[]\/e1=[43]\/e1=[35])(he2:e2=[]\/e2=[43]\/e2=[35])(h:jR (xC z wh fc b) z x++e1=jR (xC z wh fc b) z y++e2):x=y:=by
 obtain⟨i,lx⟩:=um (f:=x.1) (t:=x.2.1) (u:=x.2.2) hC h0 h1 hx;obtain⟨j,ly⟩:=um (f:=y.1) (t:=y.2.1) (u:=y.2.2) hC h0 h1 hy;obtain⟨l,c,ea,c1,c2⟩:=gl (xC z wh fc b) lx;obtain⟨m,d,eb,d1,d2⟩:=gl (xC z wh fc b) ly
 have key:jR (xC z wh fc b) z x=jR (xC z wh fc b) z y:=by
  have ea':jR (xC z wh fc b) z x=l++[c]:=ea;have eb':jR (xC z wh fc b) z y=m++[d]:=eb;rcases he1 with rfl|rfl|rfl<;>rcases he2 with rfl|rfl|rfl
  ·simpa using h
  ·rw[ea',List.append_nil]at h;exact absurd (List.singleton_inj.1 (List.append_inj' h rfl).2) c1
  ·rw[ea',List.append_nil]at h;exact absurd (List.singleton_inj.1 (List.append_inj' h rfl).2) c2
  ·rw[eb',List.append_nil]at h;exact absurd (List.singleton_inj.1 (List.append_inj' h rfl).2).symm d1
  ·exact(List.append_inj' h rfl).1
  ·exact(List.append_inj' h rfl).1
  ·rw[eb',List.append_nil]at h;exact absurd (List.singleton_inj.1 (List.append_inj' h rfl).2).symm d2
  ·exact(List.append_inj' h rfl).1
  ·exact(List.append_inj' h rfl).1
 exact wF hC h0 h1 hx hy key
end
section
attribute [local go_sem] qd qe Oper.semAt_some
structure Bq(w:World)(PA:Array Value)(W:World):Prop where
 c0:W.cell? ⟨w.heap.size,0,none⟩=some (.func (.func 60) #[] #[])
 c1:W.cell? ⟨w.heap.size,1,none⟩=some (.func (.func 61) #[] #[])
 pa:W.heap[w.heap.size+1]?=some (.cells PA 70)
 gr:Gr w W
theorem Bq.next{w W W':World}{PA:Array Value}(h:Bq w PA W)(g:Gr W W'):Bq w PA W' :=
 ⟨(Below.cell g (World.block_lt_of_cell? W _ h.c0)).trans h.c0,(Below.cell g (World.block_lt_of_cell? W _ h.c1)).trans h.c1,(Below.block g _ (qB.1 h.pa).1).trans h.pa,Gr.trans h.gr g⟩
theorem ac(w:World)(PA:Array Value):Bq w PA ((w.alloc (.cells jP 74)).alloc (.cells PA 70)):=by
 obtain⟨e1,e2⟩:=x6 w (.cells jP 74) (.cells PA 70);exact⟨by rw[cell_of_row _ _ _ _ _ _ e1];rfl,by rw[cell_of_row _ _ _ _ _ _ e1];rfl,e2,((Gr.refl w).alloc _ _).alloc _ _⟩
theorem aZ{z:Nat->UInt8}{wh:Bool}{fc:Nat->Bool}{b h g:Int}{PA:Array Value}(r:jE z wh fc b h g PA)(hok:xO z=true)(hb0:-1<=b)(hb1:b<=63)(w:World)(hT:jF w)(hC:jQ w) :
  Calls Tryz.prog 125 #[.agg jP,.agg PA] w fun e w'=>e=.returned (.bool (!(xC z wh fc b).isEmpty))/\Gr w w':=by
 have hmk:=qC (mkS r hok hb0 hb1 w hT hC);have hi72:(Tryz.prog.info? 70).map (·.size)=some PA.size:=by rw[r.size];exact jJ
 have hq:=qC (ac w PA);obtain⟨⟨f,t,u⟩,hhd⟩:∃x,Hid ((xC z wh fc b).headD (0,0,0)=x):=⟨_,qC rfl⟩;have hfst:Hid (∀(lb:Array Value)(C:Nat->Prop)(W:World),(∀k,C k->k<W.heap.size)->It Tryz.prog 128 lb vr (fun _=>False) C (xC z wh fc b) W->Calls Tryz.prog 66 #[.func (.func 128) #[] lb] W fun e w'=>e=.returned (.tuple #[.agg #[.int .i64 (f:Int),.int .i64 (t:Int),.int .u8 (u.toNat:Int)],.bool (!(xC z wh fc b).isEmpty)])/\Gr W w'):=qC fun lb C W hCb hit=>(qzv hit (qa hmk).ei hCb).mono fun e w' k=>⟨by rw[k.1,qa hhd];rfl,k.2⟩
 generalize (!(xC z wh fc b).isEmpty)=R at hfst ⊢;clear hhd;simp only[jP,zG]at hq ⊢;go_enter Tryz.func125,Tryz.ntmps125;go_upto_region 1 with fail;show Code.wp _ _ _ _ ((w.alloc (.cells #[.func (.func 60) #[] #[],.func (.func 61) #[] #[]] 74)).alloc (.cells PA 70));generalize ((w.alloc (.cells #[.func (.func 60) #[] #[],.func (.func 61) #[] #[]] 74)).alloc (.cells PA 70))=w0 at hq ⊢;have c1:=(qa hq).c1;have hpa:=(qa hq).pa;have hgq:=(qa hq).gr;clear r hok hT hC
 go_upto_region 2 with(first
  | (go_at_call 61;refine((qa hmk).go (fun _=>False) (fun _ q=>q.elim) _ hgq).mono ?_;rintro e w2 ⟨lb,C,rfl,hg2,hCb,hit⟩)
  | (go_at_call 66;refine(qa hfst lb C _ hCb hit).mono ?_;rintro e w3 ⟨rfl,hg3⟩)
  | (refine wpList_load_row rfl 70 _ rfl (w.heap.size+1) rfl 70 PA (0,0) _ hpa Tryz.underlying70 rfl hi72 ?_))
 have hgf:=qC (Gr.trans (Gr.trans (Gr.trans hgq hg2) hg3) ((Gr.refl w3).alloc #[.int .i64 (f:Int),.int .i64 (t:Int),.int .u8 (u.toNat:Int)] 87));clear hit hCb hg2 hg3 hfst hmk hq hgq hpa c1;go_wp2_with fail;go_ret;exact⟨rfl,qa hgf⟩
def fe(c n:Bool):List UInt8:=if c=false then[]else if n=true then[43]else[35]
theorem fZ{z:Nat->UInt8}{wh:Bool}{fc:Nat->Bool}{b h g:Int}{PA:Array Value}(r:jE z wh fc b h g PA)(hok:xO z=true)(hb0:-1<=b)(hb1:b<=63)(k0:0<=xR z wh)(k1:xR z wh<=63)(w:World)(hT:jF w)(hC:jQ w) :
  Calls Tryz.prog 59 #[.agg jP,.agg PA] w fun e w'=>e=.returned (.string (xJ (fe (kz z wh) (!(xC z wh fc b).isEmpty))))/\Gr w w':=by
 have hchk:=qC (fun W=>fp r hok k0 k1 W);have hcan:=qC (fun W (gW:Gr w W)=>aZ r hok hb0 hb1 W (hT.gr gW) (hC.gr gW));have hi72:(Tryz.prog.info? 70).map (·.size)=some PA.size:=by rw[r.size];exact jJ
 have hq:=qC (ac w PA);generalize (!(xC z wh fc b).isEmpty)=R at hcan ⊢;generalize kz z wh=c at hchk ⊢;clear r hok hT hC k0 k1;simp only[jP,zG]at hq hchk hcan ⊢;cases c with
 | false =>
  go_enter Tryz.func59,Tryz.ntmps59;go_upto_region 1 with fail;show Code.wp _ _ _ _ ((w.alloc (.cells #[.func (.func 60) #[] #[],.func (.func 61) #[] #[]] 74)).alloc (.cells PA 70));generalize ((w.alloc (.cells #[.func (.func 60) #[] #[],.func (.func 61) #[] #[]] 74)).alloc (.cells PA 70))=w0 at hq ⊢;have c0:=(qa hq).c0;have c1:=(qa hq).c1;have hpa:=qC (qa hq).pa
  go_wp2_with(first
   | (go_at_call 124;refine(qa hchk _).mono ?_;rintro e w2 ⟨rfl,hg2⟩)
   | (refine wpList_load_row rfl 70 _ rfl (w.heap.size+1) rfl 70 PA (0,0) _ (qa hpa) Tryz.underlying70 rfl hi72 ?_))
  have hgf:=qC (Gr.trans (qa hq).gr hg2);clear hg2 hq hpa c0 c1 hchk hcan;go_ret;exact⟨rfl,qa hgf⟩
 | true =>
  go_enter Tryz.func59,Tryz.ntmps59;go_upto_region 1 with fail;show Code.wp _ _ _ _ ((w.alloc (.cells #[.func (.func 60) #[] #[],.func (.func 61) #[] #[]] 74)).alloc (.cells PA 70));generalize ((w.alloc (.cells #[.func (.func 60) #[] #[],.func (.func 61) #[] #[]] 74)).alloc (.cells PA 70))=w0 at hq ⊢;have c0:=(qa hq).c0;have c1:=(qa hq).c1;have hpa:=qC (qa hq).pa
  go_upto_region 3 with(first
   | (go_at_call 124;refine(qa hchk _).mono ?_;rintro e w2 ⟨rfl,hg2⟩)
   | (refine wpList_load_row rfl 70 _ rfl (w.heap.size+1) rfl 70 PA (0,0) _ (qa hpa) Tryz.underlying70 rfl hi72 ?_))
  have hq2:=qC ((qa hq).next hg2);clear hg2 hq hpa c0 c1 hchk;have c0:=(qa hq2).c0;have c1:=(qa hq2).c1;have hpa:=qC (qa hq2).pa;cases R with
  | false =>
   go_wp2_with(first
    | (go_at_call 125;refine(qa hcan _ (qa hq2).gr).mono ?_;rintro e w3 ⟨rfl,hg3⟩)
    | (refine wpList_load_row rfl 70 _ rfl (w.heap.size+1) rfl 70 PA (0,0) _ (qa hpa) Tryz.underlying70 rfl hi72 ?_))
   have hgf:=qC (Gr.trans (qa hq2).gr hg3);go_ret;exact⟨rfl,qa hgf⟩
  | true =>
   go_wp2_with(first
    | (go_at_call 125;refine(qa hcan _ (qa hq2).gr).mono ?_;rintro e w3 ⟨rfl,hg3⟩)
    | (refine wpList_load_row rfl 70 _ rfl (w.heap.size+1) rfl 70 PA (0,0) _ (qa hpa) Tryz.underlying70 rfl hi72 ?_))
   have hgf:=qC (Gr.trans (qa hq2).gr hg3);go_ret;exact⟨rfl,qa hgf⟩
theorem gz(L:List Mv)(f:Nat):(iT L f).length<=2:=by
 unfold iT;by_cases h1:L.isEmpty=true
 ·rw[qI h1];simp
 ·rw[qF h1];by_cases h2:L.all (fun y=>!decide (y.1%8=f%8))=true
  ·rw[qI h2];simp
  ·rw[qF h2];by_cases h3:L.all (fun y=>!decide (y.1/8=f/8))=true
   ·rw[qI h3];simp
   ·rw[qF h3,zF];simp
structure Bm(w:World)(PA M:Array Value)(W:World):Prop where
 c0:W.cell? ⟨w.heap.size,0,none⟩=some (.func (.func 60) #[] #[])
 c1:W.cell? ⟨w.heap.size,1,none⟩=some (.func (.func 61) #[] #[])
 pa:W.heap[w.heap.size+1]?=some (.cells PA 70)
 mv:W.heap[w.heap.size+1+1]?=some (.cells M 87)
 gr:Gr w W
theorem Bm.next{w W W':World}{PA M:Array Value}(h:Bm w PA M W)(g:Gr W W'):Bm w PA M W' :=
 ⟨(Below.cell g (World.block_lt_of_cell? W _ h.c0)).trans h.c0,(Below.cell g (World.block_lt_of_cell? W _ h.c1)).trans h.c1,(Below.block g _ (qB.1 h.pa).1).trans h.pa,(Below.block g _ (qB.1 h.mv).1).trans h.mv,Gr.trans h.gr g⟩
theorem Bm.start(w:World)(PA M:Array Value):Bm w PA M (((w.alloc (.cells jP 74)).alloc (.cells PA 70)).alloc (.cells M 87)):=by
 have g1:Gr (w.alloc (.cells jP 74)) (((w.alloc (.cells jP 74)).alloc (.cells PA 70)).alloc (.cells M 87)):=((Gr.refl _).alloc _ _).alloc _ _;have e1:=(Below.block g1 w.heap.size (by rw[World.size_alloc];omega)).trans (World.alloc_heap_new w _);obtain⟨e2,e3⟩:=x6 (w.alloc (.cells jP 74)) (.cells PA 70) (.cells M 87);rw[World.size_alloc]at e2 e3;exact⟨by rw[cell_of_row _ _ _ _ _ _ e1];rfl,by rw[cell_of_row _ _ _ _ _ _ e1];rfl,e2,e3,Gr.trans ((Gr.refl w).alloc _ _) g1⟩
theorem Bm.cells{w W:World}{PA:Array Value}{z:Nat->UInt8}{wh:Bool}{fc:Nat->Bool}{b h g:Int}{f t:Nat}{u:UInt8}(hf:f<64)(ht:t<64)(r:jE z wh fc b h g PA)(q:Bm w PA #[.int .i64 (f:Int),.int .i64 (t:Int),.int .u8 (u.toNat:Int)] W) :
  W.cell? ⟨w.heap.size,0,none⟩=some (.func (.func 60) #[] #[])/\W.cell? ⟨w.heap.size,1,none⟩=some (.func (.func 61) #[] #[])/\W.heap[w.heap.size+1]?=some (.cells PA 70)/\W.cell? ⟨w.heap.size+1+1,0,none⟩=some (.int .i64 (f:Int))/\W.cell? ⟨w.heap.size+1+1,1,none⟩=some (.int .i64 (t:Int))/\W.cell? ⟨w.heap.size+1+1,2,none⟩=some (.int .u8 (u.toNat:Int))/\W.cell? ⟨w.heap.size+1,f,none⟩=some (.int .u8 ((z f).toNat:Int))/\W.cell? ⟨w.heap.size+1,t,none⟩=some (.int .u8 ((z t).toNat:Int)):=by
 obtain⟨m0,m1,m2⟩:=qm q.mv;exact⟨q.c0,q.c1,q.pa,m0,m1,m2,by rw[cell_of_row _ _ _ _ _ _ q.pa];exact r.sq f hf,by rw[cell_of_row _ _ _ _ _ _ q.pa];exact r.sq t ht⟩
theorem qke{z:Nat->UInt8}{wh:Bool}{fc:Nat->Bool}{b h g:Int}{PA:Array Value}(r:jE z wh fc b h g PA)(hok:xO z=true)(hb0:-1<=b)(hb1:b<=63)(f t:Nat)(hf:f<64)(ht:t<64)(u:UInt8)(hz:(z f).toNat<128)(w:World)(hT:jF w)(hC:jQ w) :
  Calls Tryz.prog 123 #[.agg jP,.agg PA,.agg #[.int .i64 (f:Int),.int .i64 (t:Int),.int .u8 (u.toNat:Int)]] w fun e w'=>e=.returned (.string (xJ (zQ (xC z wh fc b) z f t)))/\Gr w w':=by
 have hgr:=qC (fun W=>gV (z f) hz W);have hwh:=qC (fun W (gW:Gr w W)=>lj r hok hb0 hb1 f t hf u W (hT.gr gW) (hC.gr gW));have hN:=qC (fun W=>qxp t ht W);have hi72:(Tryz.prog.info? 70).map (·.size)=some PA.toList.length:=by rw[Array.length_toList,r.size];exact jJ
 have hq:=Bm.start w PA #[.int .i64 (f:Int),.int .i64 (t:Int),.int .u8 (u.toNat:Int)];have hlw:(iT (jX (xC z wh fc b) z f t) f).length<=2:=gz _ _
 have hzt:(z t=46/\((z t).toNat:Int)=46)\/(z t≠46/\((z t).toNat:Int)≠46):=by
  by_cases e:z t=46
  ·exact .inl ⟨e,by rw[e];rfl⟩
  ·exact .inr ⟨e,fun q=>e (q6.1 (by have:(46:UInt8).toNat=46:=rfl;omega))⟩
 unfold zQ;generalize iT (jX (xC z wh fc b) z f t) f=wt at hwh hlw ⊢;have r1:=qC (fun W=>xb [vz (z f)] wt (by simp;omega) W);have r2:=qC (fun W=>xb ([vz (z f)]++wt) [120] (by simp;omega) W);have r3:=qC (fun W=>xb ([vz (z f)]++wt) [xA t,xI t] (by simp;omega) W);have r4:=qC (fun W=>xb ([vz (z f)]++wt++[120]) [xA t,xI t] (by simp;omega) W);have z1:Hid (z t=46->xJ (vz (z f) :: (wt++(if z t=46 then[]else[120])++xQ t))=xJ ([vz (z f)]++wt++[xA t,xI t])):=qC (fun a=>by rw[qI a,List.append_nil];rfl);have z2:Hid (z t≠46->xJ (vz (z f) :: (wt++(if z t=46 then[]else[120])++xQ t))=xJ ([vz (z f)]++wt++[120]++[xA t,xI t])):=qC (fun a=>by rw[qF a];rfl);obtain⟨RS,hRS⟩:∃x,Hid (xJ (vz (z f) :: (wt++(if z t=46 then[]else[120])++xQ t))=x):=⟨_,qC rfl⟩;rw[qa hRS]at z1 z2 ⊢;generalize xJ ([vz (z f)]++wt++[120]++[xA t,xI t])=S4 at r4 z2;generalize xJ ([vz (z f)]++wt++[xA t,xI t])=S3 at r3 z1;generalize xJ ([vz (z f)]++wt++[120])=S2 at r2 r4;generalize xJ ([vz (z f)]++wt)=S1 at r1 r2 r3;generalize xJ [vz (z f)]=UC at r1 hgr;generalize xJ wt=WT at r1 hwh;generalize xJ [xA t,xI t]=NT at r3 r4 hN;have r1':∀W,(Op.stringOp .add UC WT).run Tryz.prog W=.ok (.string S1) W:=qa r1;have r2':∀W,(Op.stringOp .add S1 ⟨#[120]⟩).run Tryz.prog W=.ok (.string S2) W:=qa r2;have r3':∀W,(Op.stringOp .add S1 NT).run Tryz.prog W=.ok (.string S3) W:=qa r3;have r4':∀W,(Op.stringOp .add S2 NT).run Tryz.prog W=.ok (.string S4) W:=qa r4;clear r1 r2 r3 r4 hRS hT hC hlw hok hb0 hb1;have b64:¬ (64<=(f:Int)):=by omega
 have t64:¬ (64<=(t:Int)):=by omega
 simp only[jP,zG]at hq hwh ⊢;go_enter Tryz.func123,Tryz.ntmps123;go_upto_region 1 with fail;show Code.wp _ _ _ _ (((w.alloc (.cells #[.func (.func 60) #[] #[],.func (.func 61) #[] #[]] 74)).alloc (.cells PA 70)).alloc (.cells #[.int .i64 (f:Int),.int .i64 (t:Int),.int .u8 (u.toNat:Int)] 87));generalize (((w.alloc (.cells #[.func (.func 60) #[] #[],.func (.func 61) #[] #[]] 74)).alloc (.cells PA 70)).alloc (.cells #[.int .i64 (f:Int),.int .i64 (t:Int),.int .u8 (u.toNat:Int)] 87))=wA at hq ⊢;refine wp_region_held_drew (S:=Bm w PA #[.int .i64 (f:Int),.int .i64 (t:Int),.int .u8 (u.toNat:Int)]) (by kernel_rfl) (hq.next (Gr.refl _).drew) (fun qD=>?_);refine C.ty 0 (.pointer (some ⟨w.heap.size+1+1,0,none⟩)) rfl (Or.inl ⟨by rfl,fun w hw=>(by obtain⟨c0,c1,pa,m0,m1,m2,cf,ct⟩:=Bm.cells hf ht r hw;go_simp)⟩) qD ?_;refine C.ty 1 (.int .i64 (f:Int)) rfl (Or.inl ⟨by rfl,fun w hw=>(by obtain⟨c0,c1,pa,m0,m1,m2,cf,ct⟩:=Bm.cells hf ht r hw;go_simp)⟩) qD ?_;refine C.ty 2 (.pointer (some ⟨w.heap.size+1,0,none⟩)) rfl (Or.inl ⟨by rfl,fun w hw=>(by obtain⟨c0,c1,pa,m0,m1,m2,cf,ct⟩:=Bm.cells hf ht r hw;go_simp)⟩) qD ?_;refine C.ty 3 (.pointer (some ⟨w.heap.size+1,f,none⟩)) rfl (Or.inl ⟨by rfl,fun w hw=>(by obtain⟨c0,c1,pa,m0,m1,m2,cf,ct⟩:=Bm.cells hf ht r hw;go_simp)⟩) qD ?_;refine C.ty 4 (.int .u8 ((z f).toNat:Int)) rfl (Or.inl ⟨by rfl,fun w hw=>(by obtain⟨c0,c1,pa,m0,m1,m2,cf,ct⟩:=Bm.cells hf ht r hw;go_simp)⟩) qD ?_;refine C.ty 6 (.agg #[.func (.func 60) #[] #[],.func (.func 61) #[] #[]]) rfl (Or.inl ⟨by rfl,fun w hw=>(by obtain⟨c0,c1,pa,m0,m1,m2,cf,ct⟩:=Bm.cells hf ht r hw;go_simp)⟩) qD ?_;refine C.ty 7 (.agg PA) rfl (wY hi72 (by rfl) _ rfl (w.heap.size+1) rfl (fun _ h=>h.pa)) qD ?_;refine C.ty 8 (.agg #[.int .i64 (f:Int),.int .i64 (t:Int),.int .u8 (u.toNat:Int)]) rfl (Or.inl ⟨by rfl,fun w hw=>(by obtain⟨c0,c1,pa,m0,m1,m2,cf,ct⟩:=Bm.cells hf ht r hw;go_simp)⟩) qD ?_;refine C.rd 5 fun K hK=>?_
 go_simp;refine(qa hgr _).mono ?_;rintro e wc ⟨rfl,hgc⟩;refine hK.out _ _ (qD.next hgc) (fun qD=>?_);clear hK K hgc
 try simp only[C.py]
 refine C.rd 9 fun K hK=>?_
 go_simp;refine(qa hwh _ qD.gr).mono ?_;rintro e wc ⟨rfl,hgc⟩;refine hK.out _ _ (qD.next hgc) (fun qD=>?_);clear hK K hgc
 try simp only[C.py]
 refine C.ty 10 (.string S1) rfl (Or.inl ⟨by rfl,fun w hw=>(by obtain⟨c0,c1,pa,m0,m1,m2,cf,ct⟩:=Bm.cells hf ht r hw;go_simp)⟩) qD ?_;refine C.rd 11 fun K hK=>?_
 go_simp;refine hK.out _ _ qD (fun qD=>?_);clear hK K
 try simp only[C.py]
 refine wpAnyH_done (by kernel_rfl) ?_ _;obtain⟨c0,c1,pa,m0,m1,m2,cf,ct⟩:=Bm.cells hf ht r qD;rcases hzt with⟨e1,e2⟩|⟨e1,e2⟩
 ·have hz':=qC (qa z1 e1);clear z1 z2;go_wp2_with(go_at_call 69;refine(qa hN _).mono ?_;rintro e w5 ⟨rfl,hg5⟩);have hgf:=qC (Gr.trans qD.gr hg5);clear qD hg5;go_ret;exact⟨by rw[qa hz'];rfl,qa hgf⟩
 ·have hz':=qC (qa z2 e1);clear z1 z2;go_wp2_with(go_at_call 69;refine(qa hN _).mono ?_;rintro e w5 ⟨rfl,hg5⟩);have hgf:=qC (Gr.trans qD.gr hg5);clear qD hg5;go_ret;exact⟨by rw[qa hz'];rfl,qa hgf⟩
theorem cm{z:Nat->UInt8}{wh:Bool}{fc:Nat->Bool}{b h g:Int}{PA:Array Value}(r:jE z wh fc b h g PA)(hok:xO z=true)(hb0:-1<=b)(hb1:b<=63)(f t:Nat)(hf:f<64)(ht:t<64)(u:UInt8)(hu:u.toNat<128)(hz:(z f).toNat<128)(w:World)(hT:jF w)(hC:jQ w) :
  Calls Tryz.prog 58 #[.agg jP,.agg PA,.agg #[.int .i64 (f:Int),.int .i64 (t:Int),.int .u8 (u.toNat:Int)]] w fun e w'=>e=.returned (.string (xJ (jR (xC z wh fc b) z (f,t,u))))/\Gr w w':=by
 have hKi:=qC (fun W=>qjk (z f) W);have hPa:=qC (fun W=>xz (z f) W);have hpw:=qC (fun W=>dS f t hf ht u hu W);have hpc:=qC (fun W (gW:Gr w W)=>qke r hok hb0 hb1 f t hf ht u hz W (hT.gr gW) (hC.gr gW));have hi72:(Tryz.prog.info? 70).map (·.size)=some PA.size:=by rw[r.size];exact jJ
 have hq:=qC (Bm.start w PA #[.int .i64 (f:Int),.int .i64 (t:Int),.int .u8 (u.toNat:Int)]);have e1:Hid (jA (z f)=true->t=f+2->xJ (jR (xC z wh fc b) z (f,t,u))=⟨#[79,45,79]⟩):=qC (fun a c=>by unfold jR;rw[qI ⟨a,c⟩];rfl);have e2:Hid (jA (z f)=true->t≠f+2->t+2=f->xJ (jR (xC z wh fc b) z (f,t,u))=⟨#[79,45,79,45,79]⟩):=qC (fun a c d=>by unfold jR;rw[qF (fun q=>c q.2),qI ⟨a,d⟩];rfl);have e3:Hid (¬ (jA (z f)=true/\t=f+2)->¬ (jA (z f)=true/\t+2=f)->jD (z f)=true->xJ (jR (xC z wh fc b) z (f,t,u))=xJ (z7 f t u)):=qC (fun a c d=>by unfold jR;rw[qF a,qF c,qI d]);have e4:Hid (¬ (jA (z f)=true/\t=f+2)->¬ (jA (z f)=true/\t+2=f)->jD (z f)=false->xJ (jR (xC z wh fc b) z (f,t,u))=xJ (zQ (xC z wh fc b) z f t)):=qC (fun a c d=>by unfold jR;rw[qF a,qF c,qF (by rw[d];simp)]);have b64:¬ (64<=(f:Int)):=by omega
 have w2:IntKind.i64.wrap ((f:Int)+2)=(f:Int)+2:=by rw[IntKind.wrap_i64];omega
 have w3:IntKind.i64.wrap ((f:Int)-2)=(f:Int)-2:=by rw[IntKind.wrap_i64];omega
 generalize xJ (jR (xC z wh fc b) z (f,t,u))=RS at e1 e2 e3 e4 ⊢;generalize xJ (z7 f t u)=PW at hpw e3;generalize xJ (zQ (xC z wh fc b) z f t)=PC at hpc e4;generalize jA (z f)=kv at hKi e1 e2 e3 e4;generalize jD (z f)=pv at hPa e3 e4;clear hT hC hok hb0 hb1;simp only[jP,zG]at hq hpc ⊢;go_enter Tryz.func58,Tryz.ntmps58;go_upto_region 1 with fail;show Code.wp _ _ _ _ (((w.alloc (.cells #[.func (.func 60) #[] #[],.func (.func 61) #[] #[]] 74)).alloc (.cells PA 70)).alloc (.cells #[.int .i64 (f:Int),.int .i64 (t:Int),.int .u8 (u.toNat:Int)] 87));generalize (((w.alloc (.cells #[.func (.func 60) #[] #[],.func (.func 61) #[] #[]] 74)).alloc (.cells PA 70)).alloc (.cells #[.int .i64 (f:Int),.int .i64 (t:Int),.int .u8 (u.toNat:Int)] 87))=wA at hq ⊢;obtain⟨c0,c1,pa,m0,m1,m2,cf,ct⟩:=Bm.cells hf ht r (qa hq);have hpa:=qC pa;have hgA:=qC (qa hq).gr;clear pa ct;go_upto_region 2 with fail;have tail1:Hid (∀(P:Prop),P->P):=qC fun _ p=>p
 cases kv with
 | true =>
  by_cases ha:t=f+2
  ·have ha':(t:Int)=(f:Int)+2:=by omega
   have he:=qC (qa e1 rfl ha);clear e1 e2 e3 e4;go_wp2_with(go_at_call 120;refine(qa hKi _).mono ?_;rintro e w' ⟨rfl,rfl⟩);go_ret;exact⟨by rw[qa he];rfl,qa hgA⟩
  ·have ha':¬ (t:Int)=(f:Int)+2:=by omega
   by_cases hb:t+2=f
   ·have hb':(t:Int)=(f:Int)-2:=by omega
    have he:=qC (qa e2 rfl ha hb);clear e1 e2 e3 e4;go_wp2_with(go_at_call 120;refine(qa hKi _).mono ?_;rintro e w' ⟨rfl,rfl⟩);go_ret;exact⟨by rw[qa he];rfl,qa hgA⟩
   ·have hb':¬ (t:Int)=(f:Int)-2:=by omega
    cases pv with
    | true =>
     have he:=qC (qa e3 (fun q=>ha q.2) (fun q=>hb q.2) rfl);clear e1 e2 e3 e4
     go_wp2_with(first
      | (go_at_call 120;refine(qa hKi _).mono ?_;rintro e w' ⟨rfl,rfl⟩)
      | (go_at_call 121;refine(qa hPa _).mono ?_;rintro e w' ⟨rfl,rfl⟩)
      | (go_at_call 122;refine(qa hpw _).mono ?_;rintro e w5 ⟨rfl,hg5⟩))
     go_ret;exact⟨by rw[qa he];rfl,Gr.trans (qa hgA) hg5⟩
    | false =>
     have he:=qC (qa e4 (fun q=>ha q.2) (fun q=>hb q.2) rfl);clear e1 e2 e3 e4
     go_wp2_with(first
      | (go_at_call 120;refine(qa hKi _).mono ?_;rintro e w' ⟨rfl,rfl⟩)
      | (go_at_call 121;refine(qa hPa _).mono ?_;rintro e w' ⟨rfl,rfl⟩)
      | (go_at_call 123;refine(qa hpc _ (qa hgA)).mono ?_;rintro e w5 ⟨rfl,hg5⟩)
      | (refine wpList_load_row rfl 70 _ rfl (w.heap.size+1) rfl 70 PA (0,0) _ (qa hpa) Tryz.underlying70 rfl hi72 ?_))
     go_ret;exact⟨by rw[qa he];rfl,Gr.trans (qa hgA) hg5⟩
 | false =>
  cases pv with
  | true =>
   have he:=qC (qa e3 (fun q=>by cases q.1) (fun q=>by cases q.1) rfl);clear e1 e2 e3 e4
   go_wp2_with(first
    | (go_at_call 120;refine(qa hKi _).mono ?_;rintro e w' ⟨rfl,rfl⟩)
    | (go_at_call 121;refine(qa hPa _).mono ?_;rintro e w' ⟨rfl,rfl⟩)
    | (go_at_call 122;refine(qa hpw _).mono ?_;rintro e w5 ⟨rfl,hg5⟩))
   go_ret;exact⟨by rw[qa he];rfl,Gr.trans (qa hgA) hg5⟩
  | false =>
   have he:=qC (qa e4 (fun q=>by cases q.1) (fun q=>by cases q.1) rfl);clear e1 e2 e3 e4
   go_wp2_with(first
    | (go_at_call 120;refine(qa hKi _).mono ?_;rintro e w' ⟨rfl,rfl⟩)
    | (go_at_call 121;refine(qa hPa _).mono ?_;rintro e w' ⟨rfl,rfl⟩)
    | (go_at_call 123;refine(qa hpc _ (qa hgA)).mono ?_;rintro e w5 ⟨rfl,hg5⟩)
    | (refine wpList_load_row rfl 70 _ rfl (w.heap.size+1) rfl 70 PA (0,0) _ (qa hpa) Tryz.underlying70 rfl hi72 ?_))
   go_ret;exact⟨by rw[qa he];rfl,Gr.trans (qa hgA) hg5⟩
def pX(z:Nat->UInt8)(wh:Bool)(fc:Nat->Bool)(b:Int)(x:Mv):List UInt8:=fe (kz (zE z b x) (!wh)) (!(xC (zE z b x) (!wh) (kB fc x.1 x.2.1 4) (vK z x.1 x.2.1)).isEmpty)
def uj(z:Nat->UInt8)(wh:Bool)(fc:Nat->Bool)(b:Int)(x:Mv):List UInt8:=jR (xC z wh fc b) z x++pX z wh fc b x
theorem d6(c n:Bool):fe c n=[]\/fe c n=[43]\/fe c n=[35]:=by cases c<;>cases n<;>simp[fe]
theorem De{z:Nat->UInt8}{wh:Bool}{fc:Nat->Bool}{b h g:Int}(o:Ok z wh fc b h g){x y:Mv}(hx:x∈xC z wh fc b)(hy:y∈xC z wh fc b)(e:uj z wh fc b x=uj z wh fc b y):x=y:=mC o.good o.b0 o.b1 hx hy (d6 _ _) (d6 _ _) e
theorem Ok.king{z:Nat->UInt8}{wh:Bool}{fc:Nat->Bool}{b h g:Int}(o:Ok z wh fc b h g):0<=xR z wh/\xR z wh<=63:=by
 obtain⟨y,hy,_,e⟩:=js (o.good.k1 wh);omega
theorem ae(M:List Mv){z:Nat->UInt8}{wh:Bool}{fc:Nat->Bool}{b:Int}{f t:Nat}{u:UInt8}{i:Nat}(h:pZ z wh fc b f t u i):(jR M z (f,t,u)).length<=10:=by
 rcases F4 M h with⟨_,_,e⟩|⟨_,_,e⟩|⟨_,e⟩|⟨_,e⟩<;>rw[e]
 ·decide
 ·decide
 ·unfold z7;rw[qZ,qZ,zF];split<;>split<;>simp
 ·unfold zQ;have:=gz (jX M z f t) f;rw[List.length_cons,qZ,qZ,zF];split<;>simp<;>omega
theorem fE:∀p,p<12->(yQ p).toNat<128:=by decide +kernel
theorem oW:∀u∈U5,u.toNat<128:=by decide +kernel
theorem pZ.small{z:Nat->UInt8}{wh:Bool}{fc:Nat->Bool}{b:Int}{f t:Nat}{u:UInt8}{i:Nat}(h:pZ z wh fc b f t u i):(z f).toNat<128:=by
 have hi:=h.hi;have hb:bg wh=0\/bg wh=6:=by cases wh<;>simp[bg]
 rw[jn (p:=bg wh+i) (by omega) h.hc];exact fE _ (by omega)
theorem pe{z:Nat->UInt8}{wh:Bool}{fc:Nat->Bool}{b h g:Int}{PA:Array Value}(r:jE z wh fc b h g PA)(o:Ok z wh fc b h g)(f t:Nat)(u:UInt8)(hx:(f,t,u)∈xC z wh fc b)(w:World)(hT:jF w)(hC:jQ w)(hH:vJ w) :
  Calls Tryz.prog 32 #[.agg jP,.agg PA,.agg #[.int .i64 (f:Int),.int .i64 (t:Int),.int .u8 (u.toNat:Int)]] w fun e w'=>e=.returned (.string (xJ (uj z wh fc b (f,t,u))))/\Gr w w':=by
 obtain⟨i,lx⟩:=um o.good o.b0 o.b1 hx;have o':=o.next hx;obtain⟨hf,ht,hu,hk1,hk2⟩:=o.mv hx;obtain⟨a0,a1,a2,a3⟩:=o.clk;have hbd:=qC (fun W (gW:Gr w W)=>cm r o.lay o.b0 o.b1 f t hf ht u (oW u hu) lx.small W (hT.gr gW) (hC.gr gW));have haf:=qC (fun W (gW:Gr w W)=>iJ r f t u hf ht hk1 hk2 a0 a1 a2 a3 W (hH.gr gW));have hen:Hid (∀(Q:Array Value) W,Gr w W->jE (zE z b (f,t,u)) (!wh) (kB fc f t 4) (vK z f t) (kK z f t h) (kj wh g) Q->Calls Tryz.prog 59 #[.agg jP,.agg Q] W fun e w'=>e=.returned (.string (xJ (pX z wh fc b (f,t,u))))/\Gr W w'):=qC (fun Q W gW rQ=>fZ rQ o'.lay o'.b0 o'.b1 o'.king.1 o'.king.2 W (hT.gr gW) (hC.gr gW));have hi72:(Tryz.prog.info? 70).map (·.size)=some PA.toList.length:=by rw[Array.length_toList,r.size];exact jJ
 have hq:=Bm.start w PA #[.int .i64 (f:Int),.int .i64 (t:Int),.int .u8 (u.toNat:Int)]
 have hle:(pX z wh fc b (f,t,u)).length<=1:=by
  unfold pX;rcases d6 (kz (zE z b (f,t,u)) (!wh)) (!(xC (zE z b (f,t,u)) (!wh) (kB fc f t 4) (vK z f t)).isEmpty)with e|e|e<;>(rw[e];simp)
 have r1:=qC (fun W=>xb (jR (xC z wh fc b) z (f,t,u)) (pX z wh fc b (f,t,u)) (by have:=ae (xC z wh fc b) lx;omega) W);unfold uj;generalize xJ (jR (xC z wh fc b) z (f,t,u)++pX z wh fc b (f,t,u))=S1 at r1 ⊢;generalize xJ (jR (xC z wh fc b) z (f,t,u))=B1 at r1 hbd;generalize xJ (pX z wh fc b (f,t,u))=E1 at r1 hen;have r1':∀W,(Op.stringOp .add B1 E1).run Tryz.prog W=.ok (.string S1) W:=qa r1;clear r1 hle hT hC hH o' hk1 hk2 lx hx o a0 a1 a2 a3;simp only[jP,zG]at hq hbd hen ⊢;go_enter Tryz.func32,Tryz.ntmps32;go_upto_region 1 with fail;show Code.wp _ _ _ _ (((w.alloc (.cells #[.func (.func 60) #[] #[],.func (.func 61) #[] #[]] 74)).alloc (.cells PA 70)).alloc (.cells #[.int .i64 (f:Int),.int .i64 (t:Int),.int .u8 (u.toNat:Int)] 87));generalize (((w.alloc (.cells #[.func (.func 60) #[] #[],.func (.func 61) #[] #[]] 74)).alloc (.cells PA 70)).alloc (.cells #[.int .i64 (f:Int),.int .i64 (t:Int),.int .u8 (u.toNat:Int)] 87))=wA at hq ⊢;refine wp_region_held_drew (S:=Bm w PA #[.int .i64 (f:Int),.int .i64 (t:Int),.int .u8 (u.toNat:Int)]) (by kernel_rfl) (hq.next (Gr.refl _).drew) (fun qD=>?_);refine C.ty 0 (.agg #[.func (.func 60) #[] #[],.func (.func 61) #[] #[]]) rfl (Or.inl ⟨by rfl,fun w hw=>(by obtain⟨c0,c1,pa,m0,m1,m2,cf,ct⟩:=Bm.cells hf ht r hw;go_simp)⟩) qD ?_;refine C.ty 1 (.agg PA) rfl (wY hi72 (by rfl) _ rfl (w.heap.size+1) rfl (fun _ h=>h.pa)) qD ?_;refine C.ty 2 (.agg #[.int .i64 (f:Int),.int .i64 (t:Int),.int .u8 (u.toNat:Int)]) rfl (Or.inl ⟨by rfl,fun w hw=>(by obtain⟨c0,c1,pa,m0,m1,m2,cf,ct⟩:=Bm.cells hf ht r hw;go_simp)⟩) qD ?_;refine C.ty 4 (.agg #[.func (.func 60) #[] #[],.func (.func 61) #[] #[]]) rfl (Or.inl ⟨by rfl,fun w hw=>(by obtain⟨c0,c1,pa,m0,m1,m2,cf,ct⟩:=Bm.cells hf ht r hw;go_simp)⟩) qD ?_;refine C.ty 5 (.agg PA) rfl (wY hi72 (by rfl) _ rfl (w.heap.size+1) rfl (fun _ h=>h.pa)) qD ?_;refine C.ty 6 (.agg #[.int .i64 (f:Int),.int .i64 (t:Int),.int .u8 (u.toNat:Int)]) rfl (Or.inl ⟨by rfl,fun w hw=>(by obtain⟨c0,c1,pa,m0,m1,m2,cf,ct⟩:=Bm.cells hf ht r hw;go_simp)⟩) qD ?_;refine C.rd 3 fun K hK=>?_
 go_simp;refine(qa hbd _ qD.gr).mono ?_;rintro e wc ⟨rfl,hgc⟩;refine hK.out _ _ (qD.next hgc) (fun qD=>?_);clear hK K hgc
 try simp only[C.py]
 refine C.rd 7 fun K hK=>?_
 go_simp;refine(qa haf _ qD.gr).mono ?_;rintro e wc ⟨Q,rfl,hQ,hgc⟩;refine hK.out _ _ (qD.next hgc) (fun qD=>?_);clear hK K hgc
 try simp only[C.py]
 refine C.rd 8 fun K hK=>?_
 go_simp;refine(qa hen _ _ qD.gr hQ).mono ?_;rintro e wc ⟨rfl,hgc⟩;refine hK.out _ _ (qD.next hgc) (fun qD=>?_);clear hK K hgc
 try simp only[C.py]
 refine C.ty 9 (.string S1) rfl (Or.inl ⟨by rfl,fun w hw=>(by obtain⟨c0,c1,pa,m0,m1,m2,cf,ct⟩:=Bm.cells hf ht r hw;go_simp)⟩) qD ?_;refine C.rd 10 fun K hK=>?_
 go_simp;refine hK.out _ _ qD (fun qD=>?_);clear hK K
 try simp only[C.py]
 refine wpAnyH_done (by kernel_rfl) ?_ _;go_wp2_with fail;go_ret;exact⟨rfl,qD.gr⟩
end
end Go.Proofs.YtnfakamfmkhlbabGreatDoor.C
