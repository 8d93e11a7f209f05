import Derived.Test.YtnfakamfmkhlbabGreatDoorUm19
import Derived.Test.YtnfakamfmkhlbabGreatDoorKz2
set_option maxRecDepth 100000
set_option maxHeartbeats 4000000
set_option linter.unusedSimpArgs false
namespace Go.Proofs.YtnfakamfmkhlbabGreatDoor.C
open Go.RowKit Go.Proofs.YtnfakamfmkhlbabGreatDoor.P
structure jY(z:Nat->UInt8)(wh:Bool)(b:Int)(i f t:Nat)(u:UInt8)(cs:Nat):Prop where
 hi:i<6
 hf:f<64
 ht:t<64
 hc:jB (z f)=((bg wh+i:Nat):Int)
 no:vB (z t)≠xK wh
 nep:¬ (i=0/\(t:Int)=b)->cs=t
 ep:i=0->(t:Int)=b->z t=46/\cs<64/\cs=f/8*8+t%8/\(if wh then cs+8=t else cs=t+8)/\jB (z cs)=((bg (!wh):Nat):Int)
 tr:∃q,q<6/\jB (yH (z f) u)=((bg wh+q:Nat):Int)/\(q=5↔i=5)
theorem mM(wh:Bool):(bg wh=0/\bg (!wh)=6)\/(bg wh=6/\bg (!wh)=0):=by cases wh<;>simp[bg]
theorem ja{c:UInt8}{wh:Bool}{q:Nat}(hq:q<6)(h:jB c=((bg wh+q:Nat):Int)):vB c=xK wh:=(qkr hq h).1
theorem BC(wh:Bool):xK wh≠xK (!wh):=by cases wh<;>decide
theorem xp:jB 46=-1:=uo
def DS(z:Nat->UInt8)(f t:Nat)(u:UInt8)(cs:Nat)(Z:Nat->UInt8):Prop:=∀n,Z n=if n=t then yH (z f) u else if n=f then 46 else if n=cs then 46 else z n
theorem iq{z:Nat->UInt8}{wh:Bool}{b:Int}{i f t cs:Nat}{u:UInt8}(h:jY z wh b i f t u cs)(kg:i=5->t≠f+2/\t+2≠f):DS z f t u cs (zE z b (f,t,u)):=by
 intro n;obtain⟨hp,hk⟩:=zj h.hi h.hc;unfold zE;simp only;rw[hp,hk];by_cases hep:i=0/\(t:Int)=b
 ·obtain⟨e1,e2⟩:=hep;obtain⟨z0,hcs,e3,e4,e5⟩:=h.ep e1 e2;have hct:cs≠t:=by cases wh<;>simp at e4<;>omega
  rw[qI (by simp[e1,e2]),<-e3];unfold vW;by_cases c1:n=t
  ·subst c1;rw[qF (fun e=>hct e.symm),qI rfl,qI rfl]
  ·rw[qF c1,qF c1];by_cases c2:n=cs
   ·rw[qI c2];by_cases c3:n=f
    ·rw[qI c3]
    ·rw[qF c3,qI c2]
   ·rw[qF c2];by_cases c3:n=f
    ·rw[qI c3,qI c3]
    ·rw[qF c3,qF c3,qF c2]
 ·have hcs:=h.nep hep;rw[qF (by simpa using hep)]
  have k1:(decide (i=5)&&(t==f+2))=false:=by
   by_cases e:i=5
   ·simp[(kg e).1]
   ·simp[e]
  have k2:(decide (i=5)&&(t+2==f))=false:=by
   by_cases e:i=5
   ·simp[(kg e).2]
   ·simp[e]
  rw[k1,k2,qF (by simp),qF (by simp)];unfold vW;rw[hcs];by_cases c1:n=t
  ·rw[qI c1,qI c1]
  ·rw[qF c1,qF c1,qF c1]
theorem wG{b:Int}(h0:-1<=b)(h1:b<=63){t:Nat}(ht:t<64):1#64 <<< t=vV b↔(t:Int)=b:=by
 constructor
 ·intro h;have:=lU h0 h1 ht;rw[<-h,ze t ht t ht]at this;simpa using this.symm
 ·intro h;unfold vV;rw[qI (by omega)];congr 1;omega
theorem tD{z:Nat->UInt8}{wh:Bool}{b:Int}{i f t cs:Nat}{u:UInt8}(h:jY z wh b i f t u cs)(h0:-1<=b)(h1:b<=63){n:Nat}(hn:n<64):(uL wh (vV b) i t).getLsbD n=decide (n=cs):=by
 have hbe:=wG h0 h1 h.ht;unfold uL;by_cases hep:i=0/\(t:Int)=b
 ·rw[qI ⟨hep.1,hbe.2 hep.2⟩];obtain⟨z0,hcs,e3,e4,e5⟩:=h.ep hep.1 hep.2;rw[<-(wG h0 h1 h.ht).2 hep.2];cases wh
  ·show((1#64 <<< t) <<< 8).getLsbD n=_;simp at e4;rw[BitVec.getLsbD_shiftLeft];by_cases h8:n<8
   ·simp[h8];omega
   ·rw[ze t h.ht (n-8) (by omega)];rw[Bool.eq_iff_iff];simp[hn,h8];omega
  ·show((1#64 <<< t) >>> 8).getLsbD n=_;simp at e4;rw[BitVec.getLsbD_ushiftRight];by_cases h8:8+n<64
   ·rw[ze t h.ht (8+n) h8,Bool.eq_iff_iff,qG,qG];omega
   ·rw[BitVec.getLsbD_of_ge _ _ (by omega)]
    symm;rw[qX];have:=h.ht;omega
 ·rw[qF (fun k=>hep ⟨k.1,hbe.1 k.2⟩),ze t h.ht n hn,h.nep hep]
theorem jq{z:Nat->UInt8}{wh:Bool}{b:Int}{i f t cs:Nat}{u:UInt8}(h:jY z wh b i f t u cs)(h0:-1<=b)(h1:b<=63)(p:Nat){n:Nat}(hn:n<64) :
  (zV (xD z 64) wh (vV b) i f t p).getLsbD n=if p=bg wh+i then(decide (jB (z n)=(p:Int)) ^^ (decide (n=f)||decide (n=t)))else if bg (!wh)<=p/\p<bg (!wh)+6 then decide (jB (z n)=(p:Int))&&!decide (n=cs)else decide (jB (z n)=(p:Int)):=by
 have hb:=mM wh;have hi:=h.hi;unfold zV zS;by_cases e:p=bg wh+i
 ·rw[qI e,qI e,qF (by omega),BitVec.getLsbD_xor,BitVec.getLsbD_or,ze f h.hf n hn,ze t h.ht n hn,vH z p n hn]
 ·rw[qF e,qF e];by_cases e2:bg (!wh)<=p/\p<bg (!wh)+6
  ·rw[qI e2,qI e2,BitVec.getLsbD_and,qkh _ hn,tD h h0 h1 hn,vH z p n hn]
  ·rw[qF e2,qF e2,vH z p n hn]
theorem jY.ft{z:Nat->UInt8}{wh:Bool}{b:Int}{i f t cs:Nat}{u:UInt8}(h:jY z wh b i f t u cs):f≠t:=by
 rintro rfl;exact h.no (ja h.hi h.hc)
section
variable {z:Nat->UInt8}{wh:Bool}{b:Int}{i f t cs:Nat}{u:UInt8}{Z:Nat->UInt8}
theorem jY.cf(h:jY z wh b i f t u cs):cs≠f:=by
 rintro rfl;by_cases hep:i=0/\(t:Int)=b
 ·obtain⟨z0,hcs,e3,e4,e5⟩:=h.ep hep.1 hep.2;have:=h.hc;have hb:=mM wh;have hi:=h.hi;omega
 ·exact h.ft (h.nep hep)
theorem jY.cz(h:jY z wh b i f t u cs)(hne:cs≠t):jB (z cs)=((bg (!wh):Nat):Int)/\z t=46:=by
 by_cases hep:i=0/\(t:Int)=b
 ·obtain⟨z0,hcs,e3,e4,e5⟩:=h.ep hep.1 hep.2;exact⟨e5,z0⟩
 ·exact absurd (h.nep hep) hne
theorem qzh(h:jY z wh b i f t u cs)(hZ:DS z f t u cs Z)(h0:-1<=b)(h1:b<=63){j:Nat}(hj:j<6):zV (xD z 64) wh (vV b) i f t (bg (!wh)+j)=xD Z 64 (bg (!wh)+j):=by
 have hb:=mM wh;have hi:=h.hi;obtain⟨q,hq,hq1,_⟩:=h.tr;have hc:=h.hc;apply BitVec.eq_of_getLsbD_eq;intro n hn;rw[jq h h0 h1 _ hn,qF (by omega),qI (by omega),vH _ _ n hn,hZ n];by_cases c1:n=t
 ·subst c1;rw[qI rfl,hq1];have e1:decide (((bg wh+q:Nat):Int)=((bg (!wh)+j:Nat):Int))=false:=qE (by omega);rw[e1];by_cases hct:cs=n
  ·simp[hct]
  ·have:=(h.cz hct).2;rw[this,xp,qE (by omega)];rfl
 ·rw[qF c1];by_cases c2:n=f
  ·subst c2;rw[qI rfl,xp,hc,qE (by omega),Bool.false_and];symm;exact qE (by omega)
  ·rw[qF c2];by_cases c3:n=cs
   ·rw[qI c3,xp,qJ c3,Bool.not_true,Bool.and_false];symm;exact qE (by omega)
   ·rw[qF c3,qE c3];simp
theorem zd(m:Nat->BitVec 64)(base:Nat)(n:Nat):∀k,(wZ m base k).getLsbD n=(List.range k).any fun j=>(m (base+j)).getLsbD n
 | 0=>by show(0#64).getLsbD n=_;rw[BitVec.getLsbD_zero];rfl
 | k+1=>by
   show(wZ m base k ||| m (base+k)).getLsbD n=_;rw[BitVec.getLsbD_or,zd m base n k,List.range_succ,List.any_append];simp
theorem okZ(h:jY z wh b i f t u cs)(hZ:DS z f t u cs Z)(hok:xO z=true):xO Z=true:=by
 obtain⟨q,hq,hq1,_⟩:=h.tr;refine Fy fun n hn=>?_
 rw[hZ n];split
 ·rw[bf,hq1,Bool.or_eq_true];right;exact qJ (by omega)
 ·split
  ·rfl
  ·split
   ·rfl
   ·exact ji hok hn
theorem bH(h:jY z wh b i f t u cs)(hZ:DS z f t u cs Z)(h0:-1<=b)(h1:b<=63):j0 (zV (xD z 64) wh (vV b) i f t)=j0 (xD Z 64):=by
 have hb:=mM wh;have hi:=h.hi;have hc:=h.hc;obtain⟨q,hq,hq1,_⟩:=h.tr;rw[<-Dr _ wh,<-Dr _ wh]
 have e2:xZ (zV (xD z 64) wh (vV b) i f t) (!wh)=xZ (xD Z 64) (!wh):=by
  unfold xZ;apply BitVec.eq_of_getLsbD_eq;intro n hn;rw[zd,zd,Bool.eq_iff_iff,qY,qY];constructor<;>rintro⟨j,hj,h'⟩<;>refine⟨j,hj,?_⟩
  ·rw[<-qzh h hZ h0 h1 (qK.1 hj)];exact h'
  ·rw[qzh h hZ h0 h1 (qK.1 hj)];exact h'
 have e1:xZ (zV (xD z 64) wh (vV b) i f t) wh=xZ (xD Z 64) wh:=by
  unfold xZ;apply BitVec.eq_of_getLsbD_eq;intro n hn;rw[zd,zd,Bool.eq_iff_iff,qY,qY];by_cases c1:n=t
  ·subst c1;constructor
   ·rintro _;refine⟨q,qK.2 hq,?_⟩;rw[vH _ _ n hn,hZ n,qI rfl,hq1];simp
   ·rintro _;refine⟨i,qK.2 hi,?_⟩;rw[jq h h0 h1 _ hn,qI rfl];have:jB (z n)≠((bg wh+i:Nat):Int):=fun e=>h.no (ja hi e)
    rw[qE this];simp
  ·by_cases c2:n=f
   ·subst c2;constructor
    ·rintro⟨j,hj,h'⟩;have hj:=qK.1 hj;rw[jq h h0 h1 _ hn,hc]at h';by_cases ej:j=i
     ·subst ej;simp at h'
     ·rw[qF (by omega),qF (by omega),qG]at h';omega
    ·rintro⟨j,hj,h'⟩;rw[vH _ _ n hn,hZ n,qF c1,qI rfl,xp,qG]at h';omega
   ·constructor
    ·rintro⟨j,hj,h'⟩;have hj':=qK.1 hj;refine⟨j,hj,?_⟩;rw[jq h h0 h1 _ hn]at h'
     have h2:jB (z n)=((bg wh+j:Nat):Int):=by
      by_cases ej:j=i
      ·subst ej;rw[qI rfl]at h';simpa[c1,c2]using h'
      ·rw[qF (by omega),qF (by omega),qG]at h';exact h'
     have c3:n≠cs:=by
      rintro rfl;have:=(h.cz c1).1;omega
     rw[vH _ _ n hn,hZ n,qF c1,qF c2,qF c3];exact qJ h2
    ·rintro⟨j,hj,h'⟩;have hj':=qK.1 hj;refine⟨j,hj,?_⟩;rw[vH _ _ n hn,hZ n,qF c1,qF c2]at h';by_cases c3:n=cs
     ·rw[qI c3,xp,qG]at h';omega
     ·rw[qF c3,qG]at h';rw[jq h h0 h1 _ hn,h'];by_cases ej:j=i
      ·subst ej;rw[qI rfl];simp[c1,c2]
      ·rw[qF (by omega),qF (by omega)];simp
 rw[e1,e2]
theorem qz3{m m':Nat->BitVec 64}{bw:Bool}(ht:j0 m=j0 m')(hm:∀j,j<6->m (bg bw+j)=m' (bg bw+j))(y:Int):xV m y bw=xV m' y bw:=by
 unfold xV;rw[Bool.eq_iff_iff,qY,qY]
 have e:∀j,j∈List.range 6->uk m y bw j=uk m' y bw j:=fun j hj=>by
  unfold uk;rw[ht,hm j (qK.1 hj)]
 constructor<;>rintro⟨j,hj,h⟩<;>refine⟨j,hj,?_⟩
 ·rw[<-e j hj];exact h
 ·rw[e j hj];exact h
theorem qvs(h:jY z wh b i f t u cs)(hZ:DS z f t u cs Z)(h0:-1<=b)(h1:b<=63):zV (xD z 64) wh (vV b) i f t (bg wh+5)=xD Z 64 (bg wh+5):=by
 have hb:=mM wh;have hi:=h.hi;have hc:=h.hc;obtain⟨q,hq,hq1,hq5⟩:=h.tr;apply BitVec.eq_of_getLsbD_eq;intro n hn;rw[jq h h0 h1 _ hn,vH _ _ n hn,hZ n];by_cases c1:n=t
 ·subst c1;have hno:∀j,j<6->jB (z n)≠((bg wh+j:Nat):Int):=fun j hj e=>h.no (ja hj e)
  rw[qI rfl,hq1,qE (hno 5 (by omega))];by_cases e:i=5
  ·rw[qI (by omega),hq5.2 e];simp
  ·rw[qF (by omega),qF (by omega)]
   symm;exact qE (by have:q≠5:=fun k=>e (hq5.1 k);omega)
 ·rw[qF c1];by_cases c2:n=f
  ·subst c2;rw[qI rfl,xp,hc];by_cases e:i=5
   ·rw[qI (by omega),e];simp;omega
   ·rw[qF (by omega),qF (by omega),qE (by omega)]
    symm;exact qE (by omega)
  ·rw[qF c2];have e1:(decide (n=f)||decide (n=t))=false:=by simp[c1,c2]
   rw[e1,Bool.xor_false,qF (c:=bg (!wh)<=bg wh+5/\bg wh+5<bg (!wh)+6) (by omega)];have e2:(if bg wh+5=bg wh+i then decide (jB (z n)=((bg wh+5:Nat):Int))else decide (jB (z n)=((bg wh+5:Nat):Int)))=decide (jB (z n)=((bg wh+5:Nat):Int)):=by split<;>rfl
   rw[e2];by_cases c3:n=cs
   ·subst c3;rw[qI rfl,xp,(h.cz c1).1,qE (by omega)]
    symm;exact qE (by omega)
   ·rw[qF c3]
theorem gR(h:jY z wh b i f t u cs)(hZ:DS z f t u cs Z)(hk:vZ z wh 64=1)(h0:-1<=b)(h1:b<=63):vZ Z wh 64=1:=by
 have hb:=mM wh;have hi:=h.hi;have hc:=h.hc;rw[<-qxu,<-qvs h hZ h0 h1];obtain⟨y,hy,hs,hR⟩:=js hk
 have mem:∀n,n<64->(jB (z n)=((bg wh+5:Nat):Int)↔n=y):=fun n hn=>by
  have:n∈vD (xD z 64 (bg wh+5))↔n=y:=by rw[hs];simp
  unfold vD at this;rw[qV,qK,vH z _ n hn,qG]at this;constructor
  ·intro e;exact this.1 ⟨hn,e⟩
  ·intro e;exact(this.2 e).2
 have one:∀w:Nat,w<64->((List.range 64).filter fun n=>decide (n=w))=[w]:=by decide +kernel
 have key:∃w,w<64/\∀n,n<64->(zV (xD z 64) wh (vV b) i f t (bg wh+5)).getLsbD n=decide (n=w):=by
  by_cases e:i=5
  ·refine⟨t,h.ht,fun n hn=>?_⟩;subst e;have hfy:=(mem f h.hf).1 hc;rw[jq h h0 h1 _ hn,qI rfl];have e1:decide (jB (z n)=((bg wh+5:Nat):Int))=decide (n=f):=by rw[Bool.eq_iff_iff,qG,qG,mem n hn,hfy]
   rw[e1];have hft:=h.ft;by_cases c1:n=f
   ·have:n≠t:=fun k=>hft (c1.symm.trans k)
    simp[c1,hft]
   ·simp[c1]
  ·refine⟨y,hy,fun n hn=>?_⟩;rw[jq h h0 h1 _ hn,qF (by omega),qF (by omega),Bool.eq_iff_iff,qG,qG];exact mem n hn
 obtain⟨w,hw,hbit⟩:=key
 have:vD (zV (xD z 64) wh (vV b) i f t (bg wh+5))=[w]:=by
  unfold vD;rw[qxd _ (fun n hn=>hbit n (qK.1 hn)),one w hw]
 rw[this];rfl
theorem b9(h:jY z wh b i f t u cs)(hZ:DS z f t u cs Z)(hok:xO z=true)(hk:vZ z wh 64=1)(h0:-1<=b)(h1:b<=63):xO Z=true/\∃y:Nat,y<64/\xR Z wh=(y:Int)/\kE (xD z 64) wh (vV b) i f t=!(vL Z y (!wh)):=by
 have hok':=okZ h hZ hok;obtain⟨y,hy,hs,hR⟩:=js (gR h hZ hk h0 h1);refine⟨hok',y,hy,hR,?_⟩;unfold kE uG;rw[qvs h hZ h0 h1,hs]
 have e:xV (zV (xD z 64) wh (vV b) i f t) (y:Int) (!wh)=vL Z y (!wh):=by
  rw[qz3 (bH h hZ h0 h1) (fun j hj=>qzh h hZ h0 h1 hj),xu hok' _ _ hy,jk hok' hy]
 simp[e]
theorem b8(h:jY z wh b i f t u cs)(kg:i=5->t≠f+2/\t+2≠f)(hok:xO z=true)(hk:vZ z wh 64=1)(h0:-1<=b)(h1:b<=63):(∃y:Nat,y<64/\xR (zE z b (f,t,u)) wh=(y:Int))/\kE (xD z 64) wh (vV b) i f t=uS z wh b (f,t,u):=by
 obtain⟨_,y,hy,hR,e⟩:=b9 h (iq h kg) hok hk h0 h1;refine⟨⟨y,hy,hR⟩,?_⟩;rw[e];unfold uS;rw[hR];rfl
end
def uO(i n:Nat):Bool:=if i%2=0 then decide (n<hK i)else decide (hK i<n)
theorem sH:∀i,i<4->∀n,n<64->n/8≠xE i/8->(yd ((n:Nat):Int) ((xE i:Nat):Int)||yg ((n:Nat):Int) ((xE i:Nat):Int))=true->((List.range (LI ((n:Nat):Int) ((xE i:Nat):Int))).all fun j=>decide (j=0)||decide ((pI ((n:Nat):Int) ((xE i:Nat):Int) j).toNat/8≠xE i/8)&&decide ((pI ((n:Nat):Int) ((xE i:Nat):Int) j).toNat<64))=true:=by decide +kernel
theorem BN:∀i,i<4->∀n,n<64->n/8=xE i/8->uO i n=true->(yd ((n:Nat):Int) ((hK i:Nat):Int)&&decide (LI ((n:Nat):Int) ((hK i:Nat):Int)<=LI ((n:Nat):Int) ((xE i:Nat):Int))&&(List.range (LI ((n:Nat):Int) ((hK i:Nat):Int))).all fun j=>decide (j=0)||decide (pI ((n:Nat):Int) ((xE i:Nat):Int) j=pI ((n:Nat):Int) ((hK i:Nat):Int) j)&&uO i (pI ((n:Nat):Int) ((hK i:Nat):Int) j).toNat&&decide ((pI ((n:Nat):Int) ((hK i:Nat):Int) j).toNat/8=xE i/8)&&decide ((pI ((n:Nat):Int) ((hK i:Nat):Int) j).toNat<64))=true:=by decide +kernel
theorem BO:∀i,i<4->∀n,n<64->n/8=xE i/8->uO i n=true->∀bw:Bool,(xS (fun _=>46) 0 (xK bw) ((n:Nat):Int) ((xE i:Nat):Int)||xS (fun _=>46) 1 (xK bw) ((n:Nat):Int) ((xE i:Nat):Int)||xS (fun _=>46) 2 (xK bw) ((n:Nat):Int) ((xE i:Nat):Int)||xS (fun _=>46) 5 (xK bw) ((n:Nat):Int) ((xE i:Nat):Int))=false:=by decide +kernel
theorem qx8{f:Nat->Int}{k:Nat}{s x y:Int}(h:xS f k s x y=true):xS (fun _=>46) k s x y=true/\((k=2\/k=3\/k=4)->(yd x y||yg x y)=true/\freeI f (pI x y) (LI x y)=true):=by
 have hfr:freeI (fun _=>46) (pI x y) (LI x y)=true:=by unfold freeI;exact qJ fun _ _ _=>rfl
 unfold xS at h ⊢;by_cases k0:k=0
 ·simp only[k0,if_true]at h ⊢;exact⟨h,by omega⟩
 ·by_cases k1:k=1
  ·subst k1;simp only[k0,if_false,if_true]at h ⊢;exact⟨h,by omega⟩
  ·by_cases k2:k=2
   ·subst k2;simp only[k0,k1,if_false,if_true,qH]at h ⊢;exact⟨⟨h.1,hfr⟩,fun _=>⟨by rw[h.1];simp,h.2⟩⟩
   ·by_cases k3:k=3
    ·subst k3;simp only[k0,k1,k2,if_false,if_true,qH]at h ⊢;exact⟨⟨h.1,hfr⟩,fun _=>⟨by rw[h.1];simp,h.2⟩⟩
    ·by_cases k4:k=4
     ·subst k4;simp only[k0,k1,k2,k3,if_false,if_true,qH]at h ⊢;exact⟨⟨h.1,hfr⟩,fun _=>⟨h.1,h.2⟩⟩
     ·refine⟨?_,fun hk=>by omega⟩;simp only[k0,k1,k2,k3,k4,if_false]at h ⊢;exact h
theorem wK{f:Nat->Int}{k:Nat}{s x y:Int}(h:xS (fun _=>46) k s x y=true)(hf:(k=2\/k=3\/k=4)->freeI f (pI x y) (LI x y)=true):xS f k s x y=true:=by
 unfold xS at h ⊢;by_cases k0:k=0
 ·simp only[k0,if_true]at h ⊢;exact h
 ·by_cases k1:k=1
  ·subst k1;simp only[k0,if_false,if_true]at h ⊢;exact h
  ·by_cases k2:k=2
   ·subst k2;simp only[k0,k1,if_false,if_true,qH]at h ⊢;exact⟨h.1,hf (by omega)⟩
   ·by_cases k3:k=3
    ·subst k3;simp only[k0,k1,k2,if_false,if_true,qH]at h ⊢;exact⟨h.1,hf (by omega)⟩
    ·by_cases k4:k=4
     ·subst k4;simp only[k0,k1,k2,k3,if_false,if_true,qH]at h ⊢;exact⟨h.1,hf (by omega)⟩
     ·simp only[k0,k1,k2,k3,k4,if_false]at h ⊢;exact h
theorem aW{z Zx:Nat->UInt8}(hok:xO z=true){wh:Bool}{i:Nat}(hi:i<4)(hm:DD z wh (hK i) (hD i)=true)
  (ha:∀n,n<64->n/8≠xE i/8->Zx n=z n) (hb:∀n,n<64->n/8=xE i/8->uO i n=true->Zx n=z n)
  (hc:∀n,n<64->n/8=xE i/8->uO i n=false->vB (Zx n)≠xK (!wh)):zM Zx ((xE i:Nat):Int) (!wh)=false:=by
 have hKT:hK i<64/\xE i<64/\kC (hK i) (hD i) 0=hK i/\kC (hK i) (hD i) 2=xE i:=by
  have:i=0\/i=1\/i=2\/i=3:=by omega
  rcases this with rfl|rfl|rfl|rfl<;>decide
 unfold DD at hm;rw[qW]at hm;have s0:=hm 0 (by decide);have s2:=hm 2 (by decide);rw[hKT.2.2.1,jk hok hKT.1,Bool.not_eq_true']at s0;rw[hKT.2.2.2,jk hok hKT.2.1,Bool.not_eq_true']at s2;cases hr:zM Zx ((xE i:Nat):Int) (!wh)with
 | false=>rfl
 | true =>
  exfalso
  unfold zM at hr;obtain⟨n,hn,h⟩:=qY.1 hr;have hn:=qK.1 hn;rw[qH,qG]at h;obtain⟨hco,hat⟩:=h;obtain⟨at1,at2⟩:=qx8 hat
  have fin:∀y:Nat,zM z (y:Int) (!wh)=false->Zx n=z n->xS (zI z) (vE (Zx n)).toNat (xK (!wh)) (n:Int) (y:Int)=true->False:=fun y hy e ha=>by
   have:zM z (y:Int) (!wh)=true:=by
    unfold zM;refine qY.2 ⟨n,qK.2 hn,?_⟩;rw[qH,qG];exact⟨by rw[<-e];exact hco,by rw[<-e];exact ha⟩
   rw[hy]at this;cases this
  by_cases hrk:n/8=xE i/8
  ·cases hp:uO i n with
   | false=>exact hc n hn hrk hp hco
   | true =>
    have e:=hb n hn hrk hp;have hnear:=BO i hi n hn hrk hp (!wh);have honp:=BN i hi n hn hrk hp;simp only[qH,qW,Bool.or_eq_true,qG,qK]at honp;simp only[Bool.or_eq_false_iff]at hnear
    have kk:(vE (Zx n)).toNat=3\/(vE (Zx n)).toNat=4:=by
     generalize (vE (Zx n)).toNat=k at at1;have hk5:k=0\/k=1\/k=2\/k=3\/k=4\/5<=k:=by omega
     rcases hk5 with rfl|rfl|rfl|rfl|rfl|h5
     ·rw[hnear.1.1.1]at at1;cases at1
     ·rw[hnear.1.1.2]at at1;cases at1
     ·rw[hnear.1.2]at at1;cases at1
     ·exact .inl rfl
     ·exact .inr rfl
     ·have:xS (fun _=>46) k (xK (!wh)) (n:Int) ((xE i:Nat):Int)=xS (fun _=>46) 5 (xK (!wh)) (n:Int) ((xE i:Nat):Int):=by
       unfold xS;simp only[show ¬ k=0 from by omega,show ¬ k=1 from by omega,show ¬ k=2 from by omega,show ¬ k=3 from by omega,show ¬ k=4 from by omega,if_false];rfl
      rw[this,hnear.2]at at1;cases at1
    obtain⟨_,hfree⟩:=at2 (by omega);refine fin (hK i) s0 e ?_
    have hfz:freeI (zI z) (pI (n:Int) ((hK i:Nat):Int)) (LI (n:Int) ((hK i:Nat):Int))=true:=by
     unfold freeI at hfree ⊢;rw[qG]at hfree ⊢;intro j hj j1;rcases honp.2 j hj with q|q
     ·omega
     ·have h1:=hfree j (by have:=honp.1.2;omega) j1;rw[q.1.1.1]at h1;unfold zI at h1 ⊢;rw[<-hb _ q.2 q.1.2 q.1.1.2];exact h1
    rcases kk with k|k<;>(rw[k];simp[xS,honp.1.1,hfz])
  ·have e:=ha n hn hrk;refine fin (xE i) s2 e (wK at1 fun hk=>?_);obtain⟨hl,hfree⟩:=at2 hk;have hoff:=sH i hi n hn hrk hl;simp only[qW,Bool.or_eq_true,qH,qG,qK]at hoff;unfold freeI at hfree ⊢;rw[qG]at hfree ⊢;intro j hj j1;rcases hoff j hj with q|q
   ·omega
   ·have h1:=hfree j hj j1;unfold zI at h1 ⊢;rw[<-ha _ q.2 q.1];exact h1
def hR(i:Nat):Nat:=if i=0 then 7 else if i=1 then 0 else if i=2 then 63 else 56
def rN(i:Nat):Nat:=if i=0 then 5 else if i=1 then 3 else if i=2 then 61 else 59
theorem FB{z:Nat->UInt8}{b:Int}{i:Nat}(hi:i<4)(hp:jD (z (hK i))=false)(hk:jA (z (hK i))=true)(n:Nat):zE z b (hK i,xE i,0) n=if n=hR i then 46 else if n=rN i then z (hR i)else if n=xE i then z (hK i)else if n=hK i then 46 else z n:=by
 have ht:yH (z (hK i)) 0=z (hK i):=by unfold yH;rw[qI rfl]
 have:i=0\/i=1\/i=2\/i=3:=by omega
 unfold zE;simp only;rw[hp,hk,ht,Bool.false_and,qF (by simp)];rcases this with rfl|rfl|rfl|rfl
 ·rw[qI (by decide)];rfl
 ·rw[qF (by decide),qI (by decide)];rfl
 ·rw[qI (by decide)];rfl
 ·rw[qF (by decide),qI (by decide)];rfl
theorem zi:∀i,i<4->hK i<64/\xE i<64/\hR i<64/\rN i<64/\xE i/8=hK i/8/\uO i (hK i)=false/\uO i (xE i)=false/\uO i (hR i)=false/\uO i (rN i)=false/\hR i/8=hK i/8/\rN i/8=hK i/8/\xE i≠hK i/\hR i≠hK i/\rN i≠hK i/\hR i≠xE i/\rN i≠xE i/\rN i≠hR i:=by decide +kernel
theorem ts:∀i,i<4->∀n,n<64->n/8=xE i/8->uO i n=false->(decide (n=hK i)||decide (n=hR i)||(List.range (hN i)).any fun j=>decide (kC (hK i) (hD i) (j+1)=n))=true:=by decide +kernel
theorem pB:∀i,i<4->((List.range (hN i)).any fun j=>decide (kC (hK i) (hD i) (j+1)=xE i))=true/\((List.range (hN i)).any fun j=>decide (kC (hK i) (hD i) (j+1)=rN i))=true:=by decide +kernel
structure wU(z:Nat->UInt8)(wh:Bool)(i:Nat):Prop where
 hi:i<4
 w:wh=decide (i<2)
 k:jB (z (hK i))=((bg wh+5:Nat):Int)
 r:jB (z (hR i))=((bg wh+3:Nat):Int)
 e:wn z (hK i) (hD i) (hN i)=true
 a:DD z wh (hK i) (hD i)=true
theorem cJ{z:Nat->UInt8}{wh:Bool}{fc:Nat->Bool}{b:Int}(hC:kJ z wh fc b){i:Nat}(hi:i<4)(hw:wh=decide (i<2))(hf:fc i=true)(hm:az z wh (hK i) (hD i) (hN i)=true):wU z wh i:=by
 unfold az at hm;rw[qH]at hm;have k75:jB 75=((bg true+5:Nat):Int):=by decide +kernel
 have k107:jB 107=((bg false+5:Nat):Int):=by decide +kernel
 have k82:jB 82=((bg true+3:Nat):Int):=by decide +kernel
 have k114:jB 114=((bg false+3:Nat):Int):=by decide +kernel
 have:i=0\/i=1\/i=2\/i=3:=by omega
 subst hw;rcases this with rfl|rfl|rfl|rfl
 ·exact⟨hi,rfl,by rw[show z (hK 0)=75 from(hC.c0 hf).1];exact k75,by rw[show z (hR 0)=82 from(hC.c0 hf).2];exact k82,hm.1,hm.2⟩
 ·exact⟨hi,rfl,by rw[show z (hK 1)=75 from(hC.c1 hf).1];exact k75,by rw[show z (hR 1)=82 from(hC.c1 hf).2];exact k82,hm.1,hm.2⟩
 ·exact⟨hi,rfl,by rw[show z (hK 2)=107 from(hC.c2 hf).1];exact k107,by rw[show z (hR 2)=114 from(hC.c2 hf).2];exact k114,hm.1,hm.2⟩
 ·exact⟨hi,rfl,by rw[show z (hK 3)=107 from(hC.c3 hf).1];exact k107,by rw[show z (hR 3)=114 from(hC.c3 hf).2];exact k114,hm.1,hm.2⟩
theorem wU.dot{z:Nat->UInt8}{wh:Bool}{i:Nat}(h:wU z wh i){n:Nat}(hn:((List.range (hN i)).any fun j=>decide (kC (hK i) (hD i) (j+1)=n))=true):z n=46:=by
 obtain⟨j,hj,e⟩:=qY.1 hn;rw[qG]at e;have:=h.e;unfold wn at this;have:=qW.1 this j hj;rw[e]at this;simpa using this
theorem rq(b:Bool):vB 46≠xK b:=by
 have:vB 46=0:=by decide +kernel
 rw[this];cases b<;>decide
theorem wU.none{z:Nat->UInt8}{wh:Bool}{i:Nat}(h:wU z wh i){n:Nat}(hn:n<64)(hr:n/8=xE i/8)(hp:uO i n=false):vB (z n)≠xK (!wh):=by
 have:=ts i h.hi n hn hr hp;rw[Bool.or_eq_true,Bool.or_eq_true,qG,qG]at this;rcases this with(rfl|rfl)|e
 ·rw[ja (by omega) h.k];exact BC wh
 ·rw[ja (by omega) h.r];exact BC wh
 ·rw[h.dot e];exact rq _
theorem tn{z:Nat->UInt8}{wh:Bool}{fc:Nat->Bool}{b:Int}(hC:kJ z wh fc b)(h0:-1<=b)(h1:b<=63){i:Nat}(h:wU z wh i):kE (xD z 64) wh (vV b) 5 (hK i) (xE i)=true:=by
 obtain⟨f1,f2,f3,f4,f5,f6,f7,f8,f9,f10,f11,f12,f13,f14,f15,f16,f17⟩:=zi i h.hi;have zt:z (xE i)=46:=h.dot (pB i h.hi).1;have htr:yH (z (hK i)) 0=z (hK i):=by unfold yH;rw[qI rfl]
 have hP:jY z wh b 5 (hK i) (xE i) 0 (xE i):=⟨by omega,f1,f2,h.k,by rw[zt];exact rq _,fun _=>rfl,fun e=>by omega,⟨5,by omega,by rw[htr];exact h.k,Iff.rfl⟩⟩
 let Z:Nat->UInt8:=fun n=>if n=xE i then z (hK i)else if n=hK i then 46 else z n
 have hZ:DS z (hK i) (xE i) 0 (xE i) Z:=fun n=>by
  show(if n=xE i then z (hK i)else if n=hK i then 46 else z n)=_;rw[htr];by_cases c:n=xE i
  ·rw[qI c,qI c]
  ·rw[qF c,qF c,qF c]
 obtain⟨hok,y,hy,hR,e⟩:=b9 hP hZ hC.ok (hC.k1 wh) h0 h1;have hk1:=gR hP hZ (hC.k1 wh) h0 h1;obtain⟨y',hy',hs,hR'⟩:=js hk1
 have hyt:y=xE i:=by
  have:xE i∈vD (xD Z 64 (bg wh+5)):=by
   unfold vD;rw[qV,qK,vH _ _ _ f2];refine⟨f2,qJ ?_⟩;show jB (if xE i=xE i then z (hK i)else _)=_;rw[qI rfl];exact h.k
  rw[hs,qT]at this;omega
 rw[e,hyt,jk hok f2]
 have:zM Z ((xE i:Nat):Int) (!wh)=false:=by
  refine aW hC.ok h.hi h.a (fun n hn hr=>?_) (fun n hn hr hp=>?_) (fun n hn hr hp=>?_)
  ·show(if n=xE i then z (hK i)else if n=hK i then 46 else z n)=_;rw[qF (fun e=>hr (by rw[e])),qF (fun e=>hr (by rw[e,f5]))]
  ·show(if n=xE i then z (hK i)else if n=hK i then 46 else z n)=_;rw[qF (fun e=>by rw[e,f7]at hp;cases hp),qF (fun e=>by rw[e,f6]at hp;cases hp)]
  ·show vB (if n=xE i then z (hK i)else if n=hK i then 46 else z n)≠_;split
   ·rw[ja (by omega) h.k];exact BC wh
   ·split
    ·exact rq _
    ·exact h.none hn hr hp
 rw[this];rfl
theorem aX{z:Nat->UInt8}{wh:Bool}{fc:Nat->Bool}{b:Int}(hC:kJ z wh fc b){i:Nat}(h:wU z wh i):xR (zE z b (hK i,xE i,0)) wh=((xE i:Nat):Int)/\uS z wh b (hK i,xE i,0)=true:=by
 obtain⟨f1,f2,f3,f4,f5,f6,f7,f8,f9,f10,f11,f12,f13,f14,f15,f16,f17⟩:=zi i h.hi;obtain⟨hp,hk⟩:=zj (i:=5) (by omega) h.k;have hp:jD (z (hK i))=false:=by rw[hp];rfl
 have hk:jA (z (hK i))=true:=by rw[hk];rfl
 have hat:=FB (b:=b) h.hi hp hk;have zt:z (xE i)=46:=h.dot (pB i h.hi).1;generalize hZ:zE z b (hK i,xE i,0)=Z at hat;have hT:Z (xE i)=z (hK i):=by rw[hat,qF (fun e=>f15 e.symm),qF (fun e=>f16 e.symm),qI rfl]
 have hoff:∀n,n≠hR i->n≠rN i->n≠xE i->n≠hK i->Z n=z n:=fun n a1 a2 a3 a4=>by rw[hat,qF a1,qF a2,qF a3,qF a4]
 have hok:xO Z=true:=by
  refine Fy fun n hn=>?_
  rw[hat];split
  ·rfl
  ·split
   ·exact ji hC.ok f3
   ·split
    ·exact ji hC.ok f1
    ·split
     ·rfl
     ·exact ji hC.ok hn
 have hR:xR Z wh=((xE i:Nat):Int):=by
  refine qkm (fun j hj=>?_) ?_ f2
  ·rw[di,qX,hat];split
   ·rw[xp];omega
   ·split
    ·rw[h.r];omega
    ·split
     ·omega
     ·split
      ·rw[xp];omega
      ·rename_i e;intro k;exact e (FO (hC.k1 wh) (by omega) f1 k h.k)
  ·rw[di,hT,h.k];simp
 have hsafe:zM Z ((xE i:Nat):Int) (!wh)=false:=by
  refine aW hC.ok h.hi h.a (fun n hn hr=>?_) (fun n hn hr hp=>?_) (fun n hn hr hp=>?_)
  ·exact hoff n (fun e=>hr (by rw[e,f10,f5])) (fun e=>hr (by rw[e,f11,f5])) (fun e=>hr (by rw[e])) (fun e=>hr (by rw[e,f5]))
  ·exact hoff n (fun e=>by rw[e,f8]at hp;cases hp) (fun e=>by rw[e,f9]at hp;cases hp) (fun e=>by rw[e,f7]at hp;cases hp) (fun e=>by rw[e,f6]at hp;cases hp)
  ·rw[hat];split
   ·exact rq _
   ·split
    ·rw[ja (by omega) h.r];exact BC wh
    ·split
     ·rw[ja (by omega) h.k];exact BC wh
     ·split
      ·exact rq _
      ·exact h.none hn hr hp
 refine⟨hR,?_⟩;unfold uS;rw[hZ,hR];show(!(vL Z (xE i) (!wh)))=true;rw[jk hok f2,hsafe];rfl
theorem ug:∀wh:Bool,∀u∈[(0,0),(113,4),(114,3),(98,2),(110,1)],jB (yH (yQ (bg wh)) (UInt8.ofNat u.1))=((bg wh+u.2:Nat):Int):=by decide +kernel
theorem qxv:∀f,f<64->∀t,t<64->xS (fun _=>46) 5 1 ((f:Nat):Int) ((t:Nat):Int)=true->t≠f+2/\t+2≠f:=by decide +kernel
theorem gE{f:Nat->Int}{s x y:Int}(h:xS f 0 s x y=true):y/8-x/8=s:=by
 unfold xS at h;rw[qI rfl,qH,beq_iff_eq,beq_iff_eq]at h;exact h.2
theorem wX{p:Bool}{f t:Nat}{x:Mv}(h:x∈xT p f t):∃u,x=(f,t,u)/\(p=false->u=0)/\(u=0\/u=113\/u=114\/u=98\/u=110):=by
 unfold xT at h;split at h
 ·rename_i hp;rw[qH]at hp;simp only[List.mem_cons,List.not_mem_nil,or_false]at h;rcases h with rfl|rfl|rfl|rfl
  ·exact⟨113,rfl,(fun e=>by rw[hp.1]at e;cases e),by simp⟩
  ·exact⟨114,rfl,(fun e=>by rw[hp.1]at e;cases e),by simp⟩
  ·exact⟨98,rfl,(fun e=>by rw[hp.1]at e;cases e),by simp⟩
  ·exact⟨110,rfl,(fun e=>by rw[hp.1]at e;cases e),by simp⟩
 ·rw[qT.1 h];exact⟨0,rfl,fun _=>rfl,.inl rfl⟩
theorem Fe{z:Nat->UInt8}{wh:Bool}{i f:Nat}{u:UInt8}(hi:i<6)(hc:jB (z f)=((bg wh+i:Nat):Int))(h0:i≠0->u=0)(hu:u=0\/u=113\/u=114\/u=98\/u=110):∃q,q<6/\jB (yH (z f) u)=((bg wh+q:Nat):Int)/\(q=5↔i=5):=by
 by_cases e:i=0
 ·subst e;have hz:=jn (by cases wh<;>decide) hc
  rw[hz,Nat.add_zero];rcases hu with rfl|rfl|rfl|rfl|rfl
  ·exact⟨0,by omega,ug wh (0,0) (by simp),by omega⟩
  ·exact⟨4,by omega,ug wh (113,4) (by simp),by omega⟩
  ·exact⟨3,by omega,ug wh (114,3) (by simp),by omega⟩
  ·exact⟨2,by omega,ug wh (98,2) (by simp),by omega⟩
  ·exact⟨1,by omega,ug wh (110,1) (by simp),by omega⟩
 ·rw[h0 e];exact⟨i,hi,by unfold yH;rw[qI rfl];exact hc,Iff.rfl⟩
theorem lT{z:Nat->UInt8}{wh:Bool}{b:Int}(h:xX z wh b=true){t:Nat}(ht:(t:Int)=b):z t=46/\(if wh then 40<=t/\t<48/\z (t-8)=112 else 16<=t/\t<24/\z (t+8)=80):=by
 unfold xX at h;rw[Bool.or_eq_true,qG]at h;rcases h with h|h
 ·omega
 ·cases wh
  ·simp only[qR,if_false,qH,qG]at h ⊢;obtain⟨⟨⟨⟨a,b1⟩,c⟩,_⟩,d⟩:=h;subst ht;rw[Int.toNat_natCast]at c;rw[show((t:Int)+8).toNat=t+8 from by omega]at d;exact⟨uc c rfl,by omega,by omega,uc d rfl⟩
  ·simp only[if_true,qH,qG]at h ⊢;obtain⟨⟨⟨⟨a,b1⟩,c⟩,_⟩,d⟩:=h;subst ht;rw[Int.toNat_natCast]at c;rw[show((t:Int)-8).toNat=t-8 from by omega]at d;exact⟨uc c rfl,by omega,by omega,uc d rfl⟩
theorem qkf:jB 112=((bg false:Nat):Int)/\jB 80=((bg true:Nat):Int):=by decide +kernel
theorem Ey{z:Nat->UInt8}{wh:Bool}{b:Int}(h:xX z wh b=true){f t:Nat}(_hf:f<64)(hc:jB (z f)=((bg wh:Nat):Int))(ha:oB z wh f t)(_hr:¬ (f/8=0\/f/8=7)):(t:Int)≠b:=by
 intro ht;obtain⟨_,h2⟩:=lT h ht;cases wh
 ·simp only[qR,if_false]at h2;rcases ha with⟨e,_⟩|⟨hs,e,_⟩
  ·have e:t=f-8:=e;have:t+8=f:=by omega
   rw[this]at h2;rw[h2.2.2,qkf.2]at hc;exact absurd hc (by decide)
  ·have e:t=f-16:=e;have hs:f/8=6:=by simpa[vQ]using hs
   omega
 ·simp only[if_true]at h2;rcases ha with⟨e,_⟩|⟨hs,e,_⟩
  ·have e:t=f+8:=e;have:t-8=f:=by omega
   rw[this]at h2;rw[h2.2.2,qkf.1]at hc;exact absurd hc (by decide)
  ·have e:t=f+16:=e;have hs:f/8=1:=by simpa[vQ]using hs
   omega
def wu(wh:Bool)(b:Int)(i t:Nat):Nat:=if i=0/\(t:Int)=b then(if wh then t-8 else t+8)else t
theorem ko{z:Nat->UInt8}{wh:Bool}{fc:Nat->Bool}{b:Int}(hC:kJ z wh fc b){i f t:Nat}{u:UInt8}(hi:i<6)(hf:f<64)(ht:t<64)(hc:jB (z f)=((bg wh+i:Nat):Int))(hm:t∈yF z wh fc b f)(hu:(f,t,u)∈xT (decide (i=0)) f t) :
  (jY z wh b i f t u (wu wh b i t)/\(i=5->t≠f+2/\t+2≠f))\/(∃ci,wU z wh ci/\f=hK ci/\t=xE ci/\u=0/\i=5):=by
 obtain⟨u',e,u0,u1⟩:=wX hu;have:u=u':=by injection e with _ e;injection e
 subst this;have htr:=Fe hi hc (fun h=>u0 (qE h)) u1;obtain⟨hp,hk⟩:=zj hi hc;have hokt:=ji hC.ok ht;have nep:¬ (i=0/\(t:Int)=b)->wu wh b i t=t:=fun h=>by unfold wu;rw[qF h]
 have eph:(t:Int)/8-(f:Int)/8=xK wh->i=0->(t:Int)=b->z t=46/\wu wh b i t<64/\wu wh b i t=f/8*8+t%8/\(if wh then wu wh b i t+8=t else wu wh b i t=t+8)/\jB (z (wu wh b i t))=((bg (!wh):Nat):Int):=fun hd h0 hb=>by
  obtain⟨z0,h2⟩:=lT hC.beh hb;unfold wu;rw[qI ⟨h0,hb⟩];cases wh
  ·simp only[qR,if_false,xK]at h2 hd ⊢;exact⟨z0,by omega,by omega,trivial,by rw[h2.2.2];exact qkf.2⟩
  ·simp only[if_true,xK]at h2 hd ⊢;exact⟨z0,by omega,by omega,by omega,by rw[h2.2.2];exact qkf.1⟩
 unfold yF at hm;rw[List.mem_append,qV]at hm;rcases hm with⟨hm,hmay⟩|hm
 ·left;rw[Dq hf hi hc ht]at hm
  have hno:vB (z t)≠xK wh:=by
   unfold yG at hmay;rw[hp]at hmay;by_cases e0:i=0
   ·rw[qJ e0,qI rfl,Bool.or_eq_true,beq_iff_eq]at hmay;rcases hmay with hb|hb
    ·rw[(lT hC.beh hb).1];exact rq _
    ·rw[rt hokt,qG]at hb;rw[hb];exact fun k=>BC wh k.symm
   ·rw[qE e0,qF (by simp),Bool.not_eq_true',rt hokt,qX]at hmay;exact hmay
  refine⟨⟨hi,hf,ht,hc,hno,nep,fun h0 hb=>?_,htr⟩,fun h5=>?_⟩
  ·subst h0;exact eph (gE hm) rfl hb
  ·subst h5;have:=(qx8 hm).1;rw[FI _ 5 (by omega) _ 1]at this;exact qxv f hf t ht this
 ·rw[hp,hk]at hm;by_cases e0:i=0
  ·left;have hr:=hC.pw wh f hf (by rw[hc,e0];rfl);rw[qJ e0,qI rfl,Fq hf hr]at hm;have hne:=Ey hC.beh hf (by rw[hc,e0];rfl) hm hr
   have hz:z t=46:=by
    rcases hm with⟨e1,e2⟩|⟨_,e1,_,e2⟩
    ·rw[e1];exact e2
    ·rw[e1];exact e2
   exact⟨⟨hi,hf,ht,hc,by rw[hz];exact rq _,nep,fun _ hb=>absurd hb hne,htr⟩,fun h5=>by omega⟩
  ·rw[qE e0,qF (by simp)]at hm;by_cases e5:i=5
   ·right;subst e5;rw[qJ rfl,qI rfl]at hm;obtain⟨h1,h2⟩:=FK hC hf hc;have hu0:=u0 (qE e0);rcases List.mem_append.1 hm with hm|hm
    ·unfold uz at hm;split at hm
     ·rename_i hh;rw[qH]at hh;have hfe:=h1 hh.1;have e:hK (jC wh)+2=xE (jC wh)/\hD (jC wh)=1/\hN (jC wh)=2:=by cases wh<;>decide
      refine⟨jC wh,cJ hC (by cases wh<;>decide) (by cases wh<;>rfl) hh.1 ?_,hfe,?_,hu0,rfl⟩
      ·rw[e.2.1,e.2.2,<-hfe];exact hh.2
      ·rw[qT.1 hm,<-e.1,<-hfe]
     ·cases hm
    ·unfold pA at hm;split at hm
     ·rename_i hh;rw[qH]at hh;have hfe:=h2 hh.1;have e:hK (jC wh+1)-2=xE (jC wh+1)/\hD (jC wh+1)=-1/\hN (jC wh+1)=3:=by cases wh<;>decide
      refine⟨jC wh+1,cJ hC (by cases wh<;>decide) (by cases wh<;>rfl) hh.1 ?_,hfe,?_,hu0,rfl⟩
      ·rw[e.2.1,e.2.2,<-hfe];exact hh.2
      ·rw[qT.1 hm,<-e.1,<-hfe]
     ·cases hm
   ·rw[qE e5,qF (by simp)]at hm;cases hm
theorem Dt{s:BitVec 64}{n:Nat}:n∈vD s↔n<64/\s.getLsbD n=true:=by
 unfold vD;rw[qV,qK]
theorem Ay{z:Nat->UInt8}{wh:Bool}{fc:Nat->Bool}{b:Int}(hC:kJ z wh fc b){x:Mv}:x∈ye z wh fc b 64↔∃i f t u,x=(f,t,u)/\i<6/\f<64/\t<64/\jB (z f)=((bg wh+i:Nat):Int)/\t∈yF z wh fc b f/\(f,t,u)∈xT (decide (i=0)) f t:=by
 unfold ye nh;rw[List.mem_flatMap];constructor
 ·rintro⟨f,hf,h⟩;have hf:=qK.1 hf;split at h
  ·rename_i hm;rw[rt (ji hC.ok hf),qG]at hm;obtain⟨i,hi,e1,_⟩:=zq hm;obtain⟨t,ht,h⟩:=List.mem_flatMap.1 h;unfold AB at h;rw[(zj hi e1).1]at h;obtain⟨u,rfl,_,_⟩:=wX h
   have ht64:t<64:=by
    unfold yF at ht;rw[List.mem_append,qV]at ht;rcases ht with⟨a,_⟩|ht
    ·exact cP hf a
    ·obtain⟨hp,hk⟩:=zj hi e1;rw[hp,hk]at ht;by_cases e0:i=0
     ·rw[qJ e0,qI rfl,Fq hf (hC.pw wh f hf (by rw[e1,e0];rfl))]at ht;have hr:=hC.pw wh f hf (by rw[e1,e0];rfl);rcases ht with⟨a,_⟩|⟨a,c,_⟩
      ·rw[a];unfold fw;split<;>omega
      ·rw[c];unfold vQ at a;unfold fw;cases wh<;>simp at a<;>simp<;>omega
     ·rw[qE e0,qF (by simp)]at ht;by_cases e5:i=5
      ·subst e5;rw[qJ rfl,qI rfl]at ht;obtain⟨h1,h2⟩:=FK hC hf e1;rcases List.mem_append.1 ht with ht|ht
       ·unfold uz at ht;split at ht
        ·rename_i hh;rw[qH]at hh;rw[qT.1 ht,h1 hh.1];cases wh<;>decide
        ·cases ht
       ·unfold pA at ht;split at ht
        ·rw[qT.1 ht];omega
        ·cases ht
      ·rw[qE e5,qF (by simp)]at ht;cases ht
   exact⟨i,f,t,u,rfl,hi,hf,ht64,e1,ht,h⟩
  ·cases h
 ·rintro⟨i,f,t,u,rfl,hi,hf,ht,hc,hm,hu⟩;refine⟨f,qK.2 hf,?_⟩;rw[qI (by rw[rt (ji hC.ok hf)];exact qJ (ja hi hc))];refine List.mem_flatMap.2 ⟨t,hm,?_⟩;unfold AB;rw[(zj hi hc).1];exact hu
theorem jy{z:Nat->UInt8}{wh:Bool}{fc:Nat->Bool}{b:Int}(hC:kJ z wh fc b)(h0:-1<=b)(h1:b<=63){i f t:Nat}{u:UInt8}(hi:i<6)(hf:f<64)(ht:t<64)(hc:jB (z f)=((bg wh+i:Nat):Int))(hm:t∈yF z wh fc b f)(hu:(f,t,u)∈xT (decide (i=0)) f t) :
  (∃y:Nat,y<64/\xR (zE z b (f,t,u)) wh=(y:Int))/\kE (xD z 64) wh (vV b) i f t=uS z wh b (f,t,u):=by
 rcases ko hC hi hf ht hc hm hu with⟨hP,kg⟩|⟨ci,hK',e1,e2,e3,e4⟩
 ·exact b8 hP kg hC.ok (hC.k1 wh) h0 h1
 ·subst e1 e2 e3 e4;obtain⟨a1,a2⟩:=aX hC (b:=b) hK';exact⟨⟨xE ci,ht,a1⟩,by rw[a2,tn hC h0 h1 hK']⟩
theorem qjw{z:Nat->UInt8}{wh:Bool}{fc:Nat->Bool}{b:Int}(hC:kJ z wh fc b)(h0:-1<=b)(h1:b<=63):lg z wh fc b:=by
 have king:∀f t u,(f,t,u)∈ye z wh fc b 64->jA (z f)=true->(t=f+2\/t+2=f)->f=4\/f=60:=fun f t u hx hk he=>by
  obtain⟨i,f',t',u',e,hi,hf,ht,hc,hm,hu⟩:=(Ay hC).1 hx;have e1:f=f':=by injection e
  have e2:t=t':=by injection e with _ e;injection e
  have e3:u=u':=by injection e with _ e;injection e
  subst e1 e2 e3;rcases ko hC hi hf ht hc hm hu with⟨hP,kg⟩|⟨ci,hK',e1,_,_,_⟩
  ·rw[(zj hi hc).2,qG]at hk;have:=kg hk;omega
  ·rw[e1];unfold hK;split<;>omega
 refine⟨fun f hf hm hk hfc=>?_,fun f t u hx hk he=>?_,fun f t u hx hk he=>?_,fun x hx=>?_⟩
 ·rw[rt (ji hC.ok hf),qG]at hm;obtain⟨i,hi,e1,_⟩:=zq hm;rw[(zj hi e1).2,qG]at hk;subst hk;obtain⟨h1,h2⟩:=FK hC hf e1;rw[Bool.or_eq_true]at hfc;rcases hfc with e|e
  ·rw[h1 e];cases wh<;>decide
  ·rw[h2 e];cases wh<;>decide
 ·have:=king f t u hx hk (.inl he);omega
 ·have:=king f t u hx hk (.inr he);omega
 ·obtain⟨i,f,t,u,rfl,hi,hf,ht,hc,hm,hu⟩:=(Ay hC).1 hx;exact(jy hC h0 h1 hi hf ht hc hm hu).1
theorem je{z:Nat->UInt8}{wh:Bool}{fc:Nat->Bool}{b:Int}(hC:kJ z wh fc b)(h0:-1<=b)(h1:b<=63)(x:Mv):x∈yo z wh fc b↔x∈xC z wh fc b:=by
 have hbg:=mM wh;unfold yo xC zH yN kF bE;rw[qV,Ay hC];simp only[List.mem_flatMap,qK,Dt];constructor
 ·rintro⟨⟨i,f,t,u,rfl,hi,hf,ht,hc,hm,hu⟩,hl⟩;refine⟨i,hi,f,⟨hf,by rw[vH z _ f hf];exact qJ hc⟩,t,⟨ht,(ph hC h0 h1 hi hf ht hc).1 hm⟩,?_⟩;rw[(jy hC h0 h1 hi hf ht hc hm hu).2,qI hl];exact hu
 ·rintro⟨i,hi,f,⟨hf,hfb⟩,t,⟨ht,htb⟩,hx⟩;rw[vH z _ f hf,qG]at hfb;have hm:=(ph hC h0 h1 hi hf ht hfb).2 htb;split at hx
  ·rename_i hl;obtain⟨u,rfl,_,_⟩:=wX hx;refine⟨⟨i,f,t,u,rfl,hi,hf,ht,hfb,hm,hx⟩,?_⟩;rw[<-(jy hC h0 h1 hi hf ht hfb hm hx).2];exact hl
  ·cases hx
end Go.Proofs.YtnfakamfmkhlbabGreatDoor.C
