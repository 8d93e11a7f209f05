import Derived.Test.YtnfakamfmkhlbabGreatDoorUm22
import Derived.Test.YtnfakamfmkhlbabGreatDoorUm7
import Derived.Test.YtnfakamfmkhlbabGreatDoorUm21
import Derived.Test.YtnfakamfmkhlbabGreatDoorUm12
import Derived.Test.YtnfakamfmkhlbabGreatDoorUm11
import Derived.Test.YtnfakamfmkhlbabGreatDoorUm4
import Derived.Deep.QuietTactic
import Derived.BigQuiet
import Derived.Deep.RegionHeld3
import Derived.Test.YtnfakamfmkhlbabGreatDoorUm19
import Derived.Test.YtnfakamfmkhlbabGreatDoorUm15
import Derived.Test.YtnfakamfmkhlbabGreatDoorKz2
import Derived.Test.YtnfakamfmkhlbabGreatDoorUm13
import Derived.WalkKit
import Derived.RangeFuncNested
import Derived.RangeFuncBound
import Derived.RangeFuncCalls
import Derived.RangeFuncLeaves
import Derived.RangeFuncIn
import Derived.OwnWalkIn
import Derived.TacticsInMore
set_option maxRecDepth 100000
set_option maxHeartbeats 4000000
set_option linter.unusedSimpArgs false
namespace Go.Proofs.YtnfakamfmkhlbabGreatDoor.C
open Go.RowKit Go.Proofs.YtnfakamfmkhlbabGreatDoor.P Go.ChangeShapes Go.WideShapes Go.ChangeAt Go.Shelf
section
theorem Fl{z:Nat->UInt8}{bb:Bool}(h:vZ z bb 64=1):∃y,y<64/\∀n,n<64->(jB (z n)=((bg bb+5:Nat):Int)↔n=y):=by
 unfold vZ at h;obtain⟨y,hy⟩:=List.length_eq_one_iff.1 h;have hm:∀n,n∈(List.range 64).filter (fun n=>decide (jB (z n)=((bg bb+5:Nat):Int)))↔n=y:=fun n=>by rw[hy,qT]
 have h1:y<64:=qK.1 (qV.1 ((hm y).2 rfl)).1;refine⟨y,h1,fun n hn=>?_⟩;rw[<-hm n,qV,qG,qK];exact⟨fun h=>⟨hn,h⟩,fun h=>h.2⟩
theorem BM:∀y,y<64->((List.range 64).filter fun n=>decide (n=y)).length=1:=by decide +kernel
theorem un{Z:Nat->UInt8}{bb:Bool}{y:Nat}(hy:y<64)(h:∀n,n<64->(jB (Z n)=((bg bb+5:Nat):Int)↔n=y)):vZ Z bb 64=1:=by
 unfold vZ;rw[List.filter_congr (q:=fun n=>decide (n=y)) (fun n hn=>decide_eq_decide.2 (h n (qK.1 hn)))];exact BM y hy
def wW(f t n:Nat):Nat:=if n=f then t else if n=t then f else n
theorem dD(f t n:Nat):wW f t (wW f t n)=n:=by
 unfold wW;by_cases h1:n=f
 ·subst h1;rw[qI rfl];by_cases h2:t=n
  ·rw[qI h2,h2]
  ·rw[qF h2,qI rfl]
 ·rw[qF h1];by_cases h2:n=t
  ·subst h2;rw[qI rfl,qI rfl]
  ·rw[qF h2,qF h1,qF h2]
theorem oq{f t n:Nat}(hf:f<64)(ht:t<64)(hn:n<64):wW f t n<64:=by
 unfold wW;split
 ·exact ht
 ·split
  ·exact hf
  ·exact hn
theorem oo{f t:Nat}(hf:f<64)(ht:t<64):((List.range 64).map (wW f t)).Perm (List.range 64):=by
 have hnd:((List.range 64).map (wW f t)).Nodup:=by
  rw[List.nodup_iff_pairwise_ne,List.pairwise_map];exact(List.nodup_iff_pairwise_ne.1 List.nodup_range).imp fun {a c} hac h=>hac (by rw[<-dD f t a,h,dD])
 rw[List.perm_ext_iff_of_nodup hnd List.nodup_range];intro a;rw[List.mem_map,qK];constructor
 ·rintro⟨n,hn,rfl⟩;exact oq hf ht (qK.1 hn)
 ·intro ha;exact⟨wW f t a,qK.2 (oq hf ht ha),dD f t a⟩
theorem sQ{z Z:Nat->UInt8}{bb:Bool}{f t:Nat}(hf:f<64)(ht:t<64)(h:∀n,n<64->(vB (Z n)=xK bb↔vB (z (wW f t n))=xK bb)):ka Z bb 64=ka z bb 64:=by
 unfold ka;rw[<-List.countP_eq_length_filter,<-List.countP_eq_length_filter,<-(oo hf ht).countP_eq (fun n=>decide (vB (z n)=xK bb)),List.countP_map];refine List.countP_congr fun n hn=>?_
 simp only[Function.comp,qG];exact h n (qK.1 hn)
theorem EF{z Z:Nat->UInt8}{bb:Bool}(h:∀n,n<64->vB (Z n)=xK bb->vB (z n)=xK bb):ka Z bb 64<=ka z bb 64:=by
 unfold ka;rw[<-List.countP_eq_length_filter,<-List.countP_eq_length_filter];refine List.countP_mono_left fun n hn=>?_
 rw[qG,qG];exact h n (qK.1 hn)
structure pG(z Z:Nat->UInt8)(wh:Bool)(f t cs:Nat)(c:UInt8):Prop where
 at':∀n,Z n=if n=t then c else if n=f then 46 else if n=cs then 46 else z n
 hf:f<64
 ht:t<64
 own:vB (z f)=xK wh
 no:vB (z t)≠xK wh
 new:vB c=xK wh
 op:cs=t\/vB (z cs)=xK (!wh)
theorem FQ:vB 46=0:=by decide +kernel
theorem FT(b:Bool):xK b≠0:=by cases b<;>decide
theorem pG.ne{z Z:Nat->UInt8}{wh:Bool}{f t cs:Nat}{c:UInt8}(h:pG z Z wh f t cs c):f≠t:=fun e=>h.no (by rw[<-e];exact h.own)
theorem pG.men{z Z:Nat->UInt8}{wh:Bool}{f t cs:Nat}{c:UInt8}(h:pG z Z wh f t cs c):ka Z wh 64=ka z wh 64/\ka Z (!wh) 64<=ka z (!wh) 64:=by
 have hne:=h.ne;constructor
 ·refine sQ h.hf h.ht fun n hn=>?_
  rw[h.at' n];unfold wW;by_cases c1:n=t
  ·rw[qI c1,qF (fun e=>hne (e.symm.trans c1)),qI c1];exact⟨fun _=>h.own,fun _=>h.new⟩
  ·rw[qF c1];by_cases c2:n=f
   ·rw[qI c2,qI c2,FQ];exact⟨fun e=>absurd e.symm (FT wh),fun e=>absurd e h.no⟩
   ·rw[qF c2,qF c2,qF c1];by_cases c3:n=cs
    ·rw[qI c3,FQ];rcases h.op with e|e
     ·exact absurd (c3.trans e) c1
     ·refine⟨fun e'=>absurd e'.symm (FT wh),fun e'=>?_⟩;rw[c3,e]at e';exact absurd e'.symm (BC wh)
    ·rw[qF c3]
 ·refine EF fun n hn hx=>?_
  rw[h.at' n]at hx;by_cases c1:n=t
  ·rw[qI c1,h.new]at hx;exact absurd hx (BC wh)
  ·rw[qF c1]at hx;by_cases c2:n=f
   ·rw[qI c2,FQ]at hx;exact absurd hx.symm (FT _)
   ·rw[qF c2]at hx;by_cases c3:n=cs
    ·rw[qI c3,FQ]at hx;exact absurd hx.symm (FT _)
    ·rwa[qF c3]at hx
theorem jv{z:Nat->UInt8}{wh:Bool}{b:Int}{i f t cs:Nat}{u:UInt8}(h:jY z wh b i f t u cs)(kg:i=5->t≠f+2/\t+2≠f):pG z (zE z b (f,t,u)) wh f t cs (yH (z f) u):=by
 obtain⟨q,hq,e,_⟩:=h.tr;refine⟨iq h kg,h.hf,h.ht,ja h.hi h.hc,h.no,ja hq e,?_⟩;by_cases hep:i=0/\(t:Int)=b
 ·obtain⟨_,_,_,_,e5⟩:=h.ep hep.1 hep.2;exact .inr (ja (q:=0) (by omega) e5)
 ·exact .inl (h.nep hep)
theorem tE{z:Nat->UInt8}{wh:Bool}{fc:Nat->Bool}{b:Int}{f t:Nat}{u:UInt8}{i:Nat}(hi:i<6)(hc:jB (z f)=((bg wh+i:Nat):Int))(hg:j9 z wh fc b f t u=true)(kg:i=5->t≠f+2/\t+2≠f):xS (zI z) i (xK wh) (f:Int) (t:Int)=true\/z t=46:=by
 have hk:=ro hi hc;unfold j9 at hg;simp only[qH]at hg;obtain⟨⟨⟨_,_⟩,hu⟩,hg⟩:=hg;by_cases e0:vE (z f)=0
 ·have i0:i=0:=by omega
  subst i0;rw[qI e0]at hg;unfold BD at hg;by_cases ha:xS (zI z) 0 (xK wh) (f:Int) (t:Int)=true
  ·exact .inl ha
  ·rw[qF ha]at hg;simp only[qH,qG]at hg;exact .inr hg.1.2
 ·rw[qF e0]at hg;have en:(vE (z f)).toNat=i:=by rw[hk];exact Int.toNat_natCast i
  rw[en]at hg;unfold EE at hg;by_cases ha:xS (zI z) i (xK wh) (f:Int) (t:Int)=true
  ·exact .inl ha
  ·exfalso
   rw[qF ha,Bool.and_assoc,qH,qG]at hg
   have hu0:u=0:=by
    rw[qE e0,Bool.false_and]at hu;have:=eq_of_beq hu;exact Classical.byContradiction fun h=>by rw[qJ h]at this;cases this
   subst hu0;obtain⟨j,hj,_,_,e1,e2,_,_⟩:=Fv.1 hg.2;have:=kg hg.1;have:=cI j hj;omega
theorem BS{z:Nat->UInt8}{wh:Bool}{fc:Nat->Bool}{b:Int}{f t:Nat}{u:UInt8}{i:Nat}(hi:i<6)(hf:f<64)(ht:t<64)(hc:jB (z f)=((bg wh+i:Nat):Int))(hg:j9 z wh fc b f t u=true)(kg:i=5->t≠f+2/\t+2≠f)(h1:vZ z (!wh) 64=1)(ha:zM z (xR z (!wh)) wh=false):jB (z t)≠((bg (!wh)+5:Nat):Int):=by
 intro ek;rcases tE hi hc hg kg with h|h
 ·obtain⟨y,hy,hyy,e⟩:=js h1;obtain⟨y',_,hk⟩:=Fl h1;have ety:t=y':=(hk t ht).1 ek
  have eyy:y=y':=(hk y hy).1 (by
   have hm:y∈vD (xD z 64 (bg (!wh)+5)):=by rw[hyy];simp
   have:=Dt.1 hm;rw[dc z _ 64 (by omega) y hy]at this;exact(q8 this.2).2)
  rw[e,eyy,<-ety]at ha;unfold zM at ha;rw[List.any_eq_false]at ha;refine ha f (qK.2 hf) ?_;rw[ja hi hc,(qkr hi hc).2,h];simp
 ·rw[h,xp]at ek;have:=mM wh;omega
theorem cO(bb wh:Bool):bb=wh\/bb=!wh:=by cases bb<;>cases wh<;>simp
theorem BF:∀c∈([80,112]:List UInt8),∀u∈([113,114,98,110]:List UInt8),0<vE (yH c u):=by decide +kernel
structure nt(Z:Nat->UInt8):Prop where
 bad:∀n,n<64->vf Z n=false
 kin:∀bb,vZ Z bb 64=1
 men:∀bb,ka Z bb 64<=16
section
variable {z:Nat->UInt8}{wh:Bool}{fc:Nat->Bool}{b:Int}{i f t cs:Nat}{u:UInt8}
theorem jY.kings(hP:jY z wh b i f t u cs)(kg:i=5->t≠f+2/\t+2≠f)(hk1:∀bb,vZ z bb 64=1)(hnk:jB (z t)≠((bg (!wh)+5:Nat):Int)):∀bb,vZ (zE z b (f,t,u)) bb 64=1:=by
 have hS:=jv hP kg;have hbg:=mM wh;have hne:=hS.ne;obtain⟨q,hq,eq,q5⟩:=hP.tr;have hi:=hP.hi
 have hcs:cs=t\/jB (z cs)=((bg (!wh):Nat):Int):=by
  by_cases hep:i=0/\(t:Int)=b
  ·obtain⟨_,_,_,_,e5⟩:=hP.ep hep.1 hep.2;exact .inr e5
  ·exact .inl (hP.nep hep)
 intro bb;rcases cO bb wh with rfl|rfl
 ·obtain⟨y,hy,hk⟩:=Fl (hk1 bb);by_cases i5:i=5
  ·have efy:f=y:=(hk f hP.hf).1 (by rw[hP.hc,i5]);refine un hP.ht fun n hn=>?_
   rw[hS.at' n];by_cases c1:n=t
   ·rw[qI c1,eq,q5.2 i5];exact⟨fun _=>c1,fun _=>rfl⟩
   ·rw[qF c1];by_cases c2:n=f
    ·rw[qI c2,xp];exact⟨fun e=>by omega,fun e=>absurd e c1⟩
    ·rw[qF c2];by_cases c3:n=cs
     ·rw[qI c3,xp];exact⟨fun e=>by omega,fun e=>absurd e c1⟩
     ·rw[qF c3,hk n hn];exact⟨fun e=>absurd (e.trans efy.symm) c2,fun e=>absurd e c1⟩
  ·refine un hy fun n hn=>?_
   rw[hS.at' n];by_cases c1:n=t
   ·rw[qI c1,eq];refine⟨fun e=>?_,fun e=>?_⟩
    ·exact absurd (q5.1 (by omega)) i5
    ·have:=(hk t hP.ht).2 (c1.symm.trans e);exact absurd (ja (by omega) this) hP.no
   ·rw[qF c1];by_cases c2:n=f
    ·rw[qI c2,xp];refine⟨fun e=>by omega,fun e=>?_⟩;have:=(hk f hP.hf).2 (c2.symm.trans e);rw[hP.hc]at this;omega
    ·rw[qF c2];by_cases c3:n=cs
     ·rw[qI c3,xp];refine⟨fun e=>by omega,fun e=>?_⟩;have:=(hk n hn).2 e;rcases hcs with e'|e'
      ·exact absurd (c3.trans e') c1
      ·rw[c3,e']at this;omega
     ·rw[qF c3];exact hk n hn
 ·obtain⟨y,hy,hk⟩:=Fl (hk1 (!wh));refine un hy fun n hn=>?_
  rw[hS.at' n];by_cases c1:n=t
  ·rw[qI c1,eq];refine⟨fun e=>by omega,fun e=>?_⟩;exact absurd ((hk t hP.ht).2 (c1.symm.trans e)) hnk
  ·rw[qF c1];by_cases c2:n=f
   ·rw[qI c2,xp];refine⟨fun e=>by omega,fun e=>?_⟩;have:=(hk f hP.hf).2 (c2.symm.trans e);rw[hP.hc]at this;omega
   ·rw[qF c2];by_cases c3:n=cs
    ·rw[qI c3,xp];refine⟨fun e=>by omega,fun e=>?_⟩;have:=(hk n hn).2 e;rcases hcs with e'|e'
     ·exact absurd (c3.trans e') c1
     ·rw[c3,e']at this;omega
    ·rw[qF c3];exact hk n hn
theorem iA{c:UInt8}{bb:Bool}{q n:Nat}{Z:Nat->UInt8}(hz:Z n=c)(hq:q<6)(e:jB c=((bg bb+q:Nat):Int))(h:q=0->¬ (n/8=0\/n/8=7)):vf Z n=false:=by
 unfold vf;rw[hz,ro hq e];cases (c==46)with
 | true=>rfl
 | false =>
  rw[qE (show ¬ ((q:Nat):Int)<0 by omega)];by_cases q0:q=0
  ·have:=h q0;rw[qE (show ¬ n/8=0 by omega),qE (show ¬ n/8=7 by omega)];cases decide (((q:Nat):Int)=0)<;>rfl
  ·rw[qE (show ¬ ((q:Nat):Int)=0 by omega)];rfl
theorem qky{n:Nat}{Z:Nat->UInt8}(hz:Z n=46):vf Z n=false:=by
 unfold vf;rw[hz];rfl
theorem wH{n:Nat}{z Z:Nat->UInt8}(hz:Z n=z n)(h:vf z n=false):vf Z n=false:=by
 unfold vf at h ⊢;rw[hz];exact h
theorem jY.bad(hP:jY z wh b i f t u cs)(kg:i=5->t≠f+2/\t+2≠f)(hu5:u∈U5)(hg:j9 z wh fc b f t u=true)(hb:∀n,n<64->vf z n=false):∀n,n<64->vf (zE z b (f,t,u)) n=false:=by
 have hS:=jv hP kg;obtain⟨q,hq,eq,q5⟩:=hP.tr;have hk:=ro hP.hi hP.hc;intro n hn;have hat:=hS.at' n;by_cases c1:n=t
 ·rw[qI c1]at hat;refine iA hat hq eq fun q0 hl=>?_
  rw[c1]at hl;unfold j9 at hg;simp only[qH]at hg;have hu:=eq_of_beq hg.1.2
  have hlast:zO t=true:=by
   unfold zO;rcases hl with e|e
   ·rw[qJ e];rfl
   ·rw[qJ e,Bool.or_true]
  rw[hlast,Bool.and_true]at hu;have hkq:=ro hq eq;by_cases u0:u=0
  ·subst u0;have ht0:yH (z f) 0=z f:=by unfold yH;rw[qI rfl]
   rw[ht0,hk]at hkq;rw[hk,qJ (show((i:Nat):Int)=0 by omega)]at hu;cases hu
  ·rw[qJ u0]at hu;have hz0:vE (z f)=0:=q8 hu.symm;have hi0:i=0:=by omega
   have hzf:z f∈([80,112]:List UInt8):=by
    have:=jn (p:=bg wh+i) (by have:=mM wh;omega) hP.hc;rw[this,hi0];cases wh<;>decide
   have hu4:u∈([113,114,98,110]:List UInt8):=by
    unfold U5 at hu5;simp only[List.mem_cons,List.not_mem_nil,or_false]at hu5 ⊢;rcases hu5 with e|e|e|e|e
    ·exact absurd e u0
    ·exact .inr (.inr (.inl e))
    ·exact .inr (.inr (.inr e))
    ·exact .inl e
    ·exact .inr (.inl e)
   have:=BF _ hzf _ hu4;omega
 ·rw[qF c1]at hat;by_cases c2:n=f
  ·rw[qI c2]at hat;exact qky hat
  ·rw[qF c2]at hat;by_cases c3:n=cs
   ·rw[qI c3]at hat;exact qky hat
   ·rw[qF c3]at hat;exact wH hat (hb n hn)
theorem jY.brd(hP:jY z wh b i f t u cs)(kg:i=5->t≠f+2/\t+2≠f)(hu5:u∈U5)(hg:j9 z wh fc b f t u=true)(hB:nt z)(hnk:jB (z t)≠((bg (!wh)+5:Nat):Int)):nt (zE z b (f,t,u)):=by
 refine⟨hP.bad kg hu5 hg hB.bad,hP.kings kg hB.kin hnk,fun bb=>?_⟩;obtain⟨m1,m2⟩:=(jv hP kg).men;rcases cO bb wh with rfl|rfl
 ·rw[m1];exact hB.men _
 ·exact q7 m2 (hB.men _)
end
section
variable {z:Nat->UInt8}{wh:Bool}{fc:Nat->Bool}{b:Int}
theorem nE{i:Nat}(h:wU z wh i):z (xE i)=46/\z (rN i)=46:=by
 have he:=h.e;unfold wn at he;rw[qW]at he;obtain⟨h1,h2⟩:=pB i h.hi;obtain⟨j1,m1,e1⟩:=qY.1 h1;obtain⟨j2,m2,e2⟩:=qY.1 h2;have a1:=eq_of_beq (he j1 m1);have a2:=eq_of_beq (he j2 m2);rw[q8 e1]at a1;rw[q8 e2]at a2;exact⟨a1,a2⟩
def EO(z:Nat->UInt8)(i n:Nat):UInt8:=if n=xE i then z (hK i)else if n=hK i then 46 else if n=xE i then 46 else z n
theorem CU{i:Nat}(h:wU z wh i)(hB:nt z):nt (zE z b (hK i,xE i,0)):=by
 obtain⟨f1,f2,f3,f4,f5,f6,f7,f8,f9,f10,f11,f12,f13,f14,f15,f16,f17⟩:=zi i h.hi;obtain⟨e1,e2⟩:=nE h;obtain⟨hp,hk⟩:=zj (i:=5) (by omega) h.k;have hp:jD (z (hK i))=false:=by rw[hp];rfl
 have hk:jA (z (hK i))=true:=by rw[hk];rfl
 have hat:=FB (b:=b) h.hi hp hk;have hbg:=mM wh;have s1:pG z (EO z i) wh (hK i) (xE i) (xE i) (z (hK i)):=⟨fun n=>rfl,f1,f2,ja (by omega) h.k,by rw[e1,FQ];exact fun e=>FT wh e.symm,ja (by omega) h.k,.inl rfl⟩;have k1:EO z i (hR i)=z (hR i):=by unfold EO;rw[qF f15,qF f13,qF f15]
 have k2:EO z i (rN i)=z (rN i):=by unfold EO;rw[qF f16,qF f14,qF f16]
 have s2:pG (EO z i) (zE z b (hK i,xE i,0)) wh (hR i) (rN i) (rN i) (z (hR i)):=by
  refine⟨fun n=>?_,f3,f4,by rw[k1];exact ja (by omega) h.r,by rw[k2,e2,FQ];exact fun e=>FT wh e.symm,ja (by omega) h.r,.inl rfl⟩;rw[hat n];by_cases c1:n=hR i
  ·rw[qI c1,qF (fun e=>f17 (e.symm.trans c1)),qI c1]
  ·rw[qF c1];by_cases c2:n=rN i
   ·rw[qI c2,qI c2]
   ·rw[qF c2,qF c2,qF c1,qF c2];unfold EO;by_cases c3:n=xE i
    ·rw[qI c3,qI c3]
    ·rw[qF c3,qF c3,qF c3]
 refine⟨fun n hn=>?_,fun bb=>?_,fun bb=>?_⟩
 ·have hn':=hat n;by_cases c1:n=hR i
  ·rw[qI c1]at hn';exact qky hn'
  ·rw[qF c1]at hn';by_cases c2:n=rN i
   ·rw[qI c2]at hn';exact iA hn' (q:=3) (by omega) h.r (by omega)
   ·rw[qF c2]at hn';by_cases c3:n=xE i
    ·rw[qI c3]at hn';exact iA hn' (q:=5) (by omega) h.k (by omega)
    ·rw[qF c3]at hn';by_cases c4:n=hK i
     ·rw[qI c4]at hn';exact qky hn'
     ·rw[qF c4]at hn';exact wH hn' (hB.bad n hn)
 ·rcases cO bb wh with rfl|rfl
  ·obtain⟨y,hy,hkk⟩:=Fl (hB.kin bb);have eky:hK i=y:=(hkk _ f1).1 h.k;refine un f2 fun n hn=>?_
   rw[hat n];by_cases c1:n=hR i
   ·rw[qI c1,xp];exact⟨fun e=>by omega,fun e=>absurd (c1.symm.trans e) f15⟩
   ·rw[qF c1];by_cases c2:n=rN i
    ·rw[qI c2,h.r];exact⟨fun e=>by omega,fun e=>absurd (c2.symm.trans e) f16⟩
    ·rw[qF c2];by_cases c3:n=xE i
     ·rw[qI c3,h.k];exact⟨fun _=>c3,fun _=>rfl⟩
     ·rw[qF c3];by_cases c4:n=hK i
      ·rw[qI c4,xp];exact⟨fun e=>by omega,fun e=>absurd e c3⟩
      ·rw[qF c4,hkk n hn];exact⟨fun e=>absurd (e.trans eky.symm) c4,fun e=>absurd e c3⟩
  ·obtain⟨y,hy,hkk⟩:=Fl (hB.kin (!wh));have no:∀m,m<64->jB (z m)≠((bg (!wh)+5:Nat):Int)->m≠y:=fun m hm hx e=>hx ((hkk m hm).2 e)
   have n1:=no _ f3 (by rw[h.r];omega);have n2:=no _ f4 (by rw[e2,xp];omega);have n3:=no _ f2 (by rw[e1,xp];omega);have n4:=no _ f1 (by rw[h.k];omega);refine un hy fun n hn=>?_
   rw[hat n];by_cases c1:n=hR i
   ·rw[qI c1,xp];exact⟨fun e=>by omega,fun e=>absurd (c1.symm.trans e) n1⟩
   ·rw[qF c1];by_cases c2:n=rN i
    ·rw[qI c2,h.r];exact⟨fun e=>by omega,fun e=>absurd (c2.symm.trans e) n2⟩
    ·rw[qF c2];by_cases c3:n=xE i
     ·rw[qI c3,h.k];exact⟨fun e=>by omega,fun e=>absurd (c3.symm.trans e) n3⟩
     ·rw[qF c3];by_cases c4:n=hK i
      ·rw[qI c4,xp];exact⟨fun e=>by omega,fun e=>absurd (c4.symm.trans e) n4⟩
      ·rw[qF c4];exact hkk n hn
 ·obtain⟨a1,a2⟩:=s1.men;obtain⟨b1,b2⟩:=s2.men;rcases cO bb wh with rfl|rfl
  ·rw[b1,a1];exact hB.men _
  ·exact q7 b2 (q7 a2 (hB.men _))
theorem lO{Z:Nat->UInt8}{F:Nat->Bool}(h0:F 0=true->Z 4=75/\Z 7=82)(h1:F 1=true->Z 4=75/\Z 0=82)(h2:F 2=true->Z 60=107/\Z 63=114)(h3:F 3=true->Z 60=107/\Z 56=114):jH Z F=true:=by
 have key:∀(ks:Nat)(kl:Int)(rs:Nat)(rl:Int)(k:Nat)(a d:UInt8),(a.toNat:Int)=kl->(d.toNat:Int)=rl->(F k=true->Z ks=a/\Z rs=d)->xN Z F ks kl rs rl k=true:=fun ks kl rs rl k a d ea ed h=>by
  unfold xN;cases hf:F k with
  | false=>rfl
  | true =>
   obtain⟨e1,e2⟩:=h hf;rw[e1,e2,ea,ed,qJ rfl,qJ rfl];rfl
 unfold jH;rw[qW];intro k hk;have hk:=qK.1 hk;have:k=0\/k=1\/k=2\/k=3:=by omega
 rcases this with rfl|rfl|rfl|rfl
 ·exact key 4 75 7 82 0 75 82 rfl rfl h0
 ·exact key 4 75 0 82 1 75 82 rfl rfl h1
 ·exact key 60 107 63 114 2 107 114 rfl rfl h2
 ·exact key 60 107 56 114 3 107 114 rfl rfl h3
theorem Fw{f t k:Nat}(hk:k<4)(h:kB fc f t 4 k=true):fc k=true/\(f:Int)≠xY k/\(t:Int)≠xY k/\(f:Int)≠zD k/\(t:Int)≠zD k:=by
 unfold kB E6 pP at h;simp only[lS,qH,Bool.not_eq_true',Bool.and_eq_false_iff,Bool.or_eq_false_iff,qX]at h;obtain⟨h1,h2⟩:=h;rcases h2 with h2|⟨⟨a,c⟩,d,e⟩
 ·exact absurd hk h2
 ·exact⟨h1,a,c,d,e⟩
theorem nC{h g:Int}(hc:zP h g=true)(f t:Nat):zP (kK z f t h) (kj wh g)=true:=by
 unfold zP at hc ⊢;simp only[qH,qG]at hc ⊢;unfold kK kj;refine⟨⟨⟨?_,?_⟩,?_⟩,?_⟩
 ·split<;>omega
 ·split<;>omega
 ·split<;>omega
 ·split<;>omega
end
section
variable {z:Nat->UInt8}{wh:Bool}{fc:Nat->Bool}{b:Int}{i f t cs:Nat}{u:UInt8}
theorem Ed:jB 75=5/\jB 82=3/\jB 107=11/\jB 114=9:=by decide +kernel
theorem jY.keep(hP:jY z wh b i f t u cs)(kg:i=5->t≠f+2/\t+2≠f){n:Nat}(h1:n≠t)(h2:n≠f)(h3:jB (z n)≠0/\jB (z n)≠6):zE z b (f,t,u) n=z n:=by
 rw[(jv hP kg).at' n,qF h1,qF h2];by_cases c3:n=cs
 ·exfalso
  by_cases hep:i=0/\(t:Int)=b
  ·obtain⟨_,_,_,_,e5⟩:=hP.ep hep.1 hep.2;rw[<-c3]at e5;have:=mM wh;omega
  ·exact h1 (c3.trans (hP.nep hep))
 ·rw[qF c3]
theorem jY.cast(hP:jY z wh b i f t u cs)(kg:i=5->t≠f+2/\t+2≠f)(hC:kJ z wh fc b):jH (zE z b (f,t,u)) (kB fc f t 4)=true:=by
 obtain⟨x1,x2,x3,x4⟩:=Ed;refine lO (fun h=>?_) (fun h=>?_) (fun h=>?_) (fun h=>?_)
 ·obtain⟨a,a1,a2,a3,a4⟩:=Fw (by omega) h;obtain⟨c1,c2⟩:=hC.c0 a;simp[xY,zD]at a1 a2 a3 a4;rw[hP.keep kg (n:=4) (by omega) (by omega) (by rw[c1];omega),hP.keep kg (n:=7) (by omega) (by omega) (by rw[c2];omega)];exact⟨c1,c2⟩
 ·obtain⟨a,a1,a2,a3,a4⟩:=Fw (by omega) h;obtain⟨c1,c2⟩:=hC.c1 a;simp[xY,zD]at a1 a2 a3 a4;rw[hP.keep kg (n:=4) (by omega) (by omega) (by rw[c1];omega),hP.keep kg (n:=0) (by omega) (by omega) (by rw[c2];omega)];exact⟨c1,c2⟩
 ·obtain⟨a,a1,a2,a3,a4⟩:=Fw (by omega) h;obtain⟨c1,c2⟩:=hC.c2 a;simp[xY,zD]at a1 a2 a3 a4;rw[hP.keep kg (n:=60) (by omega) (by omega) (by rw[c1];omega),hP.keep kg (n:=63) (by omega) (by omega) (by rw[c2];omega)];exact⟨c1,c2⟩
 ·obtain⟨a,a1,a2,a3,a4⟩:=Fw (by omega) h;obtain⟨c1,c2⟩:=hC.c3 a;simp[xY,zD]at a1 a2 a3 a4;rw[hP.keep kg (n:=60) (by omega) (by omega) (by rw[c1];omega),hP.keep kg (n:=56) (by omega) (by omega) (by rw[c2];omega)];exact⟨c1,c2⟩
theorem jY.beh(hP:jY z wh b i f t u cs)(kg:i=5->t≠f+2/\t+2≠f)(hg:j9 z wh fc b f t u=true):xX (zE z b (f,t,u)) (!wh) (vK z f t)=true:=by
 have hS:=jv hP kg;have hf:=hP.hf;have ht:=hP.ht;unfold vK;rw[dR];by_cases c0:vE (z f)=0
 case neg=>rw[qE c0];rfl
 rw[qJ c0,Bool.true_and];by_cases c2:AW f t=true
 case neg=>rw[qF c2];rfl
 rw[qI c2];have h4:uI f t*uI f t=4:=q8 c2;unfold j9 at hg;simp only[qH]at hg;obtain⟨⟨_,hu⟩,hg⟩:=hg;rw[qI c0]at hg;unfold BD at hg
 have na:¬ xS (zI z) 0 (xK wh) (f:Int) (t:Int)=true:=fun ha=>by
  have:=lW ha;rw[this]at h4;cases wh<;>cases h4
 rw[qF na]at hg;unfold DC at hg;simp only[qH,Bool.or_eq_true,qG]at hg;obtain⟨⟨e8,zt⟩,hg⟩:=hg;rcases hg with hg|⟨⟨hup,hr⟩,zm⟩
 ·rw[hg]at h4;cases wh<;>cases h4
 have hi0:i=0:=by have:=ro hP.hi hP.hc;omega
 have hu0:zO t=false->yH (z f) u=z f:=fun hl=>by
  rw[hl,Bool.and_false]at hu;have:=eq_of_beq hu;have u0:u=0:=Classical.byContradiction fun h=>by rw[qJ h]at this;cases this
  rw[u0];unfold yH;rw[qI rfl]
 have zf:=jn (p:=bg wh+i) (by have:=mM wh;omega) hP.hc;rw[hi0]at zf
 have mid:∀n,n≠t->n≠f->z n=46->zE z b (f,t,u) n=46:=fun n n1 n2 n3=>by
  rw[hS.at' n,qF n1,qF n2,n3];split<;>rfl
 have atf:zE z b (f,t,u) f=46:=by rw[hS.at' f,qF hS.ne,qI rfl]
 have att:zE z b (f,t,u) t=yH (z f) u:=by rw[hS.at' t,qI rfl]
 unfold uI at hup;cases wh
 ·simp only[xK,qR,if_false]at hup hr zm
  have hl:zO t=false:=by
   unfold zO;rw[qE (show ¬ t/8=0 by omega),qE (show ¬ t/8=7 by omega)];rfl
  rw[hu0 hl,zf,show yQ (bg false+0)=112 by decide +kernel]at att;obtain⟨m,rfl⟩:∃m,f=m+16:=⟨f-16,by omega⟩;have et:t=m:=by omega
  subst et;have em:(t+16+t)/2=t+8:=by omega
  rw[em];unfold xX;have zm':=mid (t+8) (by omega) (by omega) (by rw[show t+16-8=t+8 by omega]at zm;exact zm);rw[show(((t+8:Nat):Int)).toNat=t+8 from Int.toNat_natCast _,show(((t+8:Nat):Int)+8).toNat=t+16 by omega,show(((t+8:Nat):Int)-8).toNat=t by omega,zm',atf,att];simp only[Bool.not_false,if_true];rw[qJ (show(40:Int)<=((t+8:Nat):Int) by omega),qJ (show((t+8:Nat):Int)<48 by omega)];simp
 ·simp only[xK,if_true]at hup hr zm
  have hl:zO t=false:=by
   unfold zO;rw[qE (show ¬ t/8=0 by omega),qE (show ¬ t/8=7 by omega)];rfl
  rw[hu0 hl,zf,show yQ (bg true+0)=80 by decide +kernel]at att;have et:t=f+16:=by omega
  subst et;have em:(f+(f+16))/2=f+8:=by omega
  rw[em];unfold xX;have zm':=mid (f+8) (by omega) (by omega) zm;rw[show(((f+8:Nat):Int)).toNat=f+8 from Int.toNat_natCast _,show(((f+8:Nat):Int)+8).toNat=f+16 by omega,show(((f+8:Nat):Int)-8).toNat=f by omega,zm',atf,att];simp only[Bool.not_true,qR,if_false];rw[qJ (show(16:Int)<=((f+8:Nat):Int) by omega),qJ (show((f+8:Nat):Int)<24 by omega)];simp
theorem tw{i:Nat}(h:wU z wh i)(hC:kJ z wh fc b):jH (zE z b (hK i,xE i,0)) (kB fc (hK i) (xE i) 4)=true:=by
 obtain⟨hp,hk⟩:=zj (i:=5) (by omega) h.k;have hp:jD (z (hK i))=false:=by rw[hp];rfl
 have hk:jA (z (hK i))=true:=by rw[hk];rfl
 have hat:=FB (b:=b) h.hi hp hk;have hi:=h.hi;have:i=0\/i=1\/i=2\/i=3:=by omega
 refine lO (fun h=>?_) (fun h=>?_) (fun h=>?_) (fun h=>?_)
 all_goals
  obtain⟨a,a1,a2,a3,a4⟩:=Fw (by omega) h;rw[hat,hat];rcases this with rfl|rfl|rfl|rfl<;>simp[hK,hR,xE,rN,xY,zD]at a1 a2 a3 a4 ⊢<;>first|exact hC.c0 a|exact hC.c1 a|exact hC.c2 a|exact hC.c3 a
end
theorem nH{z:Nat->UInt8}{wh:Bool}{fc:Nat->Bool}{b h g:Int}(hcan:k6 z wh fc b h g=true)(h0:-1<=b)(h1:b<=63){f t:Nat}{u:UInt8}(hx:(f,t,u)∈xC z wh fc b):k6 (zE z b (f,t,u)) (!wh) (kB fc f t 4) (vK z f t) (kK z f t h) (kj wh g)=true:=by
 have hC:=qkv hcan;rw[<-aY]at hcan ⊢;have hok:=zg _ _ _ _ _ hx;have hf:f<64:=hok.1;have ht:t<64:=hok.2;have hxl:=(je hC h0 h1 _).2 hx;obtain⟨i,f',t',u',e,hi,_,_,hc,hm,hu⟩:=(Ay hC).1 (qV.1 hxl).1;have e1:f=f':=by injection e
 have e2:t=t':=by injection e with _ e;injection e
 have e3:u=u':=by injection e with _ e;injection e
 subst e1 e2 e3;obtain⟨u2,e4,_,hu1⟩:=wX hu;have e5:u=u2:=by injection e4 with _ e4;injection e4
 subst e5
 have hu5:u∈U5:=by
  unfold U5;rcases hu1 with e|e|e|e|e<;>rw[e]<;>decide
 have hleg:=(C8 hC h0 h1 hf ht hu5).2 hxl;unfold vo at hleg;rw[qH,pC hC hi hf ht hc hm hu]at hleg;obtain⟨hgo,hatt⟩:=hleg;have hatt:zM (zE z b (f,t,u)) (xR (zE z b (f,t,u)) wh) (!wh)=false:=by simpa using hatt
 unfold zT at hcan;simp only[qH,qG,qW,Bool.not_eq_true']at hcan;obtain⟨⟨⟨⟨⟨hbad,⟨⟨hk1,hk2⟩,hm1⟩,hm2⟩,_⟩,_⟩,ho⟩,hclk⟩:=hcan;have hB:nt z:=⟨fun n hn=>hbad n (qK.2 hn),fun bb=>by cases bb<;>assumption,fun bb=>by cases bb<;>assumption⟩
 have fin:nt (zE z b (f,t,u))->jH (zE z b (f,t,u)) (kB fc f t 4)=true->xX (zE z b (f,t,u)) (!wh) (vK z f t)=true->zT (zE z b (f,t,u)) (!wh) (kB fc f t 4) (vK z f t) (kK z f t h) (kj wh g)=true:=fun hZ q1 q2=>by
  unfold zT;rw[Bool.not_not,hatt,q1,q2,nC hclk f t,qJ (hZ.kin true),qJ (hZ.kin false),qJ (hZ.men true),qJ (hZ.men false)];have:((List.range 64).all fun n=>!(vf (zE z b (f,t,u)) n))=true:=qW.2 fun n hn=>by rw[hZ.bad n (qK.1 hn)];rfl
  rw[this];rfl
 rcases ko hC hi hf ht hc hm hu with⟨hP,kg⟩|⟨ci,hK',a1,a2,a3,a4⟩
 ·have hnk:=BS hi hf ht hc hgo kg (hB.kin _) ho;exact fin (hP.brd kg hu5 hgo hB hnk) (hP.cast kg hC) (hP.beh kg hgo)
 ·subst a1 a2 a3;refine fin (CU hK' hB) (tw hK' hC) ?_;have hpw:jD (z (hK ci))=false:=by rw[(zj hi hc).1,a4];rfl
  unfold vK;rw[hpw];rfl
end
section
attribute [local go_sem] qd qe
theorem ib(k:Nat)(hk:k<64):IntKind.u64.wrap (2 ^ k)=U (1#64 <<< k):=by
 have:=rp k hk;unfold v6 at this;rw[<-this,Int.toNat_natCast]
end
theorem dY{z:Nat->UInt8}{wh:Bool}{fc:Nat->Bool}{b:Int}(hC:kJ z wh fc b)(h0:-1<=b)(h1:b<=63){x:Mv}(hx:x∈xC z wh fc b):x.2.2∈U5:=by
 obtain⟨i,f',t',u',e,hi,_,_,hc,hm,hu⟩:=(Ay hC).1 (qV.1 ((je hC h0 h1 x).2 hx)).1;obtain⟨u2,e4,_,hu1⟩:=wX hu;have e5:u'=u2:=by injection e4 with _ e4;injection e4
 rw[e];show u'∈U5;rw[e5];unfold U5;rcases hu1 with e|e|e|e|e<;>rw[e]<;>decide
theorem BI{s:ByteArray}{p:pH}(hr:xG s=some p):∀n,64<=n->xM p n=0:=by
 obtain⟨B,h1,h2,_⟩:=FM s p hr;intro n hn;rw[ip (by first|exact h1|exact h2)];unfold zB;rw[List.getD_eq_getElem?_getD,List.getElem?_eq_none (by omega)];rfl
structure Mvd(z:Nat->UInt8)(wh:Bool)(fc:Nat->Bool)(b:Int)(f t:Nat)(u:UInt8):Prop where
 far:∀n,64<=n->zE z b (f,t,u) n=z n
 safe:zM (zE z b (f,t,u)) (xR (zE z b (f,t,u)) wh) (!wh)=false
 king:∃y:Nat,y<64/\xR (zE z b (f,t,u)) wh=(y:Int)
theorem D8{z:Nat->UInt8}{wh:Bool}{fc:Nat->Bool}{b:Int}(hC:kJ z wh fc b)(h0:-1<=b)(h1:b<=63){f t:Nat}{u:UInt8}(hx:(f,t,u)∈xC z wh fc b):Mvd z wh fc b f t u:=by
 have hok:=zg _ _ _ _ _ hx;have hf:f<64:=hok.1;have ht:t<64:=hok.2;have hu5:u∈U5:=dY hC h0 h1 hx;have hxl:=(je hC h0 h1 _).2 hx;obtain⟨i,f',t',u',e,hi,_,_,hc,hm,hu⟩:=(Ay hC).1 (qV.1 hxl).1;have e1:f=f':=by injection e
 have e2:t=t':=by injection e with _ e;injection e
 have e3:u=u':=by injection e with _ e;injection e
 subst e1 e2 e3;have hleg:=(C8 hC h0 h1 hf ht hu5).2 hxl;unfold vo at hleg;rw[qH,pC hC hi hf ht hc hm hu]at hleg;refine⟨fun n hn=>?_,by simpa using hleg.2,(jy hC h0 h1 hi hf ht hc hm hu).1⟩;rcases ko hC hi hf ht hc hm hu with⟨hP,kg⟩|⟨ci,hK',a1,a2,a3,a4⟩
 ·rw[(jv hP kg).at' n,qF (by omega),qF (by omega),qF];intro ec;by_cases hep:i=0/\(t:Int)=b
  ·obtain⟨_,hcs,_,_,_⟩:=hP.ep hep.1 hep.2;omega
  ·have:=hP.nep hep;omega
 ·subst a1 a2 a3;obtain⟨hp,hk⟩:=zj (i:=5) (by omega) hK'.k;have hp:jD (z (hK ci))=false:=by rw[hp];rfl
  have hk:jA (z (hK ci))=true:=by rw[hk];rfl
  obtain⟨f1,f2,f3,f4,_⟩:=zi ci hK'.hi;rw[FB (b:=b) hK'.hi hp hk n,qF (by omega),qF (by omega),qF (by omega),qF (by omega)]
def mr(n:Nat):Nat:=(7-n/8)*8+n%8
def mm(x:Mv):Mv:=(mr x.1,mr x.2.1,x.2.2)
theorem qkj{z:Nat->UInt8}{wh:Bool}{fc:Nat->Bool}{b:Int}(hC:kJ z wh fc b)(h0:-1<=b)(h1:b<=63){f t:Nat}{u:UInt8}(hf:f<64)(ht:t<64)(hu:u∈U5):(f,t,u)∈xC z wh fc b↔vo z wh fc b f t u=true:=by
 rw[C8 hC h0 h1 hf ht hu,je hC h0 h1]
theorem tv{wh:Bool}{fc fd:Nat->Bool}(h:∀i,i<4->fc i=fd i)(f t:Nat)(u:UInt8):zK wh fc f t u=zK wh fd f t u:=by
 have hu:∀fc:Nat->Bool,zK wh fc f t u=if jZ wh fc f t u 0 then 0 else if jZ wh fc f t u 1 then 1 else if jZ wh fc f t u 2 then 2 else if jZ wh fc f t u 3 then 3 else -1:=fun _=>rfl
 have hc:∀i,i<4->jZ wh fc f t u i=jZ wh fd f t u i:=fun i hi=>by unfold jZ;rw[h i hi]
 rw[hu,hu,hc 0 (by omega),hc 1 (by omega),hc 2 (by omega),hc 3 (by omega)]
theorem sZ{z:Nat->UInt8}{wh:Bool}{fc fd:Nat->Bool}{b:Int}(h:∀i,i<4->fc i=fd i)(f t:Nat)(u:UInt8):vo z wh fc b f t u=vo z wh fd b f t u:=by
 have e1:j9 z wh fc b f t u=j9 z wh fd b f t u:=by
  unfold j9 EE;rw[tv h]
 have e2:ua z wh fc b f t u=ua z wh fd b f t u:=by
  unfold ua sm;rw[tv h]
 unfold vo;rw[e1,e2]
theorem EC{z:Nat->UInt8}{wh:Bool}{fc fd:Nat->Bool}{b:Int}(hC:kJ z wh fc b)(hD:kJ z wh fd b)(h0:-1<=b)(h1:b<=63)(h:∀i,i<4->fc i=fd i)(x:Mv):x∈xC z wh fc b↔x∈xC z wh fd b:=by
 obtain⟨f,t,u⟩:=x;constructor
 ·intro hx;have hok:=zg _ _ _ _ _ hx;have hu:u∈U5:=dY hC h0 h1 hx;rw[qkj hD h0 h1 hok.1 hok.2 hu,<-sZ h];exact(qkj hC h0 h1 hok.1 hok.2 hu).1 hx
 ·intro hx;have hok:=zg _ _ _ _ _ hx;have hu:u∈U5:=dY hD h0 h1 hx;rw[qkj hC h0 h1 hok.1 hok.2 hu,sZ h];exact(qkj hD h0 h1 hok.1 hok.2 hu).1 hx
section
attribute [local go_sem] qd qe Oper.semAt_some
end
section
structure Ok(z:Nat->UInt8)(wh:Bool)(fc:Nat->Bool)(b h g:Int):Prop where
 can:k6 z wh fc b h g=true
 b0:-1<=b
 b1:b<=63
 nz:∀n,64<=n->z n=0
 nf:∀n,4<=n->fc n=false
variable {z:Nat->UInt8}{wh:Bool}{fc:Nat->Bool}{b h g:Int}
theorem Ok.good(o:Ok z wh fc b h g):kJ z wh fc b:=qkv o.can
theorem Ok.clk(o:Ok z wh fc b h g):0<=h/\h<=65535/\0<=g/\g<=65535:=by
 obtain⟨_,_,a,c⟩:=nG o.can;omega
theorem Ok.lay(o:Ok z wh fc b h g):xO z=true:=o.good.ok
theorem Ok.next(o:Ok z wh fc b h g){f t:Nat}{u:UInt8}(hx:(f,t,u)∈xC z wh fc b):Ok (zE z b (f,t,u)) (!wh) (kB fc f t 4) (vK z f t) (kK z f t h) (kj wh g):=by
 have hok:=zg _ _ _ _ _ hx;obtain⟨c0,c1,c2,c3⟩:=o.clk;obtain⟨hb,_⟩:=iK z f t hok.1 hok.2 c0 (wh:=wh) c2 c3;exact⟨nH o.can o.b0 o.b1 hx,by omega,by omega,fun n hn=>by rw[(D8 o.good o.b0 o.b1 hx).far n hn];exact o.nz n hn,fun n hn=>by unfold kB;rw[o.nf n hn];rfl⟩
theorem Ok.mv(o:Ok z wh fc b h g){f t:Nat}{u:UInt8}(hx:(f,t,u)∈xC z wh fc b):f<64/\t<64/\u∈U5/\(jA (z f)=true->t=f+2->f+3<64)/\(jA (z f)=true->t+2=f->4<=f):=by
 have hok:=zg _ _ _ _ _ hx;have hL:=qjw o.good o.b0 o.b1;have hxl:=(qV.1 ((je o.good o.b0 o.b1 _).2 hx)).1;exact⟨hok.1,hok.2,dY o.good o.b0 o.b1 hx,fun a c=>hL.k1 f t u hxl a c,fun a c=>hL.k2 f t u hxl a c⟩
def yC(fc:Nat->Bool)(n:Nat):Bool:=decide (n<4)&&fc n
theorem fU(fc:Nat->Bool){n:Nat}(h:n<4):yC fc n=fc n:=by unfold yC;rw[qJ h];rfl
theorem Ok.of{s:ByteArray}{p:pH}(hr:xG s=some p)(hc:xP p=true):Ok (xM p) p.white (yC p.castle) p.behind p.half p.full:=by
 obtain⟨b0,b1⟩:=qjv hr;refine⟨?_,b0,b1,BI hr,fun n hn=>by unfold yC;rw[qE (by omega)];rfl⟩;rw[fx _ _ _ _ _ (fun i hi=>fU p.castle hi)];exact hc
theorem F5{PA:Array Value}(r:jE z wh fc b h g PA):jE z wh (yC fc) b h g PA:=⟨r.size,r.sq,r.wh,fun i hi=>by rw[fU fc hi];exact r.c i hi,r.b,r.h,r.g⟩
end
section
attribute [local go_sem] qd qe Oper.semAt_some
end
section
theorem vJ.fr{Q:Nat->Obj->Prop}{w w':World}(h:vJ w)(f:Fr Q w w')(hq:∀o,Q 1 o):vJ w' :=
 ⟨fun j v hv=>f.cell (h.1 j v hv) (fun o _=>hq o),qN h.2 f.size⟩
variable {z:Nat->UInt8}{wh:Bool}{fc:Nat->Bool}{b h g:Int}{PA:Array Value}
end
end Go.Proofs.YtnfakamfmkhlbabGreatDoor.C
namespace Go.Proofs.YtnfakamfmkhlbabGreatDoor.P
open Go.RowKit
theorem C5(n:Int):-1<=sg n/\sg n<=1:=by unfold sg;split<;>(try split)<;>omega
theorem nw(n:Int)(h0:-7<=n)(h1:n<=7):0<=ab n/\ab n<=7:=by unfold ab;split<;>omega
theorem mO(a b:Int)(h:0<=a/\a<=7)(g:0<=b/\b<=7):wrap64 (a*b)=a*b:=by
 have h1:0<=a*b:=Int.mul_nonneg h.1 g.1;have h2:a*b<=7*7:=Int.mul_le_mul h.2 g.2 g.1 (by omega);unfold wrap64;omega
theorem cC(df dr:Int) :
  ((ab df==ab dr)=true/\decide (0<ab df)=false/\(df==0)=true/\(dr==0)=true)
  ∨ ((ab df==ab dr)=false/\decide (0<ab df)=false/\(df==0)=true/\(dr==0)=false)
  ∨ ((ab df==ab dr)=false/\decide (0<ab df)=true/\(df==0)=false/\(dr==0)=true)
  ∨ ((ab df==ab dr)=true/\decide (0<ab df)=true/\(df==0)=false/\(dr==0)=false)
  ∨ ((ab df==ab dr)=false/\decide (0<ab df)=true/\(df==0)=false/\(dr==0)=false):=by
 simp only[beq_iff_eq,qM,qG,qX];unfold ab;split<;>split<;>omega
theorem FC(x y:Int)(h0:0<=x)(h1:x<=63)(h2:0<=y)(h3:y<=63)(hl:yd x y=true\/yg x y=true):1<=LI x y:=(Fz x y h0 h1 h2 h3 hl).1
theorem FD(x y:Int)(h0:0<=x)(h1:x<=63)(h2:0<=y)(h3:y<=63)(hl:yd x y=true\/yg x y=true):pI x y (LI x y)=y:=(Fz x y h0 h1 h2 h3 hl).2.1
theorem FE(x y:Int)(h0:0<=x)(h1:x<=63)(h2:0<=y)(h3:y<=63)(hl:yd x y=true\/yg x y=true):∀i,1<=i->i<LI x y->pI x y i≠y :=
 fun i a b=>((Fz x y h0 h1 h2 h3 hl).2.2 i (by omega)).2.2 a b
theorem FSq(x y:Int):pI x y 1=x+8*sg (y/8-x/8)+sg (y%8-x%8):=by
 unfold pI;omega
theorem FF(x y:Int):∀i,pI x y (i+1)=pI x y i+8*sg (y/8-x/8)+sg (y%8-x%8):=by
 intro i;unfold pI;rw[show((i+1:Nat):Int)=(i:Int)+1 from by omega,Int.add_mul];omega
end Go.Proofs.YtnfakamfmkhlbabGreatDoor.P
namespace Go.Proofs.YtnfakamfmkhlbabGreatDoor.C
open Go.RowKit
end Go.Proofs.YtnfakamfmkhlbabGreatDoor.C
