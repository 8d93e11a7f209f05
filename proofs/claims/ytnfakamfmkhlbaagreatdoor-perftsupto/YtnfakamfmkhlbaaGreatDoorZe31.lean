import Derived.Test.YtnfakamfmkhlbaaGreatDoorZe30
import Derived.Test.YtnfakamfmkhlbaaGreatDoorZe29
import Derived.Test.YtnfakamfmkhlbaaGreatDoorZe13
import Derived.Test.YtnfakamfmkhlbaaGreatDoorZe21
import Derived.Test.YtnfakamfmkhlbaaGreatDoorZe19
import Derived.Test.YtnfakamfmkhlbaaGreatDoorKz2
set_option maxRecDepth 100000
set_option maxHeartbeats 4000000
set_option linter.unusedSimpArgs false
namespace Go.Proofs.YtnfakamfmkhlbaaGreatDoor.C
open Go.RowKit
open Go.Proofs.YtnfakamfmkhlbaaGreatDoor.P
theorem cas_letters {z:Nat->UInt8} {wh:Bool} {fc:Nat->Bool} {b:Int} (hC:Can z wh fc b) {i:Nat} (h:Cas z wh i):kingR (plZ z b (hK i,casT i,0)) wh=((casT i:Nat):Int)/\letP z wh b (hK i,casT i,0)=true:=by
 obtain ⟨f1,f2,f3,f4,f5,f6,f7,f8,f9,f10,f11,f12,f13,f14,f15,f16,f17⟩:=za i h.hi;obtain ⟨hp,hk⟩:=zp (i:=5) (by omega) h.k;have hp:pawnB (z (hK i))=false:=by rw [hp];rfl
 have hk:kingB (z (hK i))=true:=by rw [hk];rfl
 have hat:=qvb (b:=b) h.hi hp hk;have zt:z (casT i)=46:=h.dot (cas_in i h.hi).1;generalize hZ:plZ z b (hK i,casT i,0)=Z at hat;have hT:Z (casT i)=z (hK i):=by rw [hat,if_neg (fun e=>f15 e.symm),if_neg (fun e=>f16 e.symm),if_pos rfl]
 have hoff:∀ n,n≠hR i->n≠rN i->n≠casT i->n≠hK i->Z n=z n:=fun n a1 a2 a3 a4=>by rw [hat,if_neg a1,if_neg a2,if_neg a3,if_neg a4]
 have hok:layOk Z=true:=by
  refine qqj fun n hn=>?_
  rw [hat];split
  ·rfl
  ·split
   ·exact ji hC.ok f3
   ·split
    ·exact ji hC.ok f1
    ·split
     ·rfl
     ·exact ji hC.ok hn
 have hR:kingR Z wh=((casT i:Nat):Int):=by
  refine qv0 (fun j hj=>?_) ?_ f2
  ·rw [king_ix,decide_eq_false_iff_not,hat];split
   ·rw [dot_ix];omega
   ·split
    ·rw [h.r];omega
    ·split
     ·omega
     ·split
      ·rw [dot_ix];omega
      ·rename_i e;intro k;exact e (qq7 (hC.k1 wh) (by omega) f1 k h.k)
  ·rw [king_ix,hT,h.k];simp
 have hsafe:attR Z ((casT i:Nat):Int) (!wh)=false:=by
  refine cas_safe hC.ok h.hi h.a (fun n hn hr=>?_) (fun n hn hr hp=>?_) (fun n hn hr hp=>?_)
  ·exact hoff n (fun e=>hr (by rw [e,f10,f5])) (fun e=>hr (by rw [e,f11,f5])) (fun e=>hr (by rw [e])) (fun e=>hr (by rw [e,f5]))
  ·exact hoff n (fun e=>by rw [e,f8] at hp;cases hp) (fun e=>by rw [e,f9] at hp;cases hp) (fun e=>by rw [e,f7] at hp;cases hp) (fun e=>by rw [e,f6] at hp;cases hp)
  ·rw [hat];split
   ·exact qql _
   ·split
    ·rw [xt (by omega) h.r];exact qv7 wh
    ·split
     ·rw [xt (by omega) h.k];exact qv7 wh
     ·split
      ·exact qql _
      ·exact h.none hn hr hp
 refine ⟨hR,?_⟩;unfold letP;rw [hZ,hR];show (!(attLB Z (casT i) (!wh)))=true;rw [jb hok f2,hsafe];rfl
theorem tr_all:∀ wh:Bool,∀ u∈[(0,0),(113,4),(114,3),(98,2),(110,1)],ixc (trn (letr (bg wh)) (UInt8.ofNat u.1))=((bg wh+u.2:Nat):Int):=by decide +kernel
theorem qjx:∀ f,f<64->∀ t,t<64->attI (fun _=>46) 5 1 ((f:Nat):Int) ((t:Nat):Int)=true->t≠f+2/\t+2≠f:=by decide +kernel
theorem pawn_step {f:Nat->Int} {s x y:Int} (h:attI f 0 s x y=true):y/8-x/8=s:=by
 unfold attI at h;rw [if_pos rfl,Bool.and_eq_true,beq_iff_eq,beq_iff_eq] at h;exact h.2
theorem qx1 {p:Bool} {f t:Nat} {x:Mv} (h:x∈turnsB p f t):∃ u,x=(f,t,u)/\(p=false->u=0)/\(u=0\/u=113\/u=114\/u=98\/u=110):=by
 unfold turnsB at h;split at h
 ·rename_i hp;rw [Bool.and_eq_true] at hp;simp only [List.mem_cons,List.not_mem_nil,or_false] at h;rcases h with rfl|rfl|rfl|rfl
  ·exact ⟨113,rfl,(fun e=>by rw [hp.1] at e;cases e),by simp⟩
  ·exact ⟨114,rfl,(fun e=>by rw [hp.1] at e;cases e),by simp⟩
  ·exact ⟨98,rfl,(fun e=>by rw [hp.1] at e;cases e),by simp⟩
  ·exact ⟨110,rfl,(fun e=>by rw [hp.1] at e;cases e),by simp⟩
 ·rw [List.mem_singleton.1 h];exact ⟨0,rfl,fun _=>rfl,.inl rfl⟩
theorem tr_of {z:Nat->UInt8} {wh:Bool} {i f:Nat} {u:UInt8} (hi:i<6) (hc:ixc (z f)=((bg wh+i:Nat):Int)) (h0:i≠0->u=0) (hu:u=0\/u=113\/u=114\/u=98\/u=110):∃ q,q<6/\ixc (trn (z f) u)=((bg wh+q:Nat):Int)/\(q=5↔i=5):=by
 by_cases e:i=0
 ·subst e;have hz:=zz (by cases wh<;>decide) hc
  rw [hz,Nat.add_zero];rcases hu with rfl|rfl|rfl|rfl|rfl
  ·exact ⟨0,by omega,tr_all wh (0,0) (by simp),by omega⟩
  ·exact ⟨4,by omega,tr_all wh (113,4) (by simp),by omega⟩
  ·exact ⟨3,by omega,tr_all wh (114,3) (by simp),by omega⟩
  ·exact ⟨2,by omega,tr_all wh (98,2) (by simp),by omega⟩
  ·exact ⟨1,by omega,tr_all wh (110,1) (by simp),by omega⟩
 ·rw [h0 e];exact ⟨i,hi,by unfold trn;rw [if_pos rfl];exact hc,Iff.rfl⟩
theorem beh_w {z:Nat->UInt8} {wh:Bool} {b:Int} (h:behOk z wh b=true) {t:Nat} (ht:(t:Int)=b):z t=46/\(if wh then 40<=t/\t<48/\z (t-8)=112 else 16<=t/\t<24/\z (t+8)=80):=by
 unfold behOk at h;rw [Bool.or_eq_true,decide_eq_true_eq] at h;rcases h with h|h
 ·omega
 ·cases wh
  ·simp only [Bool.false_eq_true,if_false,Bool.and_eq_true,decide_eq_true_eq] at h ⊢;obtain ⟨⟨⟨⟨a,b1⟩,c⟩,_⟩,d⟩:=h;subst ht;rw [Int.toNat_natCast] at c;rw [show ((t:Int)+8).toNat=t+8 from by omega] at d;exact ⟨u8_of c rfl,by omega,by omega,u8_of d rfl⟩
  ·simp only [if_true,Bool.and_eq_true,decide_eq_true_eq] at h ⊢;obtain ⟨⟨⟨⟨a,b1⟩,c⟩,_⟩,d⟩:=h;subst ht;rw [Int.toNat_natCast] at c;rw [show ((t:Int)-8).toNat=t-8 from by omega] at d;exact ⟨u8_of c rfl,by omega,by omega,u8_of d rfl⟩
theorem qvu:ixc 112=((bg false:Nat):Int)/\ixc 80=((bg true:Nat):Int):=by decide +kernel
theorem ah_not {z:Nat->UInt8} {wh:Bool} {b:Int} (h:behOk z wh b=true) {f t:Nat} (_hf:f<64) (hc:ixc (z f)=((bg wh:Nat):Int)) (ha:AhP z wh f t) (_hr:¬ (f/8=0\/f/8=7)):(t:Int)≠b:=by
 intro ht;obtain ⟨_,h2⟩:=beh_w h ht;cases wh
 ·simp only [Bool.false_eq_true,if_false] at h2;rcases ha with ⟨e,_⟩|⟨hs,e,_⟩
  ·have e:t=f-8:=e;have:t+8=f:=by omega
   rw [this] at h2;rw [h2.2.2,qvu.2] at hc;exact absurd hc (by decide)
  ·have e:t=f-16:=e;have hs:f/8=6:=by simpa [startR] using hs
   omega
 ·simp only [if_true] at h2;rcases ha with ⟨e,_⟩|⟨hs,e,_⟩
  ·have e:t=f+8:=e;have:t-8=f:=by omega
   rw [this] at h2;rw [h2.2.2,qvu.1] at hc;exact absurd hc (by decide)
  ·have e:t=f+16:=e;have hs:f/8=1:=by simpa [startR] using hs
   omega
def csN (wh:Bool) (b:Int) (i t:Nat):Nat:=if i=0/\(t:Int)=b then (if wh then t-8 else t+8) else t
theorem classify {z:Nat->UInt8} {wh:Bool} {fc:Nat->Bool} {b:Int} (hC:Can z wh fc b) {i f t:Nat} {u:UInt8} (hi:i<6) (hf:f<64) (ht:t<64) (hc:ixc (z f)=((bg wh+i:Nat):Int)) (hm:t∈tgL z wh fc b f) (hu:(f,t,u)∈turnsB (decide (i=0)) f t) :
  (Plain z wh b i f t u (csN wh b i t)/\(i=5->t≠f+2/\t+2≠f))\/(∃ ci,Cas z wh ci/\f=hK ci/\t=casT ci/\u=0/\i=5):=by
 obtain ⟨u',e,u0,u1⟩:=qx1 hu;have:u=u':=by injection e with _ e;injection e
 subst this;have htr:=tr_of hi hc (fun h=>u0 (decide_eq_false h)) u1;obtain ⟨hp,hk⟩:=zp hi hc;have hokt:=ji hC.ok ht;have nep:¬ (i=0/\(t:Int)=b)->csN wh b i t=t:=fun h=>by unfold csN;rw [if_neg h]
 have eph:(t:Int)/8-(f:Int)/8=sdb wh->i=0->(t:Int)=b->z t=46/\csN wh b i t<64/\csN wh b i t=f/8*8+t%8/\(if wh then csN wh b i t+8=t else csN wh b i t=t+8)/\ixc (z (csN wh b i t))=((bg (!wh):Nat):Int):=fun hd h0 hb=>by
  obtain ⟨z0,h2⟩:=beh_w hC.beh hb;unfold csN;rw [if_pos ⟨h0,hb⟩];cases wh
  ·simp only [Bool.false_eq_true,if_false,sdb] at h2 hd ⊢;exact ⟨z0,by omega,by omega,trivial,by rw [h2.2.2];exact qvu.2⟩
  ·simp only [if_true,sdb] at h2 hd ⊢;exact ⟨z0,by omega,by omega,by omega,by rw [h2.2.2];exact qvu.1⟩
 unfold tgL at hm;rw [List.mem_append,List.mem_filter] at hm;rcases hm with ⟨hm,hmay⟩|hm
 ·left;rw [qqy hf hi hc ht] at hm
  have hno:coc (z t)≠sdb wh:=by
   unfold mayB at hmay;rw [hp] at hmay;by_cases e0:i=0
   ·rw [decide_eq_true e0,if_pos rfl,Bool.or_eq_true,beq_iff_eq] at hmay;rcases hmay with hb|hb
    ·rw [(beh_w hC.beh hb).1];exact qql _
    ·rw [qqg hokt,decide_eq_true_eq] at hb;rw [hb];exact fun k=>qv7 wh k.symm
   ·rw [decide_eq_false e0,if_neg (by simp),Bool.not_eq_true',qqg hokt,decide_eq_false_iff_not] at hmay;exact hmay
  refine ⟨⟨hi,hf,ht,hc,hno,nep,fun h0 hb=>?_,htr⟩,fun h5=>?_⟩
  ·subst h0;exact eph (pawn_step hm) rfl hb
  ·subst h5;have:=(qxl hm).1;rw [zw _ 5 (by omega) _ 1] at this;exact qjx f hf t ht this
 ·rw [hp,hk] at hm;by_cases e0:i=0
  ·left;have hr:=hC.pw wh f hf (by rw [hc,e0];rfl);rw [decide_eq_true e0,if_pos rfl,qzc hf hr] at hm;have hne:=ah_not hC.beh hf (by rw [hc,e0];rfl) hm hr
   have hz:z t=46:=by
    rcases hm with ⟨e1,e2⟩|⟨_,e1,_,e2⟩
    ·rw [e1];exact e2
    ·rw [e1];exact e2
   exact ⟨⟨hi,hf,ht,hc,by rw [hz];exact qql _,nep,fun _ hb=>absurd hb hne,htr⟩,fun h5=>by omega⟩
  ·rw [decide_eq_false e0,if_neg (by simp)] at hm;by_cases e5:i=5
   ·right;subst e5;rw [decide_eq_true rfl,if_pos rfl] at hm;obtain ⟨h1,h2⟩:=zr hC hf hc;have hu0:=u0 (decide_eq_false e0);rcases List.mem_append.1 hm with hm|hm
    ·unfold cgR at hm;split at hm
     ·rename_i hh;rw [Bool.and_eq_true] at hh;have hfe:=h1 hh.1;have e:hK (cgF wh)+2=casT (cgF wh)/\hD (cgF wh)=1/\hN (cgF wh)=2:=by cases wh<;>decide
      refine ⟨cgF wh,cas_of hC (by cases wh<;>decide) (by cases wh<;>rfl) hh.1 ?_,hfe,?_,hu0,rfl⟩
      ·rw [e.2.1,e.2.2,<-hfe];exact hh.2
      ·rw [List.mem_singleton.1 hm,<-e.1,<-hfe]
     ·cases hm
    ·unfold cgM at hm;split at hm
     ·rename_i hh;rw [Bool.and_eq_true] at hh;have hfe:=h2 hh.1;have e:hK (cgF wh+1)-2=casT (cgF wh+1)/\hD (cgF wh+1)=-1/\hN (cgF wh+1)=3:=by cases wh<;>decide
      refine ⟨cgF wh+1,cas_of hC (by cases wh<;>decide) (by cases wh<;>rfl) hh.1 ?_,hfe,?_,hu0,rfl⟩
      ·rw [e.2.1,e.2.2,<-hfe];exact hh.2
      ·rw [List.mem_singleton.1 hm,<-e.1,<-hfe]
     ·cases hm
   ·rw [decide_eq_false e5,if_neg (by simp)] at hm;cases hm
theorem qqv {s:BitVec 64} {n:Nat}:n∈sqs s↔n<64/\s.getLsbD n=true:=by
 unfold sqs;rw [List.mem_filter,List.mem_range]
theorem qqm {z:Nat->UInt8} {wh:Bool} {fc:Nat->Bool} {b:Int} (hC:Can z wh fc b) {x:Mv}:x∈alU z wh fc b 64↔∃ i f t u,x=(f,t,u)/\i<6/\f<64/\t<64/\ixc (z f)=((bg wh+i:Nat):Int)/\t∈tgL z wh fc b f/\(f,t,u)∈turnsB (decide (i=0)) f t:=by
 unfold alU alS;rw [List.mem_flatMap];constructor
 ·rintro ⟨f,hf,h⟩;have hf:=List.mem_range.1 hf;split at h
  ·rename_i hm;rw [qqg (ji hC.ok hf),decide_eq_true_eq] at hm;obtain ⟨i,hi,e1,_⟩:=zh hm;obtain ⟨t,ht,h⟩:=List.mem_flatMap.1 h;unfold alF at h;rw [(zp hi e1).1] at h;obtain ⟨u,rfl,_,_⟩:=qx1 h
   have ht64:t<64:=by
    unfold tgL at ht;rw [List.mem_append,List.mem_filter] at ht;rcases ht with ⟨a,_⟩|ht
    ·exact att_lt hf a
    ·obtain ⟨hp,hk⟩:=zp hi e1;rw [hp,hk] at ht;by_cases e0:i=0
     ·rw [decide_eq_true e0,if_pos rfl,qzc hf (hC.pw wh f hf (by rw [e1,e0];rfl))] at ht;have hr:=hC.pw wh f hf (by rw [e1,e0];rfl);rcases ht with ⟨a,_⟩|⟨a,c,_⟩
      ·rw [a];unfold fw;split<;>omega
      ·rw [c];unfold startR at a;unfold fw;cases wh<;>simp at a<;>simp<;>omega
     ·rw [decide_eq_false e0,if_neg (by simp)] at ht;by_cases e5:i=5
      ·subst e5;rw [decide_eq_true rfl,if_pos rfl] at ht;obtain ⟨h1,h2⟩:=zr hC hf e1;rcases List.mem_append.1 ht with ht|ht
       ·unfold cgR at ht;split at ht
        ·rename_i hh;rw [Bool.and_eq_true] at hh;rw [List.mem_singleton.1 ht,h1 hh.1];cases wh<;>decide
        ·cases ht
       ·unfold cgM at ht;split at ht
        ·rw [List.mem_singleton.1 ht];omega
        ·cases ht
      ·rw [decide_eq_false e5,if_neg (by simp)] at ht;cases ht
   exact ⟨i,f,t,u,rfl,hi,hf,ht64,e1,ht,h⟩
  ·cases h
 ·rintro ⟨i,f,t,u,rfl,hi,hf,ht,hc,hm,hu⟩;refine ⟨f,List.mem_range.2 hf,?_⟩;rw [if_pos (by rw [qqg (ji hC.ok hf)];exact decide_eq_true (xt hi hc))];refine List.mem_flatMap.2 ⟨t,hm,?_⟩;unfold alF;rw [(zp hi hc).1];exact hu
theorem jr {z:Nat->UInt8} {wh:Bool} {fc:Nat->Bool} {b:Int} (hC:Can z wh fc b) (h0:-1<=b) (h1:b<=63) {i f t:Nat} {u:UInt8} (hi:i<6) (hf:f<64) (ht:t<64) (hc:ixc (z f)=((bg wh+i:Nat):Int)) (hm:t∈tgL z wh fc b f) (hu:(f,t,u)∈turnsB (decide (i=0)) f t) :
  (∃ y:Nat,y<64/\kingR (plZ z b (f,t,u)) wh=(y:Int))/\legalB (layS z 64) wh (behB b) i f t=letP z wh b (f,t,u):=by
 rcases classify hC hi hf ht hc hm hu with ⟨hP,kg⟩|⟨ci,hK',e1,e2,e3,e4⟩
 ·exact legal_plain hP kg hC.ok (hC.k1 wh) h0 h1
 ·subst e1 e2 e3 e4;obtain ⟨a1,a2⟩:=cas_letters hC (b:=b) hK';exact ⟨⟨casT ci,ht,a1⟩,by rw [a2,cas_sets hC h0 h1 hK']⟩
theorem qqq {z:Nat->UInt8} {wh:Bool} {fc:Nat->Bool} {b:Int} (hC:Can z wh fc b) (h0:-1<=b) (h1:b<=63):LetOk z wh fc b:=by
 have king:∀ f t u,(f,t,u)∈alU z wh fc b 64->kingB (z f)=true->(t=f+2\/t+2=f)->f=4\/f=60:=fun f t u hx hk he=>by
  obtain ⟨i,f',t',u',e,hi,hf,ht,hc,hm,hu⟩:=(qqm hC).1 hx;have e1:f=f':=by injection e
  have e2:t=t':=by injection e with _ e;injection e
  have e3:u=u':=by injection e with _ e;injection e
  subst e1 e2 e3;rcases classify hC hi hf ht hc hm hu with ⟨hP,kg⟩|⟨ci,hK',e1,_,_,_⟩
  ·rw [(zp hi hc).2,decide_eq_true_eq] at hk;have:=kg hk;omega
  ·rw [e1];unfold hK;split<;>omega
 refine ⟨fun f hf hm hk hfc=>?_,fun f t u hx hk he=>?_,fun f t u hx hk he=>?_,fun x hx=>?_⟩
 ·rw [qqg (ji hC.ok hf),decide_eq_true_eq] at hm;obtain ⟨i,hi,e1,_⟩:=zh hm;rw [(zp hi e1).2,decide_eq_true_eq] at hk;subst hk;obtain ⟨h1,h2⟩:=zr hC hf e1;rw [Bool.or_eq_true] at hfc;rcases hfc with e|e
  ·rw [h1 e];cases wh<;>decide
  ·rw [h2 e];cases wh<;>decide
 ·have:=king f t u hx hk (.inl he);omega
 ·have:=king f t u hx hk (.inr he);omega
 ·obtain ⟨i,f,t,u,rfl,hi,hf,ht,hc,hm,hu⟩:=(qqm hC).1 hx;exact (jr hC h0 h1 hi hf ht hc hm hu).1
theorem zc {z:Nat->UInt8} {wh:Bool} {fc:Nat->Bool} {b:Int} (hC:Can z wh fc b) (h0:-1<=b) (h1:b<=63) (x:Mv):x∈letL z wh fc b↔x∈movS z wh fc b:=by
 have hbg:=zu wh;unfold letL movS uptoS placeS fromS toS;rw [List.mem_filter,qqm hC];simp only [List.mem_flatMap,List.mem_range,qqv];constructor
 ·rintro ⟨⟨i,f,t,u,rfl,hi,hf,ht,hc,hm,hu⟩,hl⟩;refine ⟨i,hi,f,⟨hf,by rw [lay64 z _ f hf];exact decide_eq_true hc⟩,t,⟨ht,(targ_same hC h0 h1 hi hf ht hc).1 hm⟩,?_⟩;rw [(jr hC h0 h1 hi hf ht hc hm hu).2,if_pos hl];exact hu
 ·rintro ⟨i,hi,f,⟨hf,hfb⟩,t,⟨ht,htb⟩,hx⟩;rw [lay64 z _ f hf,decide_eq_true_eq] at hfb;have hm:=(targ_same hC h0 h1 hi hf ht hfb).2 htb;split at hx
  ·rename_i hl;obtain ⟨u,rfl,_,_⟩:=qx1 hx;refine ⟨⟨i,f,t,u,rfl,hi,hf,ht,hfb,hm,hx⟩,?_⟩;rw [<-(jr hC h0 h1 hi hf ht hfb hm hx).2];exact hl
  ·cases hx
theorem qvk {α β:Type} {A B:α->List β}:∀ l:List α,(∀ k∈l,(A k).Sublist (B k))->(l.flatMap A).Sublist (l.flatMap B)
 | [],_=>by simp
 | a :: r,h=>by
   rw [List.flatMap_cons,List.flatMap_cons];exact List.Sublist.append (h a (List.mem_cons_self ..)) (qvk r fun k hk=>h k (List.mem_cons_of_mem _ hk))
theorem up_sub (z:Nat->UInt8):∀ l:List Nat,(upT z l).Sublist l
 | []=>by simp [upT]
 | a :: r=>by
   unfold upT;split
   ·exact List.Sublist.cons_cons a (up_sub z r)
   ·exact List.Sublist.cons_cons a (List.nil_sublist r)
theorem far_nodup:∀ x,x<64->((List.range 16).flatMap fun k=>if k<8 then rr k x else []).Nodup:=by decide +kernel
theorem near_nodup:∀ x,x<64->((List.range 16).flatMap fun k=>if onB x (stN k) then [nx x (stN k)] else []).Nodup:=by decide +kernel
theorem attU_nodup {z:Nat->UInt8} {f:Nat} (hf:f<64) {bw:Bool} {i:Nat} (hi:i<6) (hc:ixc (z f)=((bg bw+i:Nat):Int)):(attU z f 16).Nodup:=by
 have hbg:bg bw=0\/bg bw=6:=by cases bw<;>simp [bg]
 have hp:bg bw+i<12:=by omega
 have hz:=zz hp hc;have hm:(bg bw+i)%6=i:=by omega
 have hF:=far_is (bg bw+i) hp;rw [hm] at hF;unfold attU;cases hfar:isFar i with
 | true =>
  have hG:=qjb (bg bw+i) hp (by rw [hm];exact hfar);refine List.Nodup.sublist (qvk _ fun k hk=>?_) (far_nodup f hf);have hk:=List.mem_range.1 hk;unfold attS;rw [hz,(hG k hk).1,hF,hfar,if_pos rfl];by_cases h8:k<8
  ·rw [if_pos h8];split
   ·unfold wkL;rw [wk_up];exact up_sub z _
   ·exact List.nil_sublist _
  ·rw [if_neg (by simp [h8]),if_neg h8];exact List.nil_sublist _
 | false =>
  refine List.Nodup.sublist (qvk _ fun k hk=>?_) (near_nodup f hf);unfold attS;rw [hz,hF,hfar,wk_take];split
  ·rw [if_neg (by simp)];exact List.Sublist.refl _
  ·exact List.nil_sublist _
theorem rr_nodup:∀ x,x<64->(rr 0 x).Nodup/\(rr 4 x).Nodup:=by decide +kernel
theorem pawn_file {f:Nat->Int} {s x y:Int} (h:attI f 0 s x y=true):y%8≠x%8:=by
 unfold attI at h;rw [if_pos rfl,Bool.and_eq_true,beq_iff_eq,beq_iff_eq] at h;intro e;rw [e] at h;have:=h.1;unfold ab at this;split at this<;>omega
theorem tgL_nodup {z:Nat->UInt8} {wh:Bool} {fc:Nat->Bool} {b:Int} (hC:Can z wh fc b) {f:Nat} (hf:f<64) {i:Nat} (hi:i<6) (hc:ixc (z f)=((bg wh+i:Nat):Int)):(tgL z wh fc b f).Nodup:=by
 obtain ⟨hp,hk⟩:=zp hi hc;have hA:=attU_nodup hf hi hc;unfold tgL;rw [hp,hk,List.nodup_append];refine ⟨List.Pairwise.filter _ hA,?_,?_⟩
 ·by_cases e0:i=0
  ·rw [decide_eq_true e0,if_pos rfl];unfold ahT;refine List.Nodup.sublist ((List.takeWhile_sublist _).trans (List.take_sublist _ _)) ?_;unfold wkL;rw [wk_up];refine List.Nodup.sublist (up_sub z _) ?_;cases wh
   ·exact (rr_nodup f hf).2
   ·exact (rr_nodup f hf).1
  ·rw [decide_eq_false e0,if_neg (by simp)];by_cases e5:i=5
   ·rw [decide_eq_true e5,if_pos rfl,List.nodup_append];refine ⟨by unfold cgR;split<;>simp,by unfold cgM;split<;>simp,fun a ha c hc e=>?_⟩
    unfold cgR at ha;unfold cgM at hc;split at ha
    ·split at hc
     ·simp at ha hc;omega
     ·cases hc
    ·cases ha
   ·rw [decide_eq_false e5,if_neg (by simp)];exact List.nodup_nil
 ·intro a ha c hc' e;subst e;have ha:=(List.mem_filter.1 ha).1;have ha64:=att_lt hf ha;rw [qqy hf hi hc ha64] at ha;by_cases e0:i=0
  ·subst e0;have hr:=hC.pw wh f hf hc;rw [decide_eq_true rfl,if_pos rfl,qzc hf hr] at hc';have h1:=pawn_file ha;rcases hc' with ⟨e,_⟩|⟨hs,e,_⟩
   ·unfold fw at e;cases wh<;>simp at e<;>omega
   ·unfold fw at e;unfold startR at hs;cases wh<;>simp at e hs<;>omega
  ·rw [decide_eq_false e0,if_neg (by simp)] at hc';by_cases e5:i=5
   ·subst e5;rw [decide_eq_true rfl,if_pos rfl] at hc';have:=(qxl ha).1;rw [zw _ 5 (by omega) _ 1] at this;have hk2:=qjx f hf a ha64 this;obtain ⟨h1,h2⟩:=zr hC hf hc;rcases List.mem_append.1 hc' with h|h
    ·unfold cgR at h;split at h
     ·simp at h;omega
     ·cases h
    ·unfold cgM at h;split at h
     ·rename_i hh;rw [Bool.and_eq_true] at hh;have hfe:=h2 hh.1;have:2<=f:=by rw [hfe];cases wh<;>decide
      simp at h;omega
     ·cases h
   ·rw [decide_eq_false e5,if_neg (by simp)] at hc';cases hc'
theorem qjf (p:Bool) (f t:Nat):(turnsB p f t).Nodup:=by
 unfold turnsB;split
 ·simp
 ·simp
theorem qqn {p:Bool} {f t:Nat} {x:Mv} (h:x∈turnsB p f t):x.1=f/\x.2.1=t:=by
 obtain ⟨u,rfl,_⟩:=qx1 h;exact ⟨rfl,rfl⟩
theorem qz2 {z:Nat->UInt8} {wh:Bool} {fc:Nat->Bool} {b:Int} (hC:Can z wh fc b):(letL z wh fc b).Nodup:=by
 unfold letL;refine List.Pairwise.filter _ ?_;unfold alU;rw [List.pairwise_flatMap];constructor
 ·intro f hf;have hf:=List.mem_range.1 hf;unfold alS;split
  ·rename_i hm;rw [qqg (ji hC.ok hf),decide_eq_true_eq] at hm;obtain ⟨i,hi,e1,_⟩:=zh hm;rw [List.pairwise_flatMap];refine ⟨fun t _=>qjf _ _ _,(tgL_nodup hC hf hi e1).imp fun {a c} hne x hx y hy e=>?_⟩;subst e;exact hne ((qqn hx).2.symm.trans (qqn hy).2)
  ·exact List.Pairwise.nil
 ·refine (List.nodup_range (n:=64)).imp fun {a c} hne x hx y hy e=>?_
  subst e
  have key:∀ f,x∈alS z wh fc b f->x.1=f:=fun f h=>by
   unfold alS at h;split at h
   ·obtain ⟨t,_,h⟩:=List.mem_flatMap.1 h;exact (qqn h).1
   ·cases h
  exact hne ((key a hx).symm.trans (key c hy))
theorem sqs_nodup (s:BitVec 64):(sqs s).Nodup:=List.Pairwise.filter _ (List.nodup_range (n:=64))
theorem qz1 (z:Nat->UInt8) (wh:Bool) (fc:Nat->Bool) (b:Int):(movS z wh fc b).Nodup:=by
 have kf:∀ (m:Nat->BitVec 64) (own oth beh:BitVec 64) (k f:Nat) (x:Mv),x∈fromS m wh own oth beh fc k f->x.1=f:=fun m own oth beh k f x h=>by
  unfold fromS toS at h;obtain ⟨t,_,h⟩:=List.mem_flatMap.1 h;split at h
  ·exact (qqn h).1
  ·cases h
 unfold movS uptoS List.Nodup;rw [List.pairwise_flatMap];constructor
 ·intro k _;unfold placeS;rw [List.pairwise_flatMap];constructor
  ·intro f _;unfold fromS;rw [List.pairwise_flatMap];constructor
   ·intro t _;unfold toS;split
    ·exact qjf _ _ _
    ·exact List.Pairwise.nil
   ·refine (sqs_nodup _).imp fun {a c} hne x hx y hy e=>?_
    subst e;unfold toS at hx hy;split at hx
    ·split at hy
     ·exact hne ((qqn hx).2.symm.trans (qqn hy).2)
     ·cases hy
    ·cases hx
  ·refine (sqs_nodup _).imp fun {a c} hne x hx y hy e=>?_
   subst e;exact hne ((kf _ _ _ _ _ _ _ hx).symm.trans (kf _ _ _ _ _ _ _ hy))
 ·refine (List.nodup_range (n:=6)).imp fun {a c} hne x hx y hy e=>?_
  subst e;unfold placeS at hx hy;obtain ⟨f,hf,hx⟩:=List.mem_flatMap.1 hx;obtain ⟨g,hg,hy⟩:=List.mem_flatMap.1 hy;have e1:=kf _ _ _ _ _ _ _ hx;have e2:=kf _ _ _ _ _ _ _ hy;rw [qqv] at hf hg;rw [lay64 z _ f hf.1,decide_eq_true_eq] at hf;rw [lay64 z _ g hg.1,decide_eq_true_eq] at hg;rw [<-e2,e1,hf.2] at hg;have:=hg.2;exact hne (by omega)
theorem nmq_inj:∀ f,f<64->∀ g,g<64->nameS f=nameS g->f=g:=by decide +kernel
theorem txtq_inj {x y:Mv} (hx:okM x) (hy:okM y) (h:txt x=txt y):x=y:=by
 obtain ⟨f,t,u⟩:=x;obtain ⟨f',t',u'⟩:=y;unfold txt mvS at h;simp only at h;rw [List.append_assoc,List.append_assoc] at h;obtain ⟨h1,h2⟩:=List.append_inj h rfl;obtain ⟨h2,h3⟩:=List.append_inj h2 rfl;have e1:=nmq_inj f hx.1 f' hy.1 h1;have e2:=nmq_inj t hx.2 t' hy.2 h2
 have e3:u=u':=by
  by_cases a:u=0
  ·by_cases c:u'=0
   ·rw [a,c]
   ·rw [if_pos a,if_neg c] at h3;cases h3
  ·by_cases c:u'=0
   ·rw [if_neg a,if_pos c] at h3;cases h3
   ·rw [if_neg a,if_neg c] at h3;injection h3
 rw [e1,e2,e3]
theorem zj {α:Type} {r:α->α->Prop} (asym:∀ a b,r a b->¬ r b a):∀ (l1 l2:List α),l1.Pairwise r->l2.Pairwise r->(∀ x,x∈l1↔x∈l2)->l1=l2
 | [],[],_,_,_=>rfl
 | [],b :: r2,_,_,h=>absurd ((h b).2 (List.mem_cons_self ..)) (by simp)
 | a :: r1,[],_,_,h=>absurd ((h a).1 (List.mem_cons_self ..)) (by simp)
 | a :: r1,b :: r2,h1,h2,h=>by
   rw [List.pairwise_cons] at h1 h2
   have hab:a=b:=by
    rcases List.mem_cons.1 ((h a).1 (List.mem_cons_self ..)) with e|e
    ·exact e
    ·rcases List.mem_cons.1 ((h b).2 (List.mem_cons_self ..)) with e'|e'
     ·exact e'.symm
     ·exact absurd (h1.1 b e') (asym _ _ (h2.1 a e))
   subst hab;have irr:¬ r a a:=fun k=>asym _ _ k k
   rw [zj asym r1 r2 h1.2 h2.2 fun x=>?_];constructor
   ·intro hx;rcases List.mem_cons.1 ((h x).1 (List.mem_cons_of_mem _ hx)) with e|e
    ·rw [e] at hx;exact absurd (h1.1 a hx) irr
    ·exact e
   ·intro hx;rcases List.mem_cons.1 ((h x).2 (List.mem_cons_of_mem _ hx)) with e|e
    ·rw [e] at hx;exact absurd (h2.1 a hx) irr
    ·exact e
theorem qzo {xs:List Mv} (hn:xs.Nodup) (hok:∀ x∈xs,okM x):(sortM xs).Pairwise fun x y=>txt x<txt y:=by
 have h1:(sortM xs).Pairwise fun x y=>(!ltM y x)=true:=by
  unfold sortM;refine List.pairwise_mergeSort (fun a b c h1 h2=>?_) (fun a b=>?_) xs
  ·unfold ltM at *;simp only [Bool.not_eq_true',decide_eq_false_iff_not] at *;exact List.not_lt.2 (List.le_trans (List.not_lt.1 h1) (List.not_lt.1 h2))
  ·unfold ltM;rw [Bool.or_eq_true];simp only [Bool.not_eq_true',decide_eq_false_iff_not];rcases List.le_total (txt a) (txt b) with h|h
   ·exact .inl (List.not_lt.2 h)
   ·exact .inr (List.not_lt.2 h)
 have h2:(sortM xs).Nodup:=List.Nodup.perm hn (xp xs).symm;have hok':∀ x∈sortM xs,okM x:=fun x hx=>hok x ((xp xs).mem_iff.1 hx)
 have h3:(sortM xs).Pairwise fun x y=>(!ltM y x)=true/\x≠y:=List.Pairwise.and h1 h2
 refine List.Pairwise.imp_of_mem (fun {a c} ha hc h=>?_) h3;unfold ltM at h;simp only [Bool.not_eq_true',decide_eq_false_iff_not] at h;by_cases hlt:txt a<txt c
 ·exact hlt
 ·exact absurd (txtq_inj (hok' a ha) (hok' c hc) (List.le_antisymm (List.not_lt.1 h.1) (List.not_lt.1 hlt))) h.2
theorem twin {z:Nat->UInt8} {wh:Bool} {fc:Nat->Bool} {b:Int} (hC:Can z wh fc b) (h0:-1<=b) (h1:b<=63):sortM (letL z wh fc b)=sortM (movS z wh fc b)/\(sortM (movS z wh fc b)).Pairwise fun x y=>txt x<txt y:=by
 have hk:=qqq hC h0 h1;have r1:=qzo (qz2 hC) (fun x hx=>alU_ok hk.home (List.mem_filter.1 hx).1);have r2:=qzo (qz1 z wh fc b) (qxv z wh fc b);refine ⟨zj (fun a c h=>List.lt_asymm h) _ _ r1 r2 fun x=>?_,r2⟩;rw [(xp _).mem_iff,(xp _).mem_iff];exact zc hC h0 h1 x
theorem pos_can {s:ByteArray} {p:Pos} (hr:readS s=some p) (hc:posCan p=true):Can (posZ p) p.white p.castle p.behind ∧ -1<=p.behind/\p.behind<=63:=⟨qv9 hc,qq1 hr⟩
theorem pos_twin {s:ByteArray} {p:Pos} (hr:readS s=some p) (hc:posCan p=true):sortM (waL p 1)=sortM (waL p 2)/\(sortM (waL p 2)).Pairwise fun x y=>txt x<txt y:=by
 obtain ⟨h,h0,h1⟩:=pos_can hr hc;exact twin h h0 h1
theorem pos_let {s:ByteArray} {p:Pos} (hr:readS s=some p) (hc:posCan p=true):LetOk (posZ p) p.white p.castle p.behind:=by
 obtain ⟨h,h0,h1⟩:=pos_can hr hc;exact qqq h h0 h1
end Go.Proofs.YtnfakamfmkhlbaaGreatDoor.C
namespace Go.Proofs.YtnfakamfmkhlbaaGreatDoor.C
open Go.ChangeShapes Go.WideShapes Go.ChangeAt Go.RowKit Go.Shelf
open Go.Proofs.YtnfakamfmkhlbaaGreatDoor.P
attribute [local go_sem] qd qi Oper.semAt_some
theorem strs_form {w:World} {base:Nat} {v:Value} {xs:List ByteArray} (h:Strs base v xs w):∃ p cap,v=.slice p xs.length cap/\xs.length<=cap/\∀ i (hi:i<xs.length),∃ g,p=some ⟨g,0,none⟩/\w.cell? ⟨g,i,none⟩=some (.string xs[i]):=by
 rcases h.2 with ⟨rfl,hn⟩|⟨g,cap,cur,rfl,hb,hg,hn,hm,hcs,htk⟩
 ·have:xs=[]:=by simpa using hn
  subst this;exact ⟨none,0,rfl,Nat.le_refl _,fun i hi=>absurd hi (Nat.not_lt_zero i)⟩
 ·refine ⟨_,_,rfl,hn,fun i hi=>⟨g,rfl,?_⟩⟩;simp only [World.cell?];rw [hg];show cur[i]?=_;rw [<-Array.getElem?_toList,<-List.getElem?_take_of_lt (show i<xs.length*1 by omega),htk,List.getElem?_map,List.getElem?_eq_getElem hi];rfl
def MoEnd (T:List ByteArray) (k:Int) (e:Ending) (w':World):Prop:=∃ p cap,e=.returned (.tuple #[.slice p T.length cap,.int .i64 k])/\T.length<=cap/\∀ i (hi:i<T.length),∃ g,p=some ⟨g,0,none⟩/\w'.cell? ⟨g,i,none⟩=some (.string T[i])
theorem el_gr {T:List ByteArray} {p:Option Addr} {W W':World} (h:∀ i (hi:i<T.length),∃ g,p=some ⟨g,0,none⟩/\W.cell? ⟨g,i,none⟩=some (.string T[i])) (hg:Gr W W'):∀ i (hi:i<T.length),∃ g,p=some ⟨g,0,none⟩/\W'.cell? ⟨g,i,none⟩=some (.string T[i]):=fun i hi=>by
 obtain ⟨g,e,hx⟩:=h i hi;exact ⟨g,e,(Below.cell hg (p:=⟨g,i,none⟩) (World.block_lt_of_cell? W _ hx)).trans hx⟩
def El (p:Option Addr) (T:List ByteArray) (W:World):Prop:=∀ i (hi:i<T.length),∃ g,p=some ⟨g,0,none⟩/\W.cell? ⟨g,i,none⟩=some (.string T[i])
theorem El.gr {T:List ByteArray} {p:Option Addr} {W W':World} (h:El p T W) (hg:Gr W W'):El p T W':=el_gr h hg
theorem qvo (T:List ByteArray) (hT:T.length<=1000000) (p1 p2:Option Addr) (c1 c2:Nat) (w:World) (h1:El p1 T w) (h2:El p2 T w):Calls Tryz.prog 42 #[.slice p1 T.length c1,.slice p2 T.length c2] w fun e w'=>e=.returned (.bool true)/\Gr w w':=by
 have h1':=hide h1;have h2':=hide h2;clear h1 h2;obtain ⟨N,hN⟩:∃ N,N=T.length:=⟨_,rfl⟩;rw [<-hN] at hT ⊢;go_enter Tryz.func42,Tryz.ntmps42;go_upto_region 3 with fail;go_wp2_with fail;go_loopg [5] N (fun g v wr=>∃ (j d:Nat),j+g=N/\v=.int .i64 (j:Int)/\wr=w.drewN d)
 case atStart=>exact ⟨0,0,by omega,rfl,rfl⟩
 case round =>
  obtain ⟨j,d,k1,rfl,rfl⟩:=hrel;by_cases hlt:j<N
  ·obtain ⟨g1,rfl,x1⟩:=qa h1' j (by omega);obtain ⟨g2,rfl,x2⟩:=qa h2' j (by omega);have hj0:(0:Int)<=(j:Int):=by omega
   have hjN:(j:Int)<(N:Int):=by omega
   generalize T[j]'(by omega)=X at x1 x2;have f1:=neq_run X;go_upto_region 6 with fail;go_quiet (fail)
   all_goals
    go_wp2;go_roundg (gk-1)
    case measure=>omega
    case rel=>exact ⟨j+1,_,by omega,by go_num,rfl⟩
  ·have ej:j=N:=by omega
   go_wp2;go_ret;exact ⟨rfl,Gr.drewN (Gr.refl w) _⟩
def kingsE:List Mv:=[(4,12,0),(4,13,0),(4,5,0),(4,3,0),(4,11,0)]
def kingsS:List Mv:=[(4,3,0),(4,11,0),(4,12,0),(4,5,0),(4,13,0)]
theorem kings_let:(readS kingsB).map (fun p=>letL (posZ p) p.white p.castle p.behind)=some kingsE:=by decide +kernel
theorem kings_rise:kingsS.Pairwise fun x y=>txt x<txt y:=by decide +kernel
theorem qz3:(kingsE.all fun x=>kingsS.contains x)=true/\(kingsS.all fun x=>kingsE.contains x)=true:=by decide +kernel
def kingsT:List ByteArray:=[⟨#[101,49,100,49]⟩,⟨#[101,49,100,50]⟩,⟨#[101,49,101,50]⟩,⟨#[101,49,102,49]⟩,⟨#[101,49,102,50]⟩]
theorem kings_txt:txts kingsS=kingsT:=by decide +kernel
theorem kings_is:∃ p,readS kingsB=some p/\posCan p=true/\sortM (waL p 1)=kingsS/\sortM (waL p 2)=kingsS:=by
 obtain ⟨p,h1,h2⟩:=kings_read;have hl:=kings_let;rw [h1] at hl;have hl:letL (posZ p) p.white p.castle p.behind=kingsE:=by simpa using hl
 obtain ⟨hC,hb0,hb1⟩:=pos_can h1 h2;have hk:=qqq hC hb0 hb1;obtain ⟨t1,t2⟩:=pos_twin h1 h2
 have e1:sortM (waL p 1)=kingsS:=by
  refine zj (fun a c h=>List.lt_asymm h) _ _ (by rw [t1];exact t2) kings_rise fun x=>?_
  rw [(xp _).mem_iff];show x∈letL (posZ p) p.white p.castle p.behind↔_;rw [hl];constructor
  ·intro hx;have:=List.all_eq_true.1 qz3.1 x hx;simpa using this
  ·intro hx;have:=List.all_eq_true.1 qz3.2 x hx;simpa using this
 exact ⟨p,h1,h2,e1,by rw [<-t1];exact e1⟩
theorem kingsMoves (n:Int) (hn:n=1\/n=2) (m:Int) (w:World) (hc:Ct m w) (ht:Tabs w):Calls Tryz.prog 20 #[.string kingsB,.int .i64 n] w fun e w'=>MoEnd kingsT 0 e w'/\Gr w w':=by
 obtain ⟨p,h1,h2,h3,h4⟩:=kings_is;refine (qvq kingsB (by decide +kernel) n (fun q a b=>pos_let a b) m w hc ht).mono fun e w' h=>⟨?_,h.2⟩
 have hs:sortM (waL p n)=kingsS:=by rcases hn with rfl|rfl;exact h3;exact h4
 rcases h.1 with ⟨a,_⟩|⟨q,a,b,_⟩|⟨q,_,_,a,_⟩|⟨q,v,a,_,_,rfl,hv⟩
 ·rw [h1] at a;cases a
 ·rw [h1] at a;rw [<-Option.some.inj a,h2] at b;cases b
 ·exact absurd hn a
 ·rw [h1] at a;rw [<-Option.some.inj a,hs,kings_txt] at hv;obtain ⟨pp,cap,rfl,hcap,hel⟩:=strs_form hv;exact ⟨pp,cap,rfl,hcap,hel⟩
end Go.Proofs.YtnfakamfmkhlbaaGreatDoor.C
namespace Go.Proofs.YtnfakamfmkhlbaaGreatDoor.C
open Go.RowKit
open Go.Proofs.YtnfakamfmkhlbaaGreatDoor.P
def lastR (t:Nat):Bool:=decide (t/8=0)||decide (t/8=7)
def upR (f t:Nat):Int:=((t/8:Nat):Int)-((f/8:Nat):Int)
def pwU (z:Nat->UInt8) (wh:Bool) (f t:Nat):Bool:=decide (upR f t=sdb wh)||(decide (upR f t=2*sdb wh)&&decide (f/8=(if wh then 1 else 6))&&decide (z (if wh then f+8 else f-8)=46))
def pwR (z:Nat->UInt8) (wh:Bool) (b:Int) (f t:Nat):Bool :=
 if attI (zI z) 0 (sdb wh) (f:Int) (t:Int) then decide (coc (z t)=sdb (!wh))||decide ((t:Int)=b)
 else decide (f%8=t%8)&&decide (z t=46)&&pwU z wh f t
def mnR (z:Nat->UInt8) (wh:Bool) (fc:Nat->Bool) (k f t:Nat) (u:UInt8):Bool :=
 if attI (zI z) k (sdb wh) (f:Int) (t:Int) then true
 else decide (k=5)&&decide (0<=casR wh fc f t u)&&freeC z (casR wh fc f t u).toNat
def goesR (z:Nat->UInt8) (wh:Bool) (fc:Nat->Bool) (b:Int) (f t:Nat) (u:UInt8):Bool :=
 decide (coc (z f)=sdb wh)&&!decide (coc (z t)=sdb wh)&&(decide (u≠0)==(decide (kdc (z f)=0)&&lastR t))&&(if kdc (z f)=0 then pwR z wh b f t else mnR z wh fc (kdc (z f)).toNat f t u)
def U5:List UInt8:=[0,98,110,113,114]
end Go.Proofs.YtnfakamfmkhlbaaGreatDoor.C
