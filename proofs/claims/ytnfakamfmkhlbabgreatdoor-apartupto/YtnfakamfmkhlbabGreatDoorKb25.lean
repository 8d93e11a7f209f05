import Derived.Test.YtnfakamfmkhlbabGreatDoorKb24
import Derived.Test.YtnfakamfmkhlbabGreatDoorKb7
import Derived.Test.YtnfakamfmkhlbabGreatDoorKb23
import Derived.Test.YtnfakamfmkhlbabGreatDoorKb13
import Derived.Test.YtnfakamfmkhlbabGreatDoorKb12
import Derived.Test.YtnfakamfmkhlbabGreatDoorKb4
import Derived.Deep.QuietTactic
import Derived.BigQuiet
import Derived.Deep.RegionHeld3
import Derived.Test.YtnfakamfmkhlbabGreatDoorKb21
import Derived.Test.YtnfakamfmkhlbabGreatDoorKb16
import Derived.Test.YtnfakamfmkhlbabGreatDoorKz2
set_option maxRecDepth 100000
set_option maxHeartbeats 4000000
set_option linter.unusedSimpArgs false
namespace Go.Proofs.YtnfakamfmkhlbabGreatDoor.C
open Go.RowKit
open Go.Proofs.YtnfakamfmkhlbabGreatDoor.P
theorem kin_iff {z:Nat->UInt8} {bb:Bool} (h:kinR z bb 64=1):∃ y,y<64/\∀ n,n<64->(ixc (z n)=((bg bb+5:Nat):Int)↔n=y):=by
 unfold kinR at h;obtain ⟨y,hy⟩:=List.length_eq_one_iff.1 h;have hm:∀ n,n∈(List.range 64).filter (fun n=>decide (ixc (z n)=((bg bb+5:Nat):Int)))↔n=y:=fun n=>by rw [hy,List.mem_singleton]
 have h1:y<64:=List.mem_range.1 (List.mem_filter.1 ((hm y).2 rfl)).1;refine ⟨y,h1,fun n hn=>?_⟩;rw [<-hm n,List.mem_filter,decide_eq_true_eq,List.mem_range];exact ⟨fun h=>⟨hn,h⟩,fun h=>h.2⟩
theorem one_cnt:∀ y,y<64->((List.range 64).filter fun n=>decide (n=y)).length=1:=by decide +kernel
theorem kin_of {Z:Nat->UInt8} {bb:Bool} {y:Nat} (hy:y<64) (h:∀ n,n<64->(ixc (Z n)=((bg bb+5:Nat):Int)↔n=y)):kinR Z bb 64=1:=by
 unfold kinR;rw [List.filter_congr (q:=fun n=>decide (n=y)) (fun n hn=>decide_eq_decide.2 (h n (List.mem_range.1 hn)))];exact one_cnt y hy
def swp (f t n:Nat):Nat:=if n=f then t else if n=t then f else n
theorem swp_two (f t n:Nat):swp f t (swp f t n)=n:=by
 unfold swp;by_cases h1:n=f
 ·subst h1;rw [if_pos rfl];by_cases h2:t=n
  ·rw [if_pos h2,h2]
  ·rw [if_neg h2,if_pos rfl]
 ·rw [if_neg h1];by_cases h2:n=t
  ·subst h2;rw [if_pos rfl,if_pos rfl]
  ·rw [if_neg h2,if_neg h1,if_neg h2]
theorem swp_lt {f t n:Nat} (hf:f<64) (ht:t<64) (hn:n<64):swp f t n<64:=by
 unfold swp;split
 ·exact ht
 ·split
  ·exact hf
  ·exact hn
theorem swp_perm {f t:Nat} (hf:f<64) (ht:t<64):((List.range 64).map (swp f t)).Perm (List.range 64):=by
 have hnd:((List.range 64).map (swp f t)).Nodup:=by
  rw [List.nodup_iff_pairwise_ne,List.pairwise_map];exact (List.nodup_iff_pairwise_ne.1 List.nodup_range).imp fun {a c} hac h=>hac (by rw [<-swp_two f t a,h,swp_two])
 rw [List.perm_ext_iff_of_nodup hnd List.nodup_range];intro a;rw [List.mem_map,List.mem_range];constructor
 ·rintro ⟨n,hn,rfl⟩;exact swp_lt hf ht (List.mem_range.1 hn)
 ·intro ha;exact ⟨swp f t a,List.mem_range.2 (swp_lt hf ht ha),swp_two f t a⟩
theorem men_swap {z Z:Nat->UInt8} {bb:Bool} {f t:Nat} (hf:f<64) (ht:t<64) (h:∀ n,n<64->(coc (Z n)=sdb bb↔coc (z (swp f t n))=sdb bb)):menR Z bb 64=menR z bb 64:=by
 unfold menR;rw [<-List.countP_eq_length_filter,<-List.countP_eq_length_filter,<-(swp_perm hf ht).countP_eq (fun n=>decide (coc (z n)=sdb bb)),List.countP_map];refine List.countP_congr fun n hn=>?_
 simp only [Function.comp,decide_eq_true_eq];exact h n (List.mem_range.1 hn)
theorem men_le {z Z:Nat->UInt8} {bb:Bool} (h:∀ n,n<64->coc (Z n)=sdb bb->coc (z n)=sdb bb):menR Z bb 64<=menR z bb 64:=by
 unfold menR;rw [<-List.countP_eq_length_filter,<-List.countP_eq_length_filter];refine List.countP_mono_left fun n hn=>?_
 rw [decide_eq_true_eq,decide_eq_true_eq];exact h n (List.mem_range.1 hn)
structure Step1 (z Z:Nat->UInt8) (wh:Bool) (f t cs:Nat) (c:UInt8):Prop where
 at':∀ n,Z n=if n=t then c else if n=f then 46 else if n=cs then 46 else z n
 hf:f<64
 ht:t<64
 own:coc (z f)=sdb wh
 no:coc (z t)≠sdb wh
 new:coc c=sdb wh
 op:cs=t\/coc (z cs)=sdb (!wh)
theorem coc_dot:coc 46=0:=by decide +kernel
theorem sdb_ne0 (b:Bool):sdb b≠0:=by cases b<;>decide
theorem Step1.ne {z Z:Nat->UInt8} {wh:Bool} {f t cs:Nat} {c:UInt8} (h:Step1 z Z wh f t cs c):f≠t:=fun e=>h.no (by rw [<-e];exact h.own)
theorem Step1.men {z Z:Nat->UInt8} {wh:Bool} {f t cs:Nat} {c:UInt8} (h:Step1 z Z wh f t cs c):menR Z wh 64=menR z wh 64/\menR Z (!wh) 64<=menR z (!wh) 64:=by
 have hne:=h.ne;constructor
 ·refine men_swap h.hf h.ht fun n hn=>?_
  rw [h.at' n];unfold swp;by_cases c1:n=t
  ·rw [if_pos c1,if_neg (fun e=>hne (e.symm.trans c1)),if_pos c1];exact ⟨fun _=>h.own,fun _=>h.new⟩
  ·rw [if_neg c1];by_cases c2:n=f
   ·rw [if_pos c2,if_pos c2,coc_dot];exact ⟨fun e=>absurd e.symm (sdb_ne0 wh),fun e=>absurd e h.no⟩
   ·rw [if_neg c2,if_neg c2,if_neg c1];by_cases c3:n=cs
    ·rw [if_pos c3,coc_dot];rcases h.op with e|e
     ·exact absurd (c3.trans e) c1
     ·refine ⟨fun e'=>absurd e'.symm (sdb_ne0 wh),fun e'=>?_⟩;rw [c3,e] at e';exact absurd e'.symm (co_ne wh)
    ·rw [if_neg c3]
 ·refine men_le fun n hn hx=>?_
  rw [h.at' n] at hx;by_cases c1:n=t
  ·rw [if_pos c1,h.new] at hx;exact absurd hx (co_ne wh)
  ·rw [if_neg c1] at hx;by_cases c2:n=f
   ·rw [if_pos c2,coc_dot] at hx;exact absurd hx.symm (sdb_ne0 _)
   ·rw [if_neg c2] at hx;by_cases c3:n=cs
    ·rw [if_pos c3,coc_dot] at hx;exact absurd hx.symm (sdb_ne0 _)
    ·rwa [if_neg c3] at hx
theorem plain_step {z:Nat->UInt8} {wh:Bool} {b:Int} {i f t cs:Nat} {u:UInt8} (h:Plain z wh b i f t u cs) (kg:i=5->t≠f+2/\t+2≠f):Step1 z (plZ z b (f,t,u)) wh f t cs (trn (z f) u):=by
 obtain ⟨q,hq,e,_⟩:=h.tr;refine ⟨pl_at h kg,h.hf,h.ht,coc_ix h.hi h.hc,h.no,coc_ix hq e,?_⟩;by_cases hep:i=0/\(t:Int)=b
 ·obtain ⟨_,_,_,_,e5⟩:=h.ep hep.1 hep.2;exact .inr (coc_ix (q:=0) (by omega) e5)
 ·exact .inl (h.nep hep)
theorem goes_att {z:Nat->UInt8} {wh:Bool} {fc:Nat->Bool} {b:Int} {f t:Nat} {u:UInt8} {i:Nat} (hi:i<6) (hc:ixc (z f)=((bg wh+i:Nat):Int)) (hg:goesR z wh fc b f t u=true) (kg:i=5->t≠f+2/\t+2≠f):attI (zI z) i (sdb wh) (f:Int) (t:Int)=true\/z t=46:=by
 have hk:=kd_ix hi hc;unfold goesR at hg;simp only [Bool.and_eq_true] at hg;obtain ⟨⟨⟨_,_⟩,hu⟩,hg⟩:=hg;by_cases e0:kdc (z f)=0
 ·have i0:i=0:=by omega
  subst i0;rw [if_pos e0] at hg;unfold pwR at hg;by_cases ha:attI (zI z) 0 (sdb wh) (f:Int) (t:Int)=true
  ·exact .inl ha
  ·rw [if_neg ha] at hg;simp only [Bool.and_eq_true,decide_eq_true_eq] at hg;exact .inr hg.1.2
 ·rw [if_neg e0] at hg;have en:(kdc (z f)).toNat=i:=by rw [hk];exact Int.toNat_natCast i
  rw [en] at hg;unfold mnR at hg;by_cases ha:attI (zI z) i (sdb wh) (f:Int) (t:Int)=true
  ·exact .inl ha
  ·exfalso
   rw [if_neg ha,Bool.and_assoc,Bool.and_eq_true,decide_eq_true_eq] at hg
   have hu0:u=0:=by
    rw [decide_eq_false e0,Bool.false_and] at hu;have:=eq_of_beq hu;exact Classical.byContradiction fun h=>by rw [decide_eq_true h] at this;cases this
   subst hu0;obtain ⟨j,hj,_,_,e1,e2,_,_⟩:=casR_iff.1 hg.2;have:=kg hg.1;have:=cas_two j hj;omega
theorem no_king {z:Nat->UInt8} {wh:Bool} {fc:Nat->Bool} {b:Int} {f t:Nat} {u:UInt8} {i:Nat} (hi:i<6) (hf:f<64) (ht:t<64) (hc:ixc (z f)=((bg wh+i:Nat):Int)) (hg:goesR z wh fc b f t u=true) (kg:i=5->t≠f+2/\t+2≠f) (h1:kinR z (!wh) 64=1) (ha:attR z (kingR z (!wh)) wh=false):ixc (z t)≠((bg (!wh)+5:Nat):Int):=by
 intro ek;rcases goes_att hi hc hg kg with h|h
 ·obtain ⟨y,hy,hyy,e⟩:=one_king h1;obtain ⟨y',_,hk⟩:=kin_iff h1;have ety:t=y':=(hk t ht).1 ek
  have eyy:y=y':=(hk y hy).1 (by
   have hm:y∈sqs (layS z 64 (bg (!wh)+5)):=by rw [hyy];simp
   have:=sqs_mem.1 hm;rw [lay_bit z _ 64 (by omega) y hy] at this;exact (of_decide_eq_true this.2).2)
  rw [e,eyy,<-ety] at ha;unfold attR at ha;rw [List.any_eq_false] at ha;refine ha f (List.mem_range.2 hf) ?_;rw [coc_ix hi hc,(co_of_ix hi hc).2,h];simp
 ·rw [h,dot_ix] at ek;have:=bg_two wh;omega
theorem bb_two (bb wh:Bool):bb=wh\/bb=!wh:=by cases bb<;>cases wh<;>simp
theorem prom_kd:∀ c∈([80,112]:List UInt8),∀ u∈([113,114,98,110]:List UInt8),0<kdc (trn c u):=by decide +kernel
structure Brd1 (Z:Nat->UInt8):Prop where
 bad:∀ n,n<64->badR Z n=false
 kin:∀ bb,kinR Z bb 64=1
 men:∀ bb,menR Z bb 64<=16
section
variable {z:Nat->UInt8} {wh:Bool} {fc:Nat->Bool} {b:Int} {i f t cs:Nat} {u:UInt8}
theorem Plain.kings (hP:Plain z wh b i f t u cs) (kg:i=5->t≠f+2/\t+2≠f) (hk1:∀ bb,kinR z bb 64=1) (hnk:ixc (z t)≠((bg (!wh)+5:Nat):Int)):∀ bb,kinR (plZ z b (f,t,u)) bb 64=1:=by
 have hS:=plain_step hP kg;have hbg:=bg_two wh;have hne:=hS.ne;obtain ⟨q,hq,eq,q5⟩:=hP.tr;have hi:=hP.hi
 have hcs:cs=t\/ixc (z cs)=((bg (!wh):Nat):Int):=by
  by_cases hep:i=0/\(t:Int)=b
  ·obtain ⟨_,_,_,_,e5⟩:=hP.ep hep.1 hep.2;exact .inr e5
  ·exact .inl (hP.nep hep)
 intro bb;rcases bb_two bb wh with rfl|rfl
 ·obtain ⟨y,hy,hk⟩:=kin_iff (hk1 bb);by_cases i5:i=5
  ·have efy:f=y:=(hk f hP.hf).1 (by rw [hP.hc,i5]);refine kin_of hP.ht fun n hn=>?_
   rw [hS.at' n];by_cases c1:n=t
   ·rw [if_pos c1,eq,q5.2 i5];exact ⟨fun _=>c1,fun _=>rfl⟩
   ·rw [if_neg c1];by_cases c2:n=f
    ·rw [if_pos c2,dot_ix];exact ⟨fun e=>by omega,fun e=>absurd e c1⟩
    ·rw [if_neg c2];by_cases c3:n=cs
     ·rw [if_pos c3,dot_ix];exact ⟨fun e=>by omega,fun e=>absurd e c1⟩
     ·rw [if_neg c3,hk n hn];exact ⟨fun e=>absurd (e.trans efy.symm) c2,fun e=>absurd e c1⟩
  ·refine kin_of hy fun n hn=>?_
   rw [hS.at' n];by_cases c1:n=t
   ·rw [if_pos c1,eq];refine ⟨fun e=>?_,fun e=>?_⟩
    ·exact absurd (q5.1 (by omega)) i5
    ·have:=(hk t hP.ht).2 (c1.symm.trans e);exact absurd (coc_ix (by omega) this) hP.no
   ·rw [if_neg c1];by_cases c2:n=f
    ·rw [if_pos c2,dot_ix];refine ⟨fun e=>by omega,fun e=>?_⟩;have:=(hk f hP.hf).2 (c2.symm.trans e);rw [hP.hc] at this;omega
    ·rw [if_neg c2];by_cases c3:n=cs
     ·rw [if_pos c3,dot_ix];refine ⟨fun e=>by omega,fun e=>?_⟩;have:=(hk n hn).2 e;rcases hcs with e'|e'
      ·exact absurd (c3.trans e') c1
      ·rw [c3,e'] at this;omega
     ·rw [if_neg c3];exact hk n hn
 ·obtain ⟨y,hy,hk⟩:=kin_iff (hk1 (!wh));refine kin_of hy fun n hn=>?_
  rw [hS.at' n];by_cases c1:n=t
  ·rw [if_pos c1,eq];refine ⟨fun e=>by omega,fun e=>?_⟩;exact absurd ((hk t hP.ht).2 (c1.symm.trans e)) hnk
  ·rw [if_neg c1];by_cases c2:n=f
   ·rw [if_pos c2,dot_ix];refine ⟨fun e=>by omega,fun e=>?_⟩;have:=(hk f hP.hf).2 (c2.symm.trans e);rw [hP.hc] at this;omega
   ·rw [if_neg c2];by_cases c3:n=cs
    ·rw [if_pos c3,dot_ix];refine ⟨fun e=>by omega,fun e=>?_⟩;have:=(hk n hn).2 e;rcases hcs with e'|e'
     ·exact absurd (c3.trans e') c1
     ·rw [c3,e'] at this;omega
    ·rw [if_neg c3];exact hk n hn
theorem bad_ok {c:UInt8} {bb:Bool} {q n:Nat} {Z:Nat->UInt8} (hz:Z n=c) (hq:q<6) (e:ixc c=((bg bb+q:Nat):Int)) (h:q=0->¬ (n/8=0\/n/8=7)):badR Z n=false:=by
 unfold badR;rw [hz,kd_ix hq e];cases (c==46) with
 | true=>rfl
 | false =>
  rw [decide_eq_false (show ¬ ((q:Nat):Int)<0 by omega)];by_cases q0:q=0
  ·have:=h q0;rw [decide_eq_false (show ¬ n/8=0 by omega),decide_eq_false (show ¬ n/8=7 by omega)];cases decide (((q:Nat):Int)=0)<;>rfl
  ·rw [decide_eq_false (show ¬ ((q:Nat):Int)=0 by omega)];rfl
theorem bad_dot {n:Nat} {Z:Nat->UInt8} (hz:Z n=46):badR Z n=false:=by
 unfold badR;rw [hz];rfl
theorem bad_eq {n:Nat} {z Z:Nat->UInt8} (hz:Z n=z n) (h:badR z n=false):badR Z n=false:=by
 unfold badR at h ⊢;rw [hz];exact h
theorem Plain.bad (hP:Plain z wh b i f t u cs) (kg:i=5->t≠f+2/\t+2≠f) (hu5:u∈U5) (hg:goesR z wh fc b f t u=true) (hb:∀ n,n<64->badR z n=false):∀ n,n<64->badR (plZ z b (f,t,u)) n=false:=by
 have hS:=plain_step hP kg;obtain ⟨q,hq,eq,q5⟩:=hP.tr;have hk:=kd_ix hP.hi hP.hc;intro n hn;have hat:=hS.at' n;by_cases c1:n=t
 ·rw [if_pos c1] at hat;refine bad_ok hat hq eq fun q0 hl=>?_
  rw [c1] at hl;unfold goesR at hg;simp only [Bool.and_eq_true] at hg;have hu:=eq_of_beq hg.1.2
  have hlast:lastR t=true:=by
   unfold lastR;rcases hl with e|e
   ·rw [decide_eq_true e];rfl
   ·rw [decide_eq_true e,Bool.or_true]
  rw [hlast,Bool.and_true] at hu;have hkq:=kd_ix hq eq;by_cases u0:u=0
  ·subst u0;have ht0:trn (z f) 0=z f:=by unfold trn;rw [if_pos rfl]
   rw [ht0,hk] at hkq;rw [hk,decide_eq_true (show ((i:Nat):Int)=0 by omega)] at hu;cases hu
  ·rw [decide_eq_true u0] at hu;have hz0:kdc (z f)=0:=of_decide_eq_true hu.symm;have hi0:i=0:=by omega
   have hzf:z f∈([80,112]:List UInt8):=by
    have:=letr_of (p:=bg wh+i) (by have:=bg_two wh;omega) hP.hc;rw [this,hi0];cases wh<;>decide
   have hu4:u∈([113,114,98,110]:List UInt8):=by
    unfold U5 at hu5;simp only [List.mem_cons,List.not_mem_nil,or_false] at hu5 ⊢;rcases hu5 with e|e|e|e|e
    ·exact absurd e u0
    ·exact .inr (.inr (.inl e))
    ·exact .inr (.inr (.inr e))
    ·exact .inl e
    ·exact .inr (.inl e)
   have:=prom_kd _ hzf _ hu4;omega
 ·rw [if_neg c1] at hat;by_cases c2:n=f
  ·rw [if_pos c2] at hat;exact bad_dot hat
  ·rw [if_neg c2] at hat;by_cases c3:n=cs
   ·rw [if_pos c3] at hat;exact bad_dot hat
   ·rw [if_neg c3] at hat;exact bad_eq hat (hb n hn)
theorem Plain.brd (hP:Plain z wh b i f t u cs) (kg:i=5->t≠f+2/\t+2≠f) (hu5:u∈U5) (hg:goesR z wh fc b f t u=true) (hB:Brd1 z) (hnk:ixc (z t)≠((bg (!wh)+5:Nat):Int)):Brd1 (plZ z b (f,t,u)):=by
 refine ⟨hP.bad kg hu5 hg hB.bad,hP.kings kg hB.kin hnk,fun bb=>?_⟩;obtain ⟨m1,m2⟩:=(plain_step hP kg).men;rcases bb_two bb wh with rfl|rfl
 ·rw [m1];exact hB.men _
 ·exact Nat.le_trans m2 (hB.men _)
end
section
variable {z:Nat->UInt8} {wh:Bool} {fc:Nat->Bool} {b:Int}
theorem cas_empty {i:Nat} (h:Cas z wh i):z (casT i)=46/\z (rN i)=46:=by
 have he:=h.e;unfold mcE at he;rw [List.all_eq_true] at he;obtain ⟨h1,h2⟩:=cas_in i h.hi;obtain ⟨j1,m1,e1⟩:=List.any_eq_true.1 h1;obtain ⟨j2,m2,e2⟩:=List.any_eq_true.1 h2;have a1:=eq_of_beq (he j1 m1);have a2:=eq_of_beq (he j2 m2);rw [of_decide_eq_true e1] at a1;rw [of_decide_eq_true e2] at a2;exact ⟨a1,a2⟩
def kgZ (z:Nat->UInt8) (i n:Nat):UInt8:=if n=casT i then z (hK i) else if n=hK i then 46 else if n=casT i then 46 else z n
theorem cas_brd {i:Nat} (h:Cas z wh i) (hB:Brd1 z):Brd1 (plZ z b (hK i,casT i,0)):=by
 obtain ⟨f1,f2,f3,f4,f5,f6,f7,f8,f9,f10,f11,f12,f13,f14,f15,f16,f17⟩:=cas_facts i h.hi;obtain ⟨e1,e2⟩:=cas_empty h;obtain ⟨hp,hk⟩:=pk_is (i:=5) (by omega) h.k;have hp:pawnB (z (hK i))=false:=by rw [hp];rfl
 have hk:kingB (z (hK i))=true:=by rw [hk];rfl
 have hat:=cas_at (b:=b) h.hi hp hk;have hbg:=bg_two wh;have s1:Step1 z (kgZ z i) wh (hK i) (casT i) (casT i) (z (hK i)):=⟨fun n=>rfl,f1,f2,coc_ix (by omega) h.k,by rw [e1,coc_dot];exact fun e=>sdb_ne0 wh e.symm,coc_ix (by omega) h.k,.inl rfl⟩;have k1:kgZ z i (hR i)=z (hR i):=by unfold kgZ;rw [if_neg f15,if_neg f13,if_neg f15]
 have k2:kgZ z i (rN i)=z (rN i):=by unfold kgZ;rw [if_neg f16,if_neg f14,if_neg f16]
 have s2:Step1 (kgZ z i) (plZ z b (hK i,casT i,0)) wh (hR i) (rN i) (rN i) (z (hR i)):=by
  refine ⟨fun n=>?_,f3,f4,by rw [k1];exact coc_ix (by omega) h.r,by rw [k2,e2,coc_dot];exact fun e=>sdb_ne0 wh e.symm,coc_ix (by omega) h.r,.inl rfl⟩;rw [hat n];by_cases c1:n=hR i
  ·rw [if_pos c1,if_neg (fun e=>f17 (e.symm.trans c1)),if_pos c1]
  ·rw [if_neg c1];by_cases c2:n=rN i
   ·rw [if_pos c2,if_pos c2]
   ·rw [if_neg c2,if_neg c2,if_neg c1,if_neg c2];unfold kgZ;by_cases c3:n=casT i
    ·rw [if_pos c3,if_pos c3]
    ·rw [if_neg c3,if_neg c3,if_neg c3]
 refine ⟨fun n hn=>?_,fun bb=>?_,fun bb=>?_⟩
 ·have hn':=hat n;by_cases c1:n=hR i
  ·rw [if_pos c1] at hn';exact bad_dot hn'
  ·rw [if_neg c1] at hn';by_cases c2:n=rN i
   ·rw [if_pos c2] at hn';exact bad_ok hn' (q:=3) (by omega) h.r (by omega)
   ·rw [if_neg c2] at hn';by_cases c3:n=casT i
    ·rw [if_pos c3] at hn';exact bad_ok hn' (q:=5) (by omega) h.k (by omega)
    ·rw [if_neg c3] at hn';by_cases c4:n=hK i
     ·rw [if_pos c4] at hn';exact bad_dot hn'
     ·rw [if_neg c4] at hn';exact bad_eq hn' (hB.bad n hn)
 ·rcases bb_two bb wh with rfl|rfl
  ·obtain ⟨y,hy,hkk⟩:=kin_iff (hB.kin bb);have eky:hK i=y:=(hkk _ f1).1 h.k;refine kin_of f2 fun n hn=>?_
   rw [hat n];by_cases c1:n=hR i
   ·rw [if_pos c1,dot_ix];exact ⟨fun e=>by omega,fun e=>absurd (c1.symm.trans e) f15⟩
   ·rw [if_neg c1];by_cases c2:n=rN i
    ·rw [if_pos c2,h.r];exact ⟨fun e=>by omega,fun e=>absurd (c2.symm.trans e) f16⟩
    ·rw [if_neg c2];by_cases c3:n=casT i
     ·rw [if_pos c3,h.k];exact ⟨fun _=>c3,fun _=>rfl⟩
     ·rw [if_neg c3];by_cases c4:n=hK i
      ·rw [if_pos c4,dot_ix];exact ⟨fun e=>by omega,fun e=>absurd e c3⟩
      ·rw [if_neg c4,hkk n hn];exact ⟨fun e=>absurd (e.trans eky.symm) c4,fun e=>absurd e c3⟩
  ·obtain ⟨y,hy,hkk⟩:=kin_iff (hB.kin (!wh));have no:∀ m,m<64->ixc (z m)≠((bg (!wh)+5:Nat):Int)->m≠y:=fun m hm hx e=>hx ((hkk m hm).2 e)
   have n1:=no _ f3 (by rw [h.r];omega);have n2:=no _ f4 (by rw [e2,dot_ix];omega);have n3:=no _ f2 (by rw [e1,dot_ix];omega);have n4:=no _ f1 (by rw [h.k];omega);refine kin_of hy fun n hn=>?_
   rw [hat n];by_cases c1:n=hR i
   ·rw [if_pos c1,dot_ix];exact ⟨fun e=>by omega,fun e=>absurd (c1.symm.trans e) n1⟩
   ·rw [if_neg c1];by_cases c2:n=rN i
    ·rw [if_pos c2,h.r];exact ⟨fun e=>by omega,fun e=>absurd (c2.symm.trans e) n2⟩
    ·rw [if_neg c2];by_cases c3:n=casT i
     ·rw [if_pos c3,h.k];exact ⟨fun e=>by omega,fun e=>absurd (c3.symm.trans e) n3⟩
     ·rw [if_neg c3];by_cases c4:n=hK i
      ·rw [if_pos c4,dot_ix];exact ⟨fun e=>by omega,fun e=>absurd (c4.symm.trans e) n4⟩
      ·rw [if_neg c4];exact hkk n hn
 ·obtain ⟨a1,a2⟩:=s1.men;obtain ⟨b1,b2⟩:=s2.men;rcases bb_two bb wh with rfl|rfl
  ·rw [b1,a1];exact hB.men _
  ·exact Nat.le_trans b2 (Nat.le_trans a2 (hB.men _))
theorem cast_of {Z:Nat->UInt8} {F:Nat->Bool} (h0:F 0=true->Z 4=75/\Z 7=82) (h1:F 1=true->Z 4=75/\Z 0=82) (h2:F 2=true->Z 60=107/\Z 63=114) (h3:F 3=true->Z 60=107/\Z 56=114):castOk Z F=true:=by
 have key:∀ (ks:Nat) (kl:Int) (rs:Nat) (rl:Int) (k:Nat) (a d:UInt8),(a.toNat:Int)=kl->(d.toNat:Int)=rl->(F k=true->Z ks=a/\Z rs=d)->castAt Z F ks kl rs rl k=true:=fun ks kl rs rl k a d ea ed h=>by
  unfold castAt;cases hf:F k with
  | false=>rfl
  | true =>
   obtain ⟨e1,e2⟩:=h hf;rw [e1,e2,ea,ed,decide_eq_true rfl,decide_eq_true rfl];rfl
 unfold castOk;rw [List.all_eq_true];intro k hk;have hk:=List.mem_range.1 hk;have:k=0\/k=1\/k=2\/k=3:=by omega
 rcases this with rfl|rfl|rfl|rfl
 ·exact key 4 75 7 82 0 75 82 rfl rfl h0
 ·exact key 4 75 0 82 1 75 82 rfl rfl h1
 ·exact key 60 107 63 114 2 107 114 rfl rfl h2
 ·exact key 60 107 56 114 3 107 114 rfl rfl h3
theorem cf_parts {f t k:Nat} (hk:k<4) (h:cfA fc f t 4 k=true):fc k=true/\(f:Int)≠homeK k/\(t:Int)≠homeK k/\(f:Int)≠homeR k/\(t:Int)≠homeR k:=by
 unfold cfA toA tchB at h;simp only [beq_int,Bool.and_eq_true,Bool.not_eq_true',Bool.and_eq_false_iff,Bool.or_eq_false_iff,decide_eq_false_iff_not] at h;obtain ⟨h1,h2⟩:=h;rcases h2 with h2|⟨⟨a,c⟩,d,e⟩
 ·exact absurd hk h2
 ·exact ⟨h1,a,c,d,e⟩
theorem clk_after {h g:Int} (hc:clkOk h g=true) (f t:Nat):clkOk (halA z f t h) (fulA wh g)=true:=by
 unfold clkOk at hc ⊢;simp only [Bool.and_eq_true,decide_eq_true_eq] at hc ⊢;unfold halA fulA;refine ⟨⟨⟨?_,?_⟩,?_⟩,?_⟩
 ·split<;>omega
 ·split<;>omega
 ·split<;>omega
 ·split<;>omega
end
section
variable {z:Nat->UInt8} {wh:Bool} {fc:Nat->Bool} {b:Int} {i f t cs:Nat} {u:UInt8}
theorem hom_ix:ixc 75=5/\ixc 82=3/\ixc 107=11/\ixc 114=9:=by decide +kernel
theorem Plain.keep (hP:Plain z wh b i f t u cs) (kg:i=5->t≠f+2/\t+2≠f) {n:Nat} (h1:n≠t) (h2:n≠f) (h3:ixc (z n)≠0/\ixc (z n)≠6):plZ z b (f,t,u) n=z n:=by
 rw [(plain_step hP kg).at' n,if_neg h1,if_neg h2];by_cases c3:n=cs
 ·exfalso
  by_cases hep:i=0/\(t:Int)=b
  ·obtain ⟨_,_,_,_,e5⟩:=hP.ep hep.1 hep.2;rw [<-c3] at e5;have:=bg_two wh;omega
  ·exact h1 (c3.trans (hP.nep hep))
 ·rw [if_neg c3]
theorem Plain.cast (hP:Plain z wh b i f t u cs) (kg:i=5->t≠f+2/\t+2≠f) (hC:Can z wh fc b):castOk (plZ z b (f,t,u)) (cfA fc f t 4)=true:=by
 obtain ⟨x1,x2,x3,x4⟩:=hom_ix;refine cast_of (fun h=>?_) (fun h=>?_) (fun h=>?_) (fun h=>?_)
 ·obtain ⟨a,a1,a2,a3,a4⟩:=cf_parts (by omega) h;obtain ⟨c1,c2⟩:=hC.c0 a;simp [homeK,homeR] at a1 a2 a3 a4;rw [hP.keep kg (n:=4) (by omega) (by omega) (by rw [c1];omega),hP.keep kg (n:=7) (by omega) (by omega) (by rw [c2];omega)];exact ⟨c1,c2⟩
 ·obtain ⟨a,a1,a2,a3,a4⟩:=cf_parts (by omega) h;obtain ⟨c1,c2⟩:=hC.c1 a;simp [homeK,homeR] at a1 a2 a3 a4;rw [hP.keep kg (n:=4) (by omega) (by omega) (by rw [c1];omega),hP.keep kg (n:=0) (by omega) (by omega) (by rw [c2];omega)];exact ⟨c1,c2⟩
 ·obtain ⟨a,a1,a2,a3,a4⟩:=cf_parts (by omega) h;obtain ⟨c1,c2⟩:=hC.c2 a;simp [homeK,homeR] at a1 a2 a3 a4;rw [hP.keep kg (n:=60) (by omega) (by omega) (by rw [c1];omega),hP.keep kg (n:=63) (by omega) (by omega) (by rw [c2];omega)];exact ⟨c1,c2⟩
 ·obtain ⟨a,a1,a2,a3,a4⟩:=cf_parts (by omega) h;obtain ⟨c1,c2⟩:=hC.c3 a;simp [homeK,homeR] at a1 a2 a3 a4;rw [hP.keep kg (n:=60) (by omega) (by omega) (by rw [c1];omega),hP.keep kg (n:=56) (by omega) (by omega) (by rw [c2];omega)];exact ⟨c1,c2⟩
theorem Plain.beh (hP:Plain z wh b i f t u cs) (kg:i=5->t≠f+2/\t+2≠f) (hg:goesR z wh fc b f t u=true):behOk (plZ z b (f,t,u)) (!wh) (behA z f t)=true:=by
 have hS:=plain_step hP kg;have hf:=hP.hf;have ht:=hP.ht;unfold behA;rw [pawn_kd];by_cases c0:kdc (z f)=0
 case neg=>rw [decide_eq_false c0];rfl
 rw [decide_eq_true c0,Bool.true_and];by_cases c2:twoP f t=true
 case neg=>rw [if_neg c2];rfl
 rw [if_pos c2];have h4:upR f t*upR f t=4:=of_decide_eq_true c2;unfold goesR at hg;simp only [Bool.and_eq_true] at hg;obtain ⟨⟨_,hu⟩,hg⟩:=hg;rw [if_pos c0] at hg;unfold pwR at hg
 have na:¬ attI (zI z) 0 (sdb wh) (f:Int) (t:Int)=true:=fun ha=>by
  have:=att0_up ha;rw [this] at h4;cases wh<;>cases h4
 rw [if_neg na] at hg;unfold pwU at hg;simp only [Bool.and_eq_true,Bool.or_eq_true,decide_eq_true_eq] at hg;obtain ⟨⟨e8,zt⟩,hg⟩:=hg;rcases hg with hg|⟨⟨hup,hr⟩,zm⟩
 ·rw [hg] at h4;cases wh<;>cases h4
 have hi0:i=0:=by have:=kd_ix hP.hi hP.hc;omega
 have hu0:lastR t=false->trn (z f) u=z f:=fun hl=>by
  rw [hl,Bool.and_false] at hu;have:=eq_of_beq hu;have u0:u=0:=Classical.byContradiction fun h=>by rw [decide_eq_true h] at this;cases this
  rw [u0];unfold trn;rw [if_pos rfl]
 have zf:=letr_of (p:=bg wh+i) (by have:=bg_two wh;omega) hP.hc;rw [hi0] at zf
 have mid:∀ n,n≠t->n≠f->z n=46->plZ z b (f,t,u) n=46:=fun n n1 n2 n3=>by
  rw [hS.at' n,if_neg n1,if_neg n2,n3];split<;>rfl
 have atf:plZ z b (f,t,u) f=46:=by rw [hS.at' f,if_neg hS.ne,if_pos rfl]
 have att:plZ z b (f,t,u) t=trn (z f) u:=by rw [hS.at' t,if_pos rfl]
 unfold upR at hup;cases wh
 ·simp only [sdb,Bool.false_eq_true,if_false] at hup hr zm
  have hl:lastR t=false:=by
   unfold lastR;rw [decide_eq_false (show ¬ t/8=0 by omega),decide_eq_false (show ¬ t/8=7 by omega)];rfl
  rw [hu0 hl,zf,show letr (bg false+0)=112 by decide +kernel] at att;obtain ⟨m,rfl⟩:∃ m,f=m+16:=⟨f-16,by omega⟩;have et:t=m:=by omega
  subst et;have em:(t+16+t)/2=t+8:=by omega
  rw [em];unfold behOk;have zm':=mid (t+8) (by omega) (by omega) (by rw [show t+16-8=t+8 by omega] at zm;exact zm);rw [show (((t+8:Nat):Int)).toNat=t+8 from Int.toNat_natCast _,show (((t+8:Nat):Int)+8).toNat=t+16 by omega,show (((t+8:Nat):Int)-8).toNat=t by omega,zm',atf,att];simp only [Bool.not_false,if_true];rw [decide_eq_true (show (40:Int)<=((t+8:Nat):Int) by omega),decide_eq_true (show ((t+8:Nat):Int)<48 by omega)];simp
 ·simp only [sdb,if_true] at hup hr zm
  have hl:lastR t=false:=by
   unfold lastR;rw [decide_eq_false (show ¬ t/8=0 by omega),decide_eq_false (show ¬ t/8=7 by omega)];rfl
  rw [hu0 hl,zf,show letr (bg true+0)=80 by decide +kernel] at att;have et:t=f+16:=by omega
  subst et;have em:(f+(f+16))/2=f+8:=by omega
  rw [em];unfold behOk;have zm':=mid (f+8) (by omega) (by omega) zm;rw [show (((f+8:Nat):Int)).toNat=f+8 from Int.toNat_natCast _,show (((f+8:Nat):Int)+8).toNat=f+16 by omega,show (((f+8:Nat):Int)-8).toNat=f by omega,zm',atf,att];simp only [Bool.not_true,Bool.false_eq_true,if_false];rw [decide_eq_true (show (16:Int)<=((f+8:Nat):Int) by omega),decide_eq_true (show ((f+8:Nat):Int)<24 by omega)];simp
theorem cas_cast {i:Nat} (h:Cas z wh i) (hC:Can z wh fc b):castOk (plZ z b (hK i,casT i,0)) (cfA fc (hK i) (casT i) 4)=true:=by
 obtain ⟨hp,hk⟩:=pk_is (i:=5) (by omega) h.k;have hp:pawnB (z (hK i))=false:=by rw [hp];rfl
 have hk:kingB (z (hK i))=true:=by rw [hk];rfl
 have hat:=cas_at (b:=b) h.hi hp hk;have hi:=h.hi;have:i=0\/i=1\/i=2\/i=3:=by omega
 refine cast_of (fun h=>?_) (fun h=>?_) (fun h=>?_) (fun h=>?_)
 all_goals
  obtain ⟨a,a1,a2,a3,a4⟩:=cf_parts (by omega) h;rw [hat,hat];rcases this with rfl|rfl|rfl|rfl<;>simp [hK,hR,casT,rN,homeK,homeR] at a1 a2 a3 a4 ⊢<;>first|exact hC.c0 a|exact hC.c1 a|exact hC.c2 a|exact hC.c3 a
end
theorem can_after {z:Nat->UInt8} {wh:Bool} {fc:Nat->Bool} {b h g:Int} (hcan:canS z wh fc b h g=true) (h0:-1<=b) (h1:b<=63) {f t:Nat} {u:UInt8} (hx:(f,t,u)∈movS z wh fc b):canS (plZ z b (f,t,u)) (!wh) (cfA fc f t 4) (behA z f t) (halA z f t h) (fulA wh g)=true:=by
 have hC:=can_good hcan;rw [<-can_same] at hcan ⊢;have hok:=movS_ok _ _ _ _ _ hx;have hf:f<64:=hok.1;have ht:t<64:=hok.2;have hxl:=(same_mem hC h0 h1 _).2 hx;obtain ⟨i,f',t',u',e,hi,_,_,hc,hm,hu⟩:=(alU_mem hC).1 (List.mem_filter.1 hxl).1;have e1:f=f':=by injection e
 have e2:t=t':=by injection e with _ e;injection e
 have e3:u=u':=by injection e with _ e;injection e
 subst e1 e2 e3;obtain ⟨u2,e4,_,hu1⟩:=turn_u hu;have e5:u=u2:=by injection e4 with _ e4;injection e4
 subst e5
 have hu5:u∈U5:=by
  unfold U5;rcases hu1 with e|e|e|e|e<;>rw [e]<;>decide
 have hleg:=(leg_iff hC h0 h1 hf ht hu5).2 hxl;unfold legR at hleg;rw [Bool.and_eq_true,bz4_pl hC hi hf ht hc hm hu] at hleg;obtain ⟨hgo,hatt⟩:=hleg;have hatt:attR (plZ z b (f,t,u)) (kingR (plZ z b (f,t,u)) wh) (!wh)=false:=by simpa using hatt
 unfold canR at hcan;simp only [Bool.and_eq_true,decide_eq_true_eq,List.all_eq_true,Bool.not_eq_true'] at hcan;obtain ⟨⟨⟨⟨⟨hbad,⟨⟨hk1,hk2⟩,hm1⟩,hm2⟩,_⟩,_⟩,ho⟩,hclk⟩:=hcan;have hB:Brd1 z:=⟨fun n hn=>hbad n (List.mem_range.2 hn),fun bb=>by cases bb<;>assumption,fun bb=>by cases bb<;>assumption⟩
 have fin:Brd1 (plZ z b (f,t,u))->castOk (plZ z b (f,t,u)) (cfA fc f t 4)=true->behOk (plZ z b (f,t,u)) (!wh) (behA z f t)=true->canR (plZ z b (f,t,u)) (!wh) (cfA fc f t 4) (behA z f t) (halA z f t h) (fulA wh g)=true:=fun hZ q1 q2=>by
  unfold canR;rw [Bool.not_not,hatt,q1,q2,clk_after hclk f t,decide_eq_true (hZ.kin true),decide_eq_true (hZ.kin false),decide_eq_true (hZ.men true),decide_eq_true (hZ.men false)];have:((List.range 64).all fun n=>!(badR (plZ z b (f,t,u)) n))=true:=List.all_eq_true.2 fun n hn=>by rw [hZ.bad n (List.mem_range.1 hn)];rfl
  rw [this];rfl
 rcases classify hC hi hf ht hc hm hu with ⟨hP,kg⟩|⟨ci,hK',a1,a2,a3,a4⟩
 ·have hnk:=no_king hi hf ht hc hgo kg (hB.kin _) ho;exact fin (hP.brd kg hu5 hgo hB hnk) (hP.cast kg hC) (hP.beh kg hgo)
 ·subst a1 a2 a3;refine fin (cas_brd hK' hB) (cas_cast hK' hC) ?_;have hpw:pawnB (z (hK ci))=false:=by rw [(pk_is hi hc).1,a4];rfl
  unfold behA;rw [hpw];rfl
theorem sq_names:∀ k,k<64->sqS ⟨(nameS k).toArray⟩=some k:=by decide +kernel
theorem ext_list (s:ByteArray) (a e:Nat):(s.extract a e).data.toList=(s.data.toList.take e).drop a:=by
 rw [ByteArray.data_extract,Array.toList_extract];simp [List.drop_take]
theorem mv_read' {S:ByteArray} {f tt:Nat} {u:UInt8} (hl:S.data.toList=mvS f tt u) (hf:f<64) (ht:tt<64) (hu:u∈U5):mvR S=some (f,tt,u):=by
 have n1:(nameS f).length=2:=rfl;have n2:(nameS tt).length=2:=rfl;have hmv:mvS f tt u=nameS f++(nameS tt++(if u=0 then [] else [u])):=by unfold mvS;rw [List.append_assoc]
 have x1:S.extract 0 2=⟨(nameS f).toArray⟩:=by
  have:=ext_list S 0 2;rw [hl,hmv,List.take_append_of_le_length (by omega),List.take_of_length_le (by omega),List.drop_zero] at this;cases hx:S.extract 0 2 with
  | mk d=>rw [hx] at this;simp at this ⊢;rw [<-this]
 have x2:S.extract 2 4=⟨(nameS tt).toArray⟩:=by
  have:=ext_list S 2 4;rw [hl] at this;unfold mvS at this;rw [List.take_append_of_le_length (by simp [n1,n2]),List.take_of_length_le (by simp [n1,n2]),List.drop_append_of_le_length (by omega),List.drop_of_length_le (by omega),List.nil_append] at this;cases hx:S.extract 2 4 with
  | mk d=>rw [hx] at this;simp at this ⊢;rw [<-this]
 have hsz:S.size=(mvS f tt u).length:=by rw [<-hl];exact Array.length_toList.symm
 have hml:(mvS f tt u).length=if u=0 then 4 else 5:=by
  unfold mvS;rw [List.length_append,List.length_append,n1,n2];split<;>rfl
 unfold mvR;rw [x1,x2,sq_names f hf,sq_names tt ht];by_cases u0:u=0
 ·rw [if_pos u0] at hml;rw [if_pos (Or.inl (hsz.trans hml))];simp only;rw [rdT_4 (hsz.trans hml),if_pos rfl,u0]
 ·rw [if_neg u0] at hml;rw [if_pos (Or.inr (hsz.trans hml))];simp only;have h5:=hsz.trans hml;have h4:4<S.size:=by omega
  have e4:S[4]=u:=by
   have h4':4<S.data.toList.length:=by rw [Array.length_toList];exact h4
   have:S.data.toList[4]=u:=by
    have e:mvS f tt u=nameS f++nameS tt++[u]:=by unfold mvS;rw [if_neg u0]
    simp only [hl,e];rfl
   rw [<-this];rfl
  rw [rdT_5 h5,e4]
  have:0<=Lib.indexByte turnsL u:=by
   have key:∀ c∈U5,c≠0->0<=Lib.indexByte turnsL c:=by decide +kernel
   exact key u hu u0
  exact if_pos (decide_eq_true this)
theorem mv_read {f tt:Nat} {u:UInt8} (hf:f<64) (ht:tt<64) (hu:u∈U5):mvR (str (mvS f tt u))=some (f,tt,u):=mv_read' rfl hf ht hu
end Go.Proofs.YtnfakamfmkhlbabGreatDoor.C
namespace Go.Proofs.YtnfakamfmkhlbabGreatDoor.C
open Go.ChangeShapes Go.WideShapes Go.ChangeAt Go.RowKit Go.Shelf
open Go.Proofs.YtnfakamfmkhlbabGreatDoor.P
attribute [local go_sem] setCell_drewN alloc_drewN
theorem shl_U (k:Nat) (hk:k<64):IntKind.u64.wrap (2 ^ k)=U (1#64 <<< k):=by
 have:=one_U k hk;unfold oneI at this;rw [<-this,Int.toNat_natCast]
end Go.Proofs.YtnfakamfmkhlbabGreatDoor.C
namespace Go.Proofs.YtnfakamfmkhlbabGreatDoor.C
open Go.RowKit
open Go.Proofs.YtnfakamfmkhlbabGreatDoor.P
theorem mov_u5 {z:Nat->UInt8} {wh:Bool} {fc:Nat->Bool} {b:Int} (hC:Can z wh fc b) (h0:-1<=b) (h1:b<=63) {x:Mv} (hx:x∈movS z wh fc b):x.2.2∈U5:=by
 obtain ⟨i,f',t',u',e,hi,_,_,hc,hm,hu⟩:=(alU_mem hC).1 (List.mem_filter.1 ((same_mem hC h0 h1 x).2 hx)).1;obtain ⟨u2,e4,_,hu1⟩:=turn_u hu;have e5:u'=u2:=by injection e4 with _ e4;injection e4
 rw [e];show u'∈U5;rw [e5];unfold U5;rcases hu1 with e|e|e|e|e<;>rw [e]<;>decide
theorem pos_far {s:ByteArray} {p:Pos} (hr:readS s=some p):∀ n,64<=n->posZ p n=0:=by
 obtain ⟨B,h1,h2,_⟩:=read_back s p hr;intro n hn;rw [posZ_is (by first|exact h1|exact h2)];unfold zB;rw [List.getD_eq_getElem?_getD,List.getElem?_eq_none (by omega)];rfl
structure Mvd (z:Nat->UInt8) (wh:Bool) (fc:Nat->Bool) (b:Int) (f t:Nat) (u:UInt8):Prop where
 far:∀ n,64<=n->plZ z b (f,t,u) n=z n
 safe:attR (plZ z b (f,t,u)) (kingR (plZ z b (f,t,u)) wh) (!wh)=false
 king:∃ y:Nat,y<64/\kingR (plZ z b (f,t,u)) wh=(y:Int)
theorem mvd_of {z:Nat->UInt8} {wh:Bool} {fc:Nat->Bool} {b:Int} (hC:Can z wh fc b) (h0:-1<=b) (h1:b<=63) {f t:Nat} {u:UInt8} (hx:(f,t,u)∈movS z wh fc b):Mvd z wh fc b f t u:=by
 have hok:=movS_ok _ _ _ _ _ hx;have hf:f<64:=hok.1;have ht:t<64:=hok.2;have hu5:u∈U5:=mov_u5 hC h0 h1 hx;have hxl:=(same_mem hC h0 h1 _).2 hx;obtain ⟨i,f',t',u',e,hi,_,_,hc,hm,hu⟩:=(alU_mem hC).1 (List.mem_filter.1 hxl).1;have e1:f=f':=by injection e
 have e2:t=t':=by injection e with _ e;injection e
 have e3:u=u':=by injection e with _ e;injection e
 subst e1 e2 e3;have hleg:=(leg_iff hC h0 h1 hf ht hu5).2 hxl;unfold legR at hleg;rw [Bool.and_eq_true,bz4_pl hC hi hf ht hc hm hu] at hleg;refine ⟨fun n hn=>?_,by simpa using hleg.2,(legal_same hC h0 h1 hi hf ht hc hm hu).1⟩;rcases classify hC hi hf ht hc hm hu with ⟨hP,kg⟩|⟨ci,hK',a1,a2,a3,a4⟩
 ·rw [(plain_step hP kg).at' n,if_neg (by omega),if_neg (by omega),if_neg];intro ec;by_cases hep:i=0/\(t:Int)=b
  ·obtain ⟨_,hcs,_,_,_⟩:=hP.ep hep.1 hep.2;omega
  ·have:=hP.nep hep;omega
 ·subst a1 a2 a3;obtain ⟨hp,hk⟩:=pk_is (i:=5) (by omega) hK'.k;have hp:pawnB (z (hK ci))=false:=by rw [hp];rfl
  have hk:kingB (z (hK ci))=true:=by rw [hk];rfl
  obtain ⟨f1,f2,f3,f4,_⟩:=cas_facts ci hK'.hi;rw [cas_at (b:=b) hK'.hi hp hk n,if_neg (by omega),if_neg (by omega),if_neg (by omega),if_neg (by omega)]
def mr (n:Nat):Nat:=(7-n/8)*8+n%8
def mm (x:Mv):Mv:=(mr x.1,mr x.2.1,x.2.2)
theorem mov_iff {z:Nat->UInt8} {wh:Bool} {fc:Nat->Bool} {b:Int} (hC:Can z wh fc b) (h0:-1<=b) (h1:b<=63) {f t:Nat} {u:UInt8} (hf:f<64) (ht:t<64) (hu:u∈U5):(f,t,u)∈movS z wh fc b↔legR z wh fc b f t u=true:=by
 rw [leg_iff hC h0 h1 hf ht hu,same_mem hC h0 h1]
theorem cas_fc {wh:Bool} {fc fd:Nat->Bool} (h:∀ i,i<4->fc i=fd i) (f t:Nat) (u:UInt8):casR wh fc f t u=casR wh fd f t u:=by
 have hu:∀ fc:Nat->Bool,casR wh fc f t u=if casB wh fc f t u 0 then 0 else if casB wh fc f t u 1 then 1 else if casB wh fc f t u 2 then 2 else if casB wh fc f t u 3 then 3 else -1:=fun _=>rfl
 have hc:∀ i,i<4->casB wh fc f t u i=casB wh fd f t u i:=fun i hi=>by unfold casB;rw [h i hi]
 rw [hu,hu,hc 0 (by omega),hc 1 (by omega),hc 2 (by omega),hc 3 (by omega)]
theorem leg_fc {z:Nat->UInt8} {wh:Bool} {fc fd:Nat->Bool} {b:Int} (h:∀ i,i<4->fc i=fd i) (f t:Nat) (u:UInt8):legR z wh fc b f t u=legR z wh fd b f t u:=by
 have e1:goesR z wh fc b f t u=goesR z wh fd b f t u:=by
  unfold goesR mnR;rw [cas_fc h]
 have e2:bz4 z wh fc b f t u=bz4 z wh fd b f t u:=by
  unfold bz4 kcB;rw [cas_fc h]
 unfold legR;rw [e1,e2]
theorem mov_fc {z:Nat->UInt8} {wh:Bool} {fc fd:Nat->Bool} {b:Int} (hC:Can z wh fc b) (hD:Can z wh fd b) (h0:-1<=b) (h1:b<=63) (h:∀ i,i<4->fc i=fd i) (x:Mv):x∈movS z wh fc b↔x∈movS z wh fd b:=by
 obtain ⟨f,t,u⟩:=x;constructor
 ·intro hx;have hok:=movS_ok _ _ _ _ _ hx;have hu:u∈U5:=mov_u5 hC h0 h1 hx;rw [mov_iff hD h0 h1 hok.1 hok.2 hu,<-leg_fc h];exact (mov_iff hC h0 h1 hok.1 hok.2 hu).1 hx
 ·intro hx;have hok:=movS_ok _ _ _ _ _ hx;have hu:u∈U5:=mov_u5 hD h0 h1 hx;rw [mov_iff hC h0 h1 hok.1 hok.2 hu,leg_fc h];exact (mov_iff hD h0 h1 hok.1 hok.2 hu).1 hx
end Go.Proofs.YtnfakamfmkhlbabGreatDoor.C
namespace Go.Proofs.YtnfakamfmkhlbabGreatDoor.C
open Go.ChangeShapes Go.WideShapes Go.ChangeAt Go.RowKit Go.Shelf
open Go.Proofs.YtnfakamfmkhlbabGreatDoor.P
theorem mul_U (a b:BitVec 64):IntKind.u64.wrap (U a*U b)=U (a*b):=by
 rw [wrap_of];refine congrArg U ?_;unfold U;rw [<-Int.natCast_mul,BitVec.ofInt_natCast];exact BitVec.eq_of_toNat_eq (by rw [BitVec.toNat_ofNat,BitVec.toNat_mul])
theorem add_U (a b:BitVec 64):IntKind.u64.wrap (U a+U b)=U (a+b):=by
 rw [wrap_of];refine congrArg U ?_;unfold U;rw [<-Int.natCast_add,BitVec.ofInt_natCast];exact BitVec.eq_of_toNat_eq (by rw [BitVec.toNat_ofNat,BitVec.toNat_add])
def mixB (x:BitVec 64):BitVec 64 :=
 let a:=(x ^^^ x >>> 30)*13787848793156543929#64
 let b:=(a ^^^ a >>> 27)*10723151780598845931#64
 b ^^^ b >>> 31
def numB (s n:BitVec 64):BitVec 64:=mixB (s+n*11400714819323198485#64)
theorem shr30 (x:BitVec 64):U x/(1073741824:Int)=U (x >>> 30):=shr_U x 30
theorem shr27 (x:BitVec 64):U x/(134217728:Int)=U (x >>> 27):=shr_U x 27
theorem shr31 (x:BitVec 64):U x/(2147483648:Int)=U (x >>> 31):=shr_U x 31
def mixI (x:Int):Int :=
 let a:=IntKind.u64.wrap (bits .xor .u64 x (x/1073741824)*13787848793156543929)
 let b:=IntKind.u64.wrap (bits .xor .u64 a (a/134217728)*10723151780598845931)
 bits .xor .u64 b (b/2147483648)
theorem mxB:(13787848793156543929:Int)=U 13787848793156543929#64:=by decide +kernel
theorem mxC:(10723151780598845931:Int)=U 10723151780598845931#64:=by decide +kernel
theorem mxA:(11400714819323198485:Int)=U 11400714819323198485#64:=by decide +kernel
theorem mix_U (x:BitVec 64):mixI (U x)=U (mixB x):=by
 unfold mixI mixB;simp only;rw [shr30,xor_U,mxB,mul_U,shr27,xor_U,mxC,mul_U,shr31,xor_U]
theorem mix_any (x:Int) (w:World):Calls Tryz.prog 295 #[.int .u64 x] w fun e w'=>e=.returned (.int .u64 (mixI x))/\w'=w:=by
 go_enter Tryz.func295,Tryz.ntmps295;go_wp2;go_ret;exact ⟨ret_int (a:=mixI x) rfl,rfl⟩
def numbI (s n:Int):Int:=mixI (IntKind.u64.wrap (s+IntKind.u64.wrap (n*11400714819323198485)))
theorem numb_U (s n:BitVec 64):numbI (U s) (U n)=U (numB s n):=by
 unfold numbI numB;rw [mxA,mul_U,add_U,mix_U]
theorem mixNum_any (s n:Int) (w:World):Calls Tryz.prog 243 #[.int .u64 s,.int .u64 n] w fun e w'=>e=.returned (.int .u64 (numbI s n))/\w'=w:=by
 go_enter Tryz.func243,Tryz.ntmps243;go_wp2_with (go_at_call 295;refine (mix_any _ _).mono ?_;rintro e w' ⟨rfl,rfl⟩);go_ret;exact ⟨ret_int (a:=numbI s n) rfl,rfl⟩
end Go.Proofs.YtnfakamfmkhlbabGreatDoor.C
namespace Go.Proofs.YtnfakamfmkhlbabGreatDoor.C
open Go.RowKit
open Go.Proofs.YtnfakamfmkhlbabGreatDoor.P
def gnB (n:Nat):BitVec 64:=numB 0#64 (BitVec.ofNat 64 n)
def kyB (z:Nat->UInt8):Nat->BitVec 64
 | 0=>0#64
 | n+1=>if 0<=ixc (z n) then kyB z n ^^^ gnB (64*(ixc (z n)).toNat+n+1) else kyB z n
def kyC (fc:Nat->Bool) (k:BitVec 64):Nat->BitVec 64
 | 0=>k
 | n+1=>if fc n then kyC fc k n ^^^ gnB (769+n) else kyC fc k n
def kyW (wh:Bool) (k:BitVec 64):BitVec 64:=if wh then k else k ^^^ gnB 773
def kyF (b:Int) (k:BitVec 64):BitVec 64:=if 0<=b then k ^^^ gnB (774+(b%8).toNat) else k
def keyS (z:Nat->UInt8) (wh:Bool) (fc:Nat->Bool) (b:Int):BitVec 64:=kyF b (kyW wh (kyC fc (kyB z 64) 4))
def nmB (z:Nat->UInt8):List Nat:=(List.range 64).filterMap fun n=>if 0<=ixc (z n) then some (64*(ixc (z n)).toNat+n+1) else none
def nmC (fc:Nat->Bool):List Nat:=(List.range 4).filterMap fun n=>if fc n then some (769+n) else none
def numsS (z:Nat->UInt8) (wh:Bool) (fc:Nat->Bool) (b:Int):List Nat:=nmB z++nmC fc++(if wh then [] else [773])++(if 0<=b then [774+(b%8).toNat] else [])
def xorN (k:BitVec 64) (l:List Nat):BitVec 64:=l.foldl (fun a n=>a ^^^ gnB n) k
theorem xorN_app (k:BitVec 64) (l m:List Nat):xorN k (l++m)=xorN (xorN k l) m:=List.foldl_append
theorem kyB_succ (z:Nat->UInt8) (n:Nat):kyB z (n+1)=if 0<=ixc (z n) then kyB z n ^^^ gnB (64*(ixc (z n)).toNat+n+1) else kyB z n:=rfl
theorem kyC_succ (fc:Nat->Bool) (k:BitVec 64) (n:Nat):kyC fc k (n+1)=if fc n then kyC fc k n ^^^ gnB (769+n) else kyC fc k n:=rfl
theorem kyB_is (z:Nat->UInt8) (k:Nat):kyB z k=xorN 0#64 ((List.range k).filterMap fun n=>if 0<=ixc (z n) then some (64*(ixc (z n)).toNat+n+1) else none):=by
 induction k with
 | zero=>rfl
 | succ k ih =>
  rw [List.range_succ,List.filterMap_append,xorN_app,<-ih,kyB_succ];by_cases h:0<=ixc (z k)
  ·simp [h,xorN]
  ·simp [h,xorN]
theorem kyC_is (fc:Nat->Bool) (x:BitVec 64) (k:Nat):kyC fc x k=xorN x ((List.range k).filterMap fun n=>if fc n then some (769+n) else none):=by
 induction k with
 | zero=>rfl
 | succ k ih =>
  rw [List.range_succ,List.filterMap_append,xorN_app,<-ih,kyC_succ];cases h:fc k
  ·simp [h,xorN]
  ·simp [h,xorN]
theorem key_nums (z:Nat->UInt8) (wh:Bool) (fc:Nat->Bool) (b:Int):keyS z wh fc b=xorN 0#64 (numsS z wh fc b):=by
 unfold keyS numsS;rw [xorN_app,xorN_app,xorN_app];unfold nmB nmC;rw [<-kyB_is,<-kyC_is];unfold kyF kyW;cases wh<;>by_cases h:0<=b<;>simp [h,xorN]
end Go.Proofs.YtnfakamfmkhlbabGreatDoor.C
