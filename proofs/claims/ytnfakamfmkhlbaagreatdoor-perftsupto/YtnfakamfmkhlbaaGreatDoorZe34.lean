import Derived.Test.YtnfakamfmkhlbaaGreatDoorZe32
import Derived.Test.YtnfakamfmkhlbaaGreatDoorZe33
import Derived.Test.YtnfakamfmkhlbaaGreatDoorZe31
import Derived.Test.YtnfakamfmkhlbaaGreatDoorKz2
import Derived.Test.YtnfakamfmkhlbaaGreatDoorKz3
set_option maxRecDepth 100000
set_option maxHeartbeats 4000000
set_option linter.unusedSimpArgs false
namespace Go.Proofs.YtnfakamfmkhlbaaGreatDoor.C
open Go.RowKit
open Go.Proofs.YtnfakamfmkhlbaaGreatDoor.P
theorem prom_is:∀ wh:Bool,∀ u∈[98,110,113,114],manL (plU u) wh=trn (letr (bg wh)) u:=by decide +kernel
theorem cas_two:∀ i,i<4->casT i=hK i+2\/casT i+2=hK i:=by decide +kernel
theorem bz1_no {z:Nat->UInt8} {b:Int} {f t:Nat} (h:pasB z b f t=false):bz1 z b f t=z:=by
 unfold bz1;rw [h];rfl
theorem bz4_pl {z:Nat->UInt8} {wh:Bool} {fc:Nat->Bool} {b:Int} (hC:Can z wh fc b) {i f t:Nat} {u:UInt8} (hi:i<6) (hf:f<64) (ht:t<64) (hc:ixc (z f)=((bg wh+i:Nat):Int)) (hm:t∈tgL z wh fc b f) (hu:(f,t,u)∈turnsB (decide (i=0)) f t):bz4 z wh fc b f t u=plZ z b (f,t,u):=by
 have hkd:=kd_ix hi hc;obtain ⟨u',e,u0,u1⟩:=qx1 hu;have:u=u':=by injection e with _ e;injection e
 subst this;rcases classify hC hi hf ht hc hm hu with ⟨hP,kg⟩|⟨ci,hK',e1,e2,e3,e4⟩
 ·have hkc:kcB z wh fc f t u=false:=by
   cases hx:kcB z wh fc f t u with
   | false=>rfl
   | true =>
    unfold kcB at hx;rw [Bool.and_eq_true,decide_eq_true_eq,decide_eq_true_eq,hkd] at hx;have i5:i=5:=by omega
    have hu0:=u0 (decide_eq_false (by omega));subst hu0;have hx2:=hx.2
    have hall:∀ j,j<4->casB wh fc f t 0 j=true->False:=fun j hj h=>by
     obtain ⟨_,_,a3,a4⟩:=(qjc hj).1 h;have:=kg i5;have:=cas_two j hj;omega
    have hun:casR wh fc f t 0=if casB wh fc f t 0 0 then 0 else if casB wh fc f t 0 1 then 1 else if casB wh fc f t 0 2 then 2 else if casB wh fc f t 0 3 then 3 else -1:=rfl;rw [hun,if_neg (hall 0 (by omega)),if_neg (hall 1 (by omega)),if_neg (hall 2 (by omega)),if_neg (hall 3 (by omega))] at hx2;omega
  have hB:=pl_at hP kg;funext n;rw [hB n];unfold bz4;rw [hkc,if_neg (by simp)];have hft:=hP.ft
  have h2:bz2 z b f t n=if n=t then z f else if n=f then 46 else if n=csN wh b i t then 46 else z n:=by
   unfold bz2 upd;by_cases c1:n=f
   ·rw [if_pos c1,if_neg (fun e=>hft (c1.symm.trans e)),if_pos c1]
   ·rw [if_neg c1,if_neg c1];by_cases c2:n=t
    ·rw [if_pos c2,if_pos c2]
    ·rw [if_neg c2,if_neg c2];by_cases hep:i=0/\(t:Int)=b
     ·obtain ⟨q1,q2⟩:=hep;obtain ⟨_,_,e3,_,_⟩:=hP.ep q1 q2;have hcf:=hP.cf
      have hpas:pasB z b f t=true:=by
       unfold pasB;rw [hkd,q1,decide_eq_true q2,decide_eq_true (show f%8≠t%8 from fun e=>hcf (by rw [e3,<-e];omega))];rfl
      unfold bz1;rw [hpas,if_pos rfl,<-e3];rfl
     ·have hpas:pasB z b f t=false:=by
       cases hx:pasB z b f t with
       | false=>rfl
       | true =>
        unfold pasB at hx;rw [Bool.and_eq_true,Bool.and_eq_true,decide_eq_true_eq,decide_eq_true_eq,hkd] at hx;exact absurd ⟨by omega,hx.1.2⟩ hep
      rw [bz1_no hpas,hP.nep hep,if_neg c2]
  unfold bz3;by_cases hu0:u=0
  ·rw [if_pos hu0,h2,hu0];rfl
  ·rw [if_neg hu0];unfold upd
   have i0:i=0:=by
    by_cases k:i=0
    ·exact k
    ·exact absurd (u0 (decide_eq_false k)) hu0
   have hz:=zz (by cases wh<;>decide) (show ixc (z f)=((bg wh:Nat):Int) by rw [hc,i0];rfl)
   by_cases c2:n=t
   ·rw [if_pos c2,if_pos c2,hz];refine prom_is wh u ?_;rcases u1 with e|e|e|e|e
    ·exact absurd e hu0
    ·rw [e];simp
    ·rw [e];simp
    ·rw [e];simp
    ·rw [e];simp
   ·rw [if_neg c2,h2,if_neg c2,if_neg c2]
 ·subst e3 e4;have hkg:=zp hi hc
  have hmem:t∈cgR z wh fc f++cgM z wh fc f:=by
   unfold tgL at hm;rw [List.mem_append,List.mem_filter,hkg.1,hkg.2] at hm;rcases hm with ⟨hm,_⟩|hm
   ·rw [qqy hf hi hc ht] at hm;have:=(qxl hm).1;rw [zw _ 5 (by omega) _ 1] at this;have:=qjx f hf t ht this;have:=cas_two ci hK'.hi;omega
   ·rw [decide_eq_false (show ¬ (5:Nat)=0 by omega),if_neg (by simp),decide_eq_true rfl,if_pos rfl] at hm;exact hm
  obtain ⟨cj,hj,j1,j2,j3,j4,j5,j6⟩:=qxi.1 ((cg_iff hC hf hc).1 hmem);obtain ⟨hp,hk⟩:=zp hi hc
  have hkc:kcB z wh fc f t 0=true:=by
   unfold kcB;rw [hkd,j6,decide_eq_true (show (0:Int)<=(cj:Int) by omega)];rfl
  have hpas:pasB z b f t=false:=by
   unfold pasB;rw [hkd];rfl
  have hrook:manL 3 wh=z (hR cj):=by
   have hcc:cj=0\/cj=1\/cj=2\/cj=3:=by omega
   subst j1;rcases hcc with rfl|rfl|rfl|rfl
   ·rw [show z (hR 0)=82 from (hC.c0 j2).2];rfl
   ·rw [show z (hR 1)=82 from (hC.c1 j2).2];rfl
   ·rw [show z (hR 2)=114 from (hC.c2 j2).2];rfl
   ·rw [show z (hR 3)=114 from (hC.c3 j2).2];rfl
  obtain ⟨f1,f2,f3,f4,f5,f6,f7,f8,f9,f10,f11,f12,f13,f14,f15,f16,f17⟩:=za cj hj
  have hmid:(f+t)/2=rN cj:=by
   have hcc:cj=0\/cj=1\/cj=2\/cj=3:=by omega
   rw [j3,j4];rcases hcc with rfl|rfl|rfl|rfl<;>rfl
  have hhr:(homeR cj).toNat=hR cj:=by rw [(home_hK cj hj).2.2];rfl
  funext n;have hat:=qvb (z:=z) (b:=b) hj (by rw [<-j3,hp];rfl) (by rw [<-j3,hk];rfl) n;rw [<-j3,<-j4] at hat;rw [hat];unfold bz4;rw [hkc,if_pos rfl,j6,Int.toNat_natCast,hhr,hmid,hrook];unfold bz3 bz2;rw [if_pos rfl,bz1_no hpas];unfold upd;by_cases c1:n=hR cj
  ·rw [if_neg (fun e=>f17 (e.symm.trans c1)),if_pos c1,if_pos c1]
  ·rw [if_neg c1,if_neg c1];by_cases c2:n=rN cj
   ·rw [if_pos c2,if_pos c2]
   ·rw [if_neg c2,if_neg c2];by_cases c3:n=t
    ·rw [if_pos c3,if_pos c3,if_neg (fun e=>f12 (by rw [<-j4,<-j3];exact c3.symm.trans e))]
    ·rw [if_neg c3,if_neg c3]
theorem pl_ok {z:Nat->UInt8} {wh:Bool} {fc:Nat->Bool} {b:Int} (hC:Can z wh fc b) {i f t:Nat} {u:UInt8} (hi:i<6) (hf:f<64) (ht:t<64) (hc:ixc (z f)=((bg wh+i:Nat):Int)) (hm:t∈tgL z wh fc b f) (hu:(f,t,u)∈turnsB (decide (i=0)) f t):layOk (plZ z b (f,t,u))=true:=by
 rcases classify hC hi hf ht hc hm hu with ⟨hP,kg⟩|⟨ci,hK',e1,e2,e3,e4⟩
 ·exact okZ hP (pl_at hP kg) hC.ok
 ·subst e1 e2 e3 e4;obtain ⟨hp,hk⟩:=zp hi hc;obtain ⟨f1,f2,f3,f4,_⟩:=za ci hK'.hi;refine qqj fun n hn=>?_
  rw [qvb hK'.hi (by rw [hp];rfl) (by rw [hk];rfl)];split
  ·rfl
  ·split
   ·exact ji hC.ok f3
   ·split
    ·exact ji hC.ok f1
    ·split
     ·rfl
     ·exact ji hC.ok hn
def legR (z:Nat->UInt8) (wh:Bool) (fc:Nat->Bool) (b:Int) (f t:Nat) (u:UInt8):Bool:=goesR z wh fc b f t u&&!(attR (bz4 z wh fc b f t u) (kingR (bz4 z wh fc b f t u) wh) (!wh))
theorem goes_king {z:Nat->UInt8} {wh:Bool} {fc:Nat->Bool} {b:Int} (hC:Can z wh fc b) (h0:-1<=b) (h1:b<=63) {f t:Nat} {u:UInt8} (hf:f<64) (ht:t<64) (hu:u∈U5) (hg:goesR z wh fc b f t u=true):∃ y:Nat,y<64/\kingR (bz4 z wh fc b f t u) wh=(y:Int):=by
 obtain ⟨i,hi,hc,hm,htu⟩:=(qv2 hC hf ht hu).1 hg;rw [bz4_pl hC hi hf ht hc hm htu];exact (jr hC h0 h1 hi hf ht hc hm htu).1
theorem qjv {z:Nat->UInt8} {wh:Bool} {fc:Nat->Bool} {b:Int} (hC:Can z wh fc b) (h0:-1<=b) (h1:b<=63) {f t:Nat} {u:UInt8} (hf:f<64) (ht:t<64) (hu:u∈U5):legR z wh fc b f t u=true↔(f,t,u)∈letL z wh fc b:=by
 unfold legR letL;rw [Bool.and_eq_true,qv2 hC hf ht hu,List.mem_filter,qqm hC]
 have key:∀ i,i<6->ixc (z f)=((bg wh+i:Nat):Int)->t∈tgL z wh fc b f->(f,t,u)∈turnsB (decide (i=0)) f t->(!(attR (bz4 z wh fc b f t u) (kingR (bz4 z wh fc b f t u) wh) (!wh)))=letP z wh b (f,t,u):=fun i hi hc hm htu=>by
  obtain ⟨y,hy,e⟩:=(jr hC h0 h1 hi hf ht hc hm htu).1;unfold letP;rw [bz4_pl hC hi hf ht hc hm htu,e,Int.toNat_natCast,jb (pl_ok hC hi hf ht hc hm htu) hy]
 constructor
 ·rintro ⟨⟨i,hi,hc,hm,htu⟩,h⟩;rw [key i hi hc hm htu] at h;exact ⟨⟨i,f,t,u,rfl,hi,hf,ht,hc,hm,htu⟩,h⟩
 ·rintro ⟨⟨i,f',t',u',e,hi,_,_,hc,hm,htu⟩,h⟩;have e1:f=f':=by injection e
  have e2:t=t':=by injection e with _ e;injection e
  have e3:u=u':=by injection e with _ e;injection e
  subst e1 e2 e3;exact ⟨⟨i,hi,hc,hm,htu⟩,by rw [key i hi hc hm htu];exact h⟩
def sqF (i:Nat):Nat:=i%8*8+i/8
def moR (z:Nat->UInt8) (f t:Nat):Nat:=if kdc (z f)=0/\lastR t=true then 5 else 1
def upT5 (z:Nat->UInt8) (wh:Bool) (fc:Nat->Bool) (b:Int) (f t n:Nat):List Mv:=((U5.take n).filter fun u=>legR z wh fc b f t u).map fun u=>(f,t,u)
def upK (z:Nat->UInt8) (wh:Bool) (fc:Nat->Bool) (b:Int) (f n:Nat):List Mv:=(List.range n).flatMap fun k=>upT5 z wh fc b f (sqF k) (moR z f (sqF k))
def upI (z:Nat->UInt8) (wh:Bool) (fc:Nat->Bool) (b:Int) (n:Nat):List Mv:=(List.range n).flatMap fun i=>if coc (z (sqF i))=sdb wh then upK z wh fc b (sqF i) 64 else []
def allR (z:Nat->UInt8) (wh:Bool) (fc:Nat->Bool) (b:Int):List Mv:=upI z wh fc b 64
theorem qzk:∀ i,i<64->sqF i<64:=by decide +kernel
theorem sqF_onto:∀ f,f<64->sqF (sqF f)=f:=by decide +kernel
theorem name_rise:∀ i,i<64->∀ j,j<64->i<j->nameS (sqF i)<nameS (sqF j):=by decide +kernel
theorem app_lt {a b c d:List UInt8} (hl:a.length=b.length) (h:a<b):a++c<b++d:=by
 induction a generalizing b with
 | nil =>
  cases b with
  | nil=>exact absurd h (List.lt_irrefl _)
  | cons _ _=>cases hl
 | cons x r ih =>
  cases b with
  | nil=>cases hl
  | cons y s =>
   rw [List.cons_append,List.cons_append,List.cons_lt_cons_iff];rw [List.cons_lt_cons_iff] at h;rcases h with h|⟨h1,h2⟩
   ·exact .inl h
   ·exact .inr ⟨h1,ih (by simpa using hl) h2⟩
theorem app_lt2 {a c d:List UInt8} (h:c<d):a++c<a++d:=by
 induction a with
 | nil=>exact h
 | cons x r ih=>rw [List.cons_append,List.cons_append,List.cons_lt_cons_iff];exact .inr ⟨rfl,ih⟩
theorem mem_all {z:Nat->UInt8} {wh:Bool} {fc:Nat->Bool} {b:Int} (hC:Can z wh fc b) (h0:-1<=b) (h1:b<=63) (x:Mv):x∈allR z wh fc b↔x∈letL z wh fc b:=by
 unfold allR upI upK upT5;simp only [List.mem_flatMap,List.mem_range];constructor
 ·rintro ⟨i,hi,hx⟩;split at hx
  ·obtain ⟨k,hk,hx⟩:=List.mem_flatMap.1 hx;obtain ⟨u,hu,rfl⟩:=List.mem_map.1 hx;obtain ⟨hu,hl⟩:=List.mem_filter.1 hu;exact (qjv hC h0 h1 (qzk i hi) (qzk k (List.mem_range.1 hk)) (List.mem_of_mem_take hu)).1 hl
  ·cases hx
 ·intro hx;obtain ⟨i,f,t,u,rfl,hi,hf,ht,hc,hm,htu⟩:=(qqm hC).1 (List.mem_filter.1 hx).1;obtain ⟨u',e,u0,u1⟩:=qx1 htu;have:u=u':=by injection e with _ e;injection e
  subst this
  have hu5:u∈U5:=by
   unfold U5;rcases u1 with e|e|e|e|e<;>(rw [e];simp)
  refine ⟨sqF f,qzk f hf,?_⟩;rw [sqF_onto f hf,if_pos (xt hi hc)];refine List.mem_flatMap.2 ⟨sqF t,List.mem_range.2 (qzk t ht),?_⟩;rw [sqF_onto t ht];refine List.mem_map.2 ⟨u,List.mem_filter.2 ⟨?_,(qjv hC h0 h1 hf ht hu5).2 hx⟩,rfl⟩;have htt:=(turns_iff ht hu5).1 htu;rw [beq_iff_eq] at htt;unfold moR;rw [kd_ix hi hc];by_cases k:(i:Int)=0/\lastR t=true
  ·rw [if_pos k];exact hu5
  ·rw [if_neg k]
   have:decide (u≠0)=false:=by
    rw [htt];cases hl:lastR t with
    | false=>simp
    | true =>
     rw [decide_eq_false (fun e=>k ⟨by omega,hl⟩)];rfl
   have:u=0:=by simpa using this
   rw [this];simp [U5]
theorem all_rise (z:Nat->UInt8) (wh:Bool) (fc:Nat->Bool) (b:Int):(allR z wh fc b).Pairwise fun x y=>txt x<txt y:=by
 have kt:∀ f t n,∀ x∈upT5 z wh fc b f t n,x.1=f/\x.2.1=t:=fun f t n x hx=>by
  obtain ⟨u,_,rfl⟩:=List.mem_map.1 hx;exact ⟨rfl,rfl⟩
 have kf:∀ f n,∀ x∈upK z wh fc b f n,x.1=f:=fun f n x hx=>by
  obtain ⟨k,_,hx⟩:=List.mem_flatMap.1 hx;exact (kt _ _ _ x hx).1
 unfold allR upI;rw [List.pairwise_flatMap];constructor
 ·intro i _;split
  ·unfold upK;rw [List.pairwise_flatMap];constructor
   ·intro k _;unfold upT5;rw [List.pairwise_map];refine List.Pairwise.filter _ (List.Pairwise.sublist (List.take_sublist _ _) ?_);unfold U5;unfold txt mvS;simp only;have e:∀ i,i<5->∀ j,j<5->i<j->nameS (sqF i)=nameS (sqF i):=fun _ _ _ _ _=>rfl
    clear e;refine List.Pairwise.imp (R:=fun u v:UInt8=>(if u=0 then [] else [u])<(if v=0 then ([]:List UInt8) else [v])) (fun {a c} h=>app_lt2 h) ?_;decide
   ·refine (List.pairwise_lt_range (n:=64)).imp_of_mem fun {a c} ha hc hlt x hx y hy=>?_
    obtain ⟨x1,x2⟩:=kt _ _ _ x hx;obtain ⟨y1,y2⟩:=kt _ _ _ y hy;unfold txt mvS;rw [x1,x2,y1,y2,List.append_assoc,List.append_assoc];exact app_lt2 (app_lt rfl (name_rise a (List.mem_range.1 ha) c (List.mem_range.1 hc) hlt))
  ·exact List.Pairwise.nil
 ·refine (List.pairwise_lt_range (n:=64)).imp_of_mem fun {a c} ha hc hlt x hx y hy=>?_
  split at hx
  ·split at hy
   ·have x1:=kf _ _ x hx;have y1:=kf _ _ y hy;unfold txt mvS;rw [x1,y1,List.append_assoc,List.append_assoc];exact app_lt rfl (name_rise a (List.mem_range.1 ha) c (List.mem_range.1 hc) hlt)
   ·cases hy
  ·cases hx
theorem all_same {z:Nat->UInt8} {wh:Bool} {fc:Nat->Bool} {b:Int} (hC:Can z wh fc b) (h0:-1<=b) (h1:b<=63):allR z wh fc b=sortM (movS z wh fc b):=by
 obtain ⟨t1,t2⟩:=twin hC h0 h1;refine zj (fun a c h=>List.lt_asymm h) _ _ (all_rise z wh fc b) t2 fun x=>?_
 rw [mem_all hC h0 h1,zc hC h0 h1,(xp _).mem_iff]
end Go.Proofs.YtnfakamfmkhlbaaGreatDoor.C
namespace Go.Proofs.YtnfakamfmkhlbaaGreatDoor.C
open Go.ChangeShapes Go.WideShapes Go.ChangeAt Go.RowKit
open Go.Proofs.YtnfakamfmkhlbaaGreatDoor.P
attribute [local go_sem] qd qi
structure Lg (w w4:World) (PA:Array Value) (B:Nat) (Q:Array Value) (W:World):Prop where
 pa:RowAt w.heap.size PA W
 q:RowAt B Q W
 gr:Gr w4 W
theorem Lg.next {w w4 W W':World} {PA Q:Array Value} {B:Nat} (h:Lg w w4 PA B Q W) (g:Gr W W'):Lg w w4 PA B Q W':=⟨h.pa.gr g,h.q.gr g,Gr.trans h.gr g⟩
theorem legalR_any {z:Nat->UInt8} {wh:Bool} {fc:Nat->Bool} {b h g:Int} {PA:Array Value} (r:Row z wh fc b h g PA) (hC:Can z wh fc b) (hb0:-1<=b) (hb1:b<=63) (h0:0<=h) (h1:h<=65535) (g0:0<=g) (g1:g<=65535) (f t:Nat) (hf:f<64) (ht:t<64) (u:UInt8) (hu:u∈U5) (w:World) :
  Calls Tryz.prog 157 #[.agg PA,.agg #[.int .i64 (f:Int),.int .i64 (t:Int),.int .u8 (u.toNat:Int)]] w fun e w'=>e=.returned (.bool (legR z wh fc b f t u))/\Gr w w':=by
 have hz:=r.size;have hP0:=Pm.start w PA f t u;have htu:=hide (fun W=>qqo r W);have hgo:=hide (fun W=>goesR_any r f t hf ht u W);have hbe:=hide (fun W=>qj6 r f t hf ht u hu h0 h1 g0 g1 W);have hrow:=hide (rowOf hP0.pa);obtain ⟨m0,m1,m2⟩:=hP0.cells;have hki:=hide (goes_king hC hb0 hb1 hf ht hu);have hV:Hid (legR z wh fc b f t u=(goesR z wh fc b f t u&&!(attR (bz4 z wh fc b f t u) (kingR (bz4 z wh fc b f t u) wh) (!wh)))):=hide rfl;generalize legR z wh fc b f t u=V at hV ⊢;clear r hC;generalize goesR z wh fc b f t u=G at hgo hki hV;go_enter Tryz.func157,Tryz.ntmps157
 go_upto_region 2 with (first
  | (go_at_call 231;refine (qa hgo _).mono ?_;rintro e w1 ⟨rfl,hg1⟩)
  | (refine ql (by rfl) _ rfl w.heap.size rfl hz (qa hrow) ?_))
 have hP1:=hP0.next hg1;clear hP0 hg1 hrow hgo m0 m1 m2;obtain ⟨m0,m1,m2⟩:=hP1.cells;have hrow:=hide (rowOf hP1.pa);cases G
 ·have hgr:=hide hP1.gr;go_wp2_with fail;go_ret;exact ⟨by rw [qa hV];rfl,qa hgr⟩
 ·go_upto_region 5 with (first
   | (go_at_call 121;refine (qa hbe _).mono ?_;rintro e w2 ⟨Q,rfl,hQ,hg2⟩;have hqz:=hQ.size;have hq1:=qz hQ)
   | (refine wpList_store_row rfl 25 _ _ rfl w2.heap.size Q rfl rfl 25 Tryz.zeroCells25 (heap_alloc_new _ _) (by rw [hqz];exact infoP) (by rw [hqz];rfl) hq1 ?_)
   | (refine ql (by rfl) _ rfl w.heap.size rfl hz (qa hrow) ?_))
  show Code.wp _ _ _ _ ((w2.alloc (.cells Tryz.zeroCells25 25)).setRow w2.heap.size Q);have hg3:Gr w2 ((w2.alloc (.cells Tryz.zeroCells25 25)).setRow w2.heap.size Q):=((Gr.refl w2).alloc _ _).setRow _ (Nat.le_refl _) _;have hq3:((w2.alloc (.cells Tryz.zeroCells25 25)).setRow w2.heap.size Q).heap[w2.heap.size]?=some (.cells Q 25):=setRow_heap _ _ _ _ _ _ (heap_alloc_new w2 _);have hP3:=(hP1.next hg2).next hg3;generalize ((w2.alloc (.cells Tryz.zeroCells25 25)).setRow w2.heap.size Q)=w4 at hg3 hq3 hP3 ⊢;generalize w2.heap.size=B at hq3 ⊢;obtain ⟨y,hy64,hy⟩:=qa hki trivial;obtain ⟨qs,qA⟩:=qjd hQ
  have hKi:Hid (∀ W:World,Calls Tryz.prog 92 #[.agg (Q.toList.take 64).toArray,.int .i64 (sdb wh)] W fun e w'=>e=.returned (.int .i64 (y:Int))/\Gr W w'):=hide fun W=>by
   rw [<-hy];exact kingR_any _ _ qA wh W
  obtain ⟨av,hav⟩:∃ v,Hid (attR (bz4 z wh fc b f t u) (y:Int) (!wh)=v):=⟨_,hide rfl⟩
  have hAt:Hid (∀ W:World,Calls Tryz.prog 91 #[.agg (Q.toList.take 64).toArray,.int .i64 (y:Int),.int .i64 (sdb (!wh))] W fun e w'=>e=.returned (.bool av)/\Gr W w'):=hide fun W=>by
   rw [<-qa hav];exact qqb _ _ qs qA (y:Int) (by omega) (by omega) (!wh) W
  have hend:Hid (V=!av):=hide (by rw [qa hV,hy,qa hav];rfl);have hng:Hid (IntKind.i64.wrap (-(sdb wh))=sdb (!wh)):=hide (by cases wh<;>decide)
  have hgr:=hide hP3.gr;have hHeld0:Lg w w4 PA B Q w4.drew:=⟨(rowOf hP3.pa).gr (Gr.refl _).drew,(rowOf hq3).gr (Gr.refl _).drew,(Gr.refl _).drew⟩;clear hP3 hP1 hg2 hg3 hq3 hbe hki hV hrow m0 m1 m2 qs qA hQ hq1 hav hy;refine wp_region_held_drew (S:=Lg w w4 PA B Q) (by kernel_rfl) hHeld0 (fun hHeld=>?_);clear hHeld0;refine C.tq 0 (.pointer (some ⟨B,0,none⟩)) hHeld ?_;refine C.ty 1 (.agg (Q.toList.take 64).toArray) rfl (qvh hqz (by rfl) _ rfl B rfl (fun _ h=>h.q)) hHeld ?_;refine C.tq 2 (.pointer (some ⟨B,0,none⟩)) hHeld ?_;refine C.ty 3 (.agg (Q.toList.take 64).toArray) rfl (qvh hqz (by rfl) _ rfl B rfl (fun _ h=>h.q)) hHeld ?_;refine C.ty 4 (.agg PA) rfl (qqz hz (by rfl) _ rfl w.heap.size rfl (fun _ h=>h.pa)) hHeld ?_;refine C.ty 7 (.agg PA) rfl (qqz hz (by rfl) _ rfl w.heap.size rfl (fun _ h=>h.pa)) hHeld ?_;refine C.rd 5 fun K hK=>?_
  go_simp;refine (qa htu _).mono ?_;rintro e wa1 ⟨rfl,hga1⟩;refine hK.out _ _ (hHeld.next hga1) (fun hHeld=>?_);clear hK K hga1
  try simp only [C.py]
  refine C.rd 6 fun K hK=>?_
  go_simp;refine (qa hKi _).mono ?_;rintro e wa2 ⟨rfl,hga2⟩;refine hK.out _ _ (hHeld.next hga2) (fun hHeld=>?_);clear hK K hga2
  try simp only [C.py]
  refine C.rd 8 fun K hK=>?_
  go_simp;refine (qa htu _).mono ?_;rintro e wa3 ⟨rfl,hga3⟩;refine hK.out _ _ (hHeld.next hga3) (fun hHeld=>?_);clear hK K hga3
  try simp only [C.py]
  refine C.ty 9 (.int .i64 (sdb (!wh))) rfl (Or.inl ⟨by rfl,fun w _=>(by go_simp;exact qa hng)⟩) hHeld ?_;refine C.rd 10 fun K hK=>?_
  go_simp;refine (qa hAt _).mono ?_;rintro e wa4 ⟨rfl,hga4⟩;refine hK.out _ _ (hHeld.next hga4) (fun hHeld=>?_);clear hK K hga4
  try simp only [C.py]
  refine C.rd 11 fun K hK=>?_
  go_simp;refine hK.out _ _ hHeld (fun hHeld=>?_);clear hK K
  try simp only [C.py]
  refine wpAnyH_done (by kernel_rfl) ?_ _;have hgF:Hid (Gr w _):=hide (Gr.trans (qa hgr) hHeld.gr);clear hHeld;go_wp2_with fail;go_ret;exact ⟨by rw [qa hend];rfl,qa hgF⟩
end Go.Proofs.YtnfakamfmkhlbaaGreatDoor.C
namespace Go.Proofs.YtnfakamfmkhlbaaGreatDoor.C
open Go.ChangeShapes Go.WideShapes Go.ChangeAt Go.RowKit Go.Shelf
open Go.Proofs.YtnfakamfmkhlbaaGreatDoor.P
attribute [local go_sem] qd qi Oper.semAt_some
theorem infoMr:(Tryz.prog.info? 171).map (fun i=>(i.zero,i.size,i.bytes))=some (some (.agg #[.int .i64 0,.int .i64 0,.int .u8 0]),3,24):=by kernel_rfl
def Mrs (base:Nat) (v:Value) (xs:List Mv) (w:World):Prop:=w.ownsRow base 171 3 v xs.length (rowM xs)
theorem mrs_block {base:Nat} {v:Value} {l:List Mv} {w:World} (h:Mrs base v l w):∀ k,v.ownBlock=some k->base<=k:=by
 intro k hk;rcases h.2 with ⟨rfl,_⟩|⟨g,cap,cur,rfl,hb,_⟩
 ·simp [Value.ownBlock] at hk
 ·obtain rfl:g=k:=by simpa [Value.ownBlock] using hk
  exact hb
theorem u5_at {q:Nat} (hq:q<5):U5.getD q 0∈U5/\U5.take (q+1)=U5.take q++[U5.getD q 0]:=by
 have:q=0\/q=1\/q=2\/q=3\/q=4:=by omega
 rcases this with rfl|rfl|rfl|rfl|rfl<;>decide
theorem upT5_len (z:Nat->UInt8) (wh:Bool) (fc:Nat->Bool) (b:Int) (f t n:Nat):(upT5 z wh fc b f t n).length<=5:=by
 unfold upT5;rw [List.length_map];refine Nat.le_trans (List.length_filter_le _ _) ?_;rw [List.length_take];exact Nat.le_trans (Nat.min_le_right _ _) (Nat.le_refl 5)
theorem flat_le {α β:Type} (F:α->List β) (c:Nat) (h:∀ a,(F a).length<=c):∀ l:List α,(l.flatMap F).length<=l.length*c
 | []=>by simp
 | a :: r=>by
   rw [List.flatMap_cons,List.length_append,List.length_cons,Nat.add_mul];have:=flat_le F c h r;have:=h a;omega
theorem upK_len (z:Nat->UInt8) (wh:Bool) (fc:Nat->Bool) (b:Int) (f n:Nat):(upK z wh fc b f n).length<=n*5:=by
 have:=flat_le (fun k=>upT5 z wh fc b f (sqF k) (moR z f (sqF k))) 5 (fun k=>upT5_len z wh fc b f _ _) (List.range n);rw [List.length_range] at this;exact this
theorem upI_len (z:Nat->UInt8) (wh:Bool) (fc:Nat->Bool) (b:Int) (n:Nat):(upI z wh fc b n).length<=n*320:=by
 have:=flat_le (fun i=>if coc (z (sqF i))=sdb wh then upK z wh fc b (sqF i) 64 else []) 320 (fun i=>by
  split
  ·exact Nat.le_trans (upK_len z wh fc b _ 64) (by omega)
  ·simp) (List.range n)
 rw [List.length_range] at this;exact this
theorem lastR_is (t:Nat):lastR t=(((t:Int)/8==0)||((t:Int)/8==7)):=by
 unfold lastR
 have e0:decide (t/8=0)=((t:Int)/8==0):=by
  by_cases q:t/8=0
  ·rw [decide_eq_true q];symm;rw [beq_iff_eq];omega
  ·rw [decide_eq_false q];symm;rw [beq_eq_false_iff_ne];omega
 have e7:decide (t/8=7)=((t:Int)/8==7):=by
  by_cases q:t/8=7
  ·rw [decide_eq_true q];symm;rw [beq_iff_eq];omega
  ·rw [decide_eq_false q];symm;rw [beq_eq_false_iff_ne];omega
 rw [e0,e7]
theorem qzs {β:Type} (F:Nat->List β) (n:Nat):(List.range (n+1)).flatMap F=(List.range n).flatMap F++F n:=by
 rw [List.range_succ,List.flatMap_append];simp
theorem upT5_succ (z:Nat->UInt8) (wh:Bool) (fc:Nat->Bool) (b:Int) (f t q:Nat) (hq:q<5):upT5 z wh fc b f t (q+1)=upT5 z wh fc b f t q++(if legR z wh fc b f t (U5.getD q 0) then [(f,t,U5.getD q 0)] else []):=by
 unfold upT5;rw [(u5_at hq).2,List.filter_append,List.map_append];congr 1;by_cases h:legR z wh fc b f t (U5.getD q 0)=true
 ·rw [List.filter_cons_of_pos h,if_pos h];rfl
 ·rw [List.filter_cons_of_neg h,if_neg h];rfl
theorem allR_any {z:Nat->UInt8} {wh:Bool} {fc:Nat->Bool} {b h g:Int} {PA:Array Value} (r:Row z wh fc b h g PA) (hC:Can z wh fc b) (hb0:-1<=b) (hb1:b<=63) (h0:0<=h) (h1:h<=65535) (g0:0<=g) (g1:g<=65535) (w:World) :
  Calls Tryz.prog 95 #[.agg PA] w fun e w'=>∃ v,e=.returned v/\Mrs w.heap.size v (allR z wh fc b) w'/\Gr w w':=by
 obtain ⟨i0,hi,hz0,hz1,hz2⟩:=info_parts infoMr;have hi':=hide hi;clear hi;have hz:=r.size;have htu:=hide (fun W=>qqo r W);have hsq:=hide r.sq;have hco:=hide (fun (n:Nat) W=>jt (z n) W);have hkd:=hide (fun (n:Nat) W=>qqr (z n) W);have hle:=hide (fun (f t:Nat) (hf:f<64) (ht:t<64) (u:UInt8) (hu:u∈U5) W=>legalR_any r hC hb0 hb1 h0 h1 g0 g1 f t hf ht u hu W);have hbw:Hid ((w.alloc (.cells PA 25)).heap[w.heap.size]?=some (.cells PA 25)/\w.heap.size<(w.alloc (.cells PA 25)).heap.size):=hide ⟨heap_alloc_new _ _,by rw [World.size_alloc];omega⟩;have hg0:Hid (Gr w (w.alloc (.cells PA 25))):=hide ((Gr.refl w).alloc _ _);clear r hC;go_enter Tryz.func95,Tryz.ntmps95;go_upto_region 2 with fail;generalize hW0:w.alloc (.cells PA 25)=w0 at hbw hg0 ⊢;have hpa:Hid (∀ W,Gr w0 W->W.heap[w.heap.size]?=some (.cells PA 25)):=hide (fun W g=>(Below.block g _ (qa hbw).2).trans (qa hbw).1);clear hW0 hbw;go_wp2_with fail;go_loopg [3,4] 64 (fun gm v i wr=>∃ d:Nat,d+gm=64/\i=.int .i64 (d:Int)/\Mrs w0.heap.size v (upI z wh fc b d) wr/\Gr w0 wr)
 case atStart=>exact ⟨0,by omega,rfl,⟨rfl,.inl ⟨rfl,rfl⟩⟩,Gr.refl _⟩
 case round =>
  obtain ⟨d,d1,rfl,hst,hgr⟩:=hrel;have hst':=hide hst;have hgr':=hide hgr;clear hst hgr;obtain ⟨go1,hgo1⟩:∃ x,x=gk:=⟨_,rfl⟩;subst hgo1;by_cases hd:d<64
  ·obtain ⟨f,hfd⟩:∃ f,Hid (f=sqF d):=⟨_,hide rfl⟩;have hf:f<64:=by rw [qa hfd];exact qzk d hd
   have e1:IntKind.i64.wrap ((d:Int)%8*8)=(d:Int)%8*8:=by rw [IntKind.wrap_i64];omega
   have e2:IntKind.i64.wrap ((d:Int)%8*8+(d:Int)/8)=(f:Int):=by
    have:=qa hfd;unfold sqF at this;rw [IntKind.wrap_i64];omega
   have f0:(0:Int)<=(f:Int):=by omega
   have f1:(f:Int)<64:=by omega
   obtain ⟨CB,hCB⟩:∃ x,Hid ((coc (z f) != sdb wh)=x):=⟨_,hide rfl⟩;have hcb:(coc (z f) != sdb wh)=CB:=qa hCB;go_upto_region 6 with fail;have hHeld0:RowAt w.heap.size PA wr.drew/\Gr w0 wr.drew:=⟨(rowOf (qa hpa _ (qa hgr'))).gr (Gr.refl _).drew,(qa hgr').drew⟩;refine wp_region_held_drew (S:=fun W=>RowAt w.heap.size PA W/\Gr wr W) (by kernel_rfl) ⟨hHeld0.1,(Gr.refl _).drew⟩ (fun hHeld=>?_);clear hHeld0;refine C.ty 0 (.int .i64 (f:Int)) rfl (Or.inl ⟨by rfl,fun w hw=>(by have cw:=hw.1.at' (qa hsq f hf);go_simp)⟩) hHeld ?_;refine C.ty 1 (.pointer (some ⟨w.heap.size,0,none⟩)) rfl (Or.inl ⟨by rfl,fun w hw=>(by have cw:=hw.1.at' (qa hsq f hf);go_simp)⟩) hHeld ?_;refine C.ty 2 (.pointer (some ⟨w.heap.size,f,none⟩)) rfl (Or.inl ⟨by rfl,fun w hw=>(by have cw:=hw.1.at' (qa hsq f hf);go_simp)⟩) hHeld ?_;refine C.ty 3 (.int .u8 ((z f).toNat:Int)) rfl (Or.inl ⟨by rfl,fun w hw=>(by have cw:=hw.1.at' (qa hsq f hf);go_simp)⟩) hHeld ?_;refine C.ty 5 (.agg PA) rfl (qqz hz (by rfl) _ rfl w.heap.size rfl (fun _ h=>h.1)) hHeld ?_;refine C.rd 4 fun K hK=>?_
   go_simp;refine (qa hco f _).mono ?_;rintro e wa ⟨rfl,hww⟩;subst hww;refine hK.out _ _ hHeld (fun hHeld=>?_);clear hK K
   try simp only [C.py]
   refine C.rd 6 fun K hK=>?_
   go_simp;refine (qa htu _).mono ?_;rintro e wb ⟨rfl,hgb⟩;refine hK.out _ _ ⟨hHeld.1.gr hgb,Gr.trans hHeld.2 hgb⟩ (fun hHeld=>?_);clear hK K hgb
   try simp only [C.py]
   refine C.tq 7 (.bool CB) hHeld ?_;refine wpAnyH_done (by kernel_rfl) ?_ _;have hg6:=hide (Gr.trans (qa hgr') hHeld.2);have hst6:=hide (qjq (qa hst') hHeld.2);clear hHeld hst' hgr' hcb;have hup:Hid (upI z wh fc b (d+1)=upI z wh fc b d++(if coc (z f)=sdb wh then upK z wh fc b f 64 else [])):=hide (by unfold upI;rw [qzs,qa hfd]);clear hfd e1 e2;cases CB
   ·have hcm:coc (z f)=sdb wh:=by simpa using qa hCB
    have hup2:Hid (upI z wh fc b (d+1)=upI z wh fc b d++upK z wh fc b f 64):=hide (by rw [qa hup,if_pos hcm]);clear hup hcm hCB;obtain ⟨X,hX⟩:∃ x,Hid (upI z wh fc b d=x):=⟨_,hide rfl⟩;have hXl:X.length<=d*320:=by rw [<-qa hX];exact upI_len z wh fc b d
    rw [qa hX] at hst6 hup2;clear hX;go_wp2_with fail;go_loopg [3,6] 64 (fun gm v kk wr=>∃ e:Nat,e+gm=64/\kk=.int .i64 (e:Int)/\Mrs w0.heap.size v (X++upK z wh fc b f e) wr/\Gr w0 wr)
    case atStart=>exact ⟨0,by omega,rfl,by rw [show upK z wh fc b f 0=[] from rfl,List.append_nil];exact qa hst6,qa hg6⟩
    case round =>
     clear hst6 hg6;obtain ⟨e,k1,rfl,hst,hgr⟩:=hrel;have hst':=hide hst;have hgr':=hide hgr;clear hst hgr;obtain ⟨go2,hgo2⟩:∃ x,x=gk:=⟨_,rfl⟩;subst hgo2;by_cases he:e<64
     ·obtain ⟨t,htd⟩:∃ t,Hid (t=sqF e):=⟨_,hide rfl⟩;have ht:t<64:=by rw [qa htd];exact qzk e he
      have e1:IntKind.i64.wrap ((e:Int)%8*8)=(e:Int)%8*8:=by rw [IntKind.wrap_i64];omega
      have e2:IntKind.i64.wrap ((e:Int)%8*8+(e:Int)/8)=(t:Int):=by
       have:=qa htd;unfold sqF at this;rw [IntKind.wrap_i64];omega
      obtain ⟨MO,hMO⟩:∃ x,Hid (moR z f t=x):=⟨_,hide rfl⟩;have hMO5:MO<=5:=by rw [<-qa hMO];unfold moR;split<;>omega
      have hup3:Hid (upK z wh fc b f (e+1)=upK z wh fc b f e++upT5 z wh fc b f t MO):=hide (by unfold upK;rw [qzs,<-qa hMO,qa htd]);obtain ⟨Y,hY⟩:∃ x,Hid (upK z wh fc b f e=x):=⟨_,hide rfl⟩;have hYl:Y.length<=e*5:=by rw [<-qa hY];exact upK_len z wh fc b f e
      rw [qa hY] at hst' hup3;clear hY htd;obtain ⟨MB,hMB⟩:∃ x,Hid ((decide (kdc (z f)=0)&&lastR t)=x):=⟨_,hide rfl⟩;have cf:wr.cell? ⟨w.heap.size,f,none⟩=some (.int .u8 ((z f).toNat:Int)):=by rw [qm (qa hpa _ (qa hgr'))];exact qa hsq f hf
      obtain ⟨KD,hKD⟩:∃ x,Hid (kdc (z f)=x):=⟨_,hide rfl⟩;have hkf:=hide (qa hkd f);rw [qa hKD] at hkf hMB;have hl0:Hid (lastR t=(((t:Int)/8==0)||((t:Int)/8==7))):=hide (lastR_is t);go_upto_region 12 with fail;clear e1 e2;go_cut [55] from 30 to 73 (fun s55 wx=>s55=.bool MB/\wx=wr)
      case first =>
       obtain ⟨y1,q1⟩:∃ x,((t:Int)/8==0)=x:=⟨_,rfl⟩;obtain ⟨y2,q2⟩:∃ x,((t:Int)/8==7)=x:=⟨_,rfl⟩;rw [q1,q2] at hl0;by_cases k0:KD=0
       ·have hk6:(KD==0)=true:=beq_iff_eq.2 k0;have hx:Hid (MB=(y1||y2)):=hide (by rw [<-qa hMB,decide_eq_true k0,qa hl0,Bool.true_and]);clear k0 hMB hl0 hle hco htu hkd;cases y1
        ·go_wp2_with (go_at_call 86;refine (qa hkf _).mono ?_;rintro e w' ⟨rfl,hww⟩;have hww':=hww.symm;subst hww';clear hww);go_meet
         case rel=>exact ⟨by rw [qa hx];rfl,rfl⟩
        ·go_wp2_with (go_at_call 86;refine (qa hkf _).mono ?_;rintro e w' ⟨rfl,hww⟩;have hww':=hww.symm;subst hww';clear hww);go_meet
         case rel=>exact ⟨by rw [qa hx];rfl,rfl⟩
       ·have hk6:(KD==0)=false:=by rw [beq_eq_false_iff_ne];exact k0
        have hx:Hid (MB=false):=hide (by rw [<-qa hMB,decide_eq_false k0];rfl);clear k0 hMB hl0 hle hco htu hkd;go_wp2_with (go_at_call 86;refine (qa hkf _).mono ?_;rintro e w' ⟨rfl,hww⟩;have hww':=hww.symm;subst hww';clear hww);go_meet
        case rel=>exact ⟨by rw [qa hx],rfl⟩
      case rest =>
       obtain ⟨rfl,hww⟩:=hcut;subst hww;clear cf hkf hl0;go_upto_if 55 with fail;go_cut [8] from 56 to 73 (fun s8 wx=>s8=.int .i64 (MO:Int)/\wx=wc)
       case first =>
        cases MB
        ·have hx:Hid (MO=1):=hide (by
          rw [<-qa hMO];unfold moR;rw [qa hKD,if_neg];rintro ⟨pp1,pp2⟩;have:=qa hMB;rw [decide_eq_true pp1,pp2] at this;cases this)
         go_wp2_with fail;go_meet
         case rel=>exact ⟨by rw [qa hx];rfl,rfl⟩
        ·have hx:Hid (MO=5):=hide (by
          rw [<-qa hMO];unfold moR;rw [qa hKD,if_pos];have:=qa hMB;rw [Bool.and_eq_true,decide_eq_true_eq] at this;exact this)
         go_wp2_with fail;go_meet
         case rel=>exact ⟨by rw [qa hx];rfl,rfl⟩
       case rest =>
        obtain ⟨rfl,hww⟩:=hcut;subst hww;clear hMB hMO hKD;go_wp2_with fail;go_loopg [3,9] MO (fun gm v qq wr=>∃ n:Nat,n+gm=MO/\qq=.int .i64 (n:Int)/\Mrs w0.heap.size v (X++Y++upT5 z wh fc b f t n) wr/\Gr w0 wr)
        case atStart=>exact ⟨0,by omega,rfl,by rw [show upT5 z wh fc b f t 0=[] from rfl,List.append_nil];exact qa hst',qa hgr'⟩
        case round =>
         clear hst' hgr';obtain ⟨n,n1,rfl,hst,hgr⟩:=hrel;have hst':=hide hst;have hgr':=hide hgr;clear hst hgr;by_cases hn:n<MO
         ·obtain ⟨u,hud⟩:∃ u,Hid (u=U5.getD n 0):=⟨_,hide rfl⟩;have hu5:u∈U5:=by rw [qa hud];exact (u5_at (by omega)).1
          obtain ⟨LG,hLG⟩:∃ x,Hid (legR z wh fc b f t u=x):=⟨_,hide rfl⟩;have hup4:Hid (upT5 z wh fc b f t (n+1)=upT5 z wh fc b f t n++(if LG then [(f,t,u)] else [])):=hide (by rw [upT5_succ z wh fc b f t n (by omega),<-qa hLG,qa hud]);have hlg:Hid (∀ W,Calls Tryz.prog 157 #[.agg PA,.agg #[.int .i64 (f:Int),.int .i64 (t:Int),.int .u8 (u.toNat:Int)]] W fun e w'=>e=.returned (.bool LG)/\Gr W w'):=hide (fun W=>by rw [<-qa hLG];exact qa hle f t hf ht u hu5 W)
          have hix:∀ W:World,(Instr.index 9 (.string ⟨#[0,98,110,113,114]⟩) (.int .i64 (n:Int))).run Tryz.prog W=.ok (.int .u8 (u.toNat:Int)) W:=by
           have hn5:n=0\/n=1\/n=2\/n=3\/n=4:=by omega
           have hh:=qa hud;intro W;rcases hn5 with rfl|rfl|rfl|rfl|rfl<;>(rw [hh];rfl)
          have nl:(n:Int)<(MO:Int):=by omega
          have hZl:(upT5 z wh fc b f t n).length<=5:=upT5_len z wh fc b f t n;obtain ⟨Z,hZ⟩:∃ x,Hid (upT5 z wh fc b f t n=x):=⟨_,hide rfl⟩;rw [qa hZ] at hst' hup4 hZl;clear hud hLG hZ;have hga:Hid (Gr wr (wr.alloc (.cells #[.int .i64 (f:Int),.int .i64 (t:Int),.int .u8 (u.toNat:Int)] 171))):=hide ((Gr.refl _).alloc _ _);go_upto_region 18 with fail;show Code.wp _ _ _ _ (wr.alloc (.cells #[.int .i64 (f:Int),.int .i64 (t:Int),.int .u8 (u.toNat:Int)] 171));have hx:=World.alloc_heap_new wr (.cells #[.int .i64 (f:Int),.int .i64 (t:Int),.int .u8 (u.toNat:Int)] 171);generalize (wr.alloc (.cells #[.int .i64 (f:Int),.int .i64 (t:Int),.int .u8 (u.toNat:Int)] 171))=wm at hga hx ⊢;generalize wr.heap.size=Bm at hx ⊢;have y0:wm.cell? ⟨Bm,0,none⟩=some (.int .i64 (f:Int)):=by rw [qm hx];rfl
          have y1:wm.cell? ⟨Bm,1,none⟩=some (.int .i64 (t:Int)):=by rw [qm hx];rfl
          have y2:wm.cell? ⟨Bm,2,none⟩=some (.int .u8 (u.toNat:Int)):=by rw [qm hx];rfl
          have hbl:Bm<wm.heap.size:=World.block_lt_of_cell? _ _ y0;have hga0:=hide (Gr.trans (qa hgr') (qa hga));have hrow:=hide (rowOf (qa hpa _ (qa hga0)));clear hx hix hle hco hkd htu hsq
          go_upto_if 69 with (first
           | (go_at_call 157;refine (qa hlg _).mono ?_;rintro e w2 ⟨rfl,hg2⟩)
           | (refine ql (by rfl) _ rfl w.heap.size rfl hz (qa hrow) ?_))
          have hg3:=Gr.trans (qa hga0) hg2;have hst2:=hide (qjq (qa hst') (Gr.trans (qa hga) hg2));have y0:=(Below.cell hg2 (p:=⟨Bm,0,none⟩) hbl).trans y0;have y1:=(Below.cell hg2 (p:=⟨Bm,1,none⟩) hbl).trans y1;have y2:=(Below.cell hg2 (p:=⟨Bm,2,none⟩) hbl).trans y2;have hs3:=Below.size hg3;have hg3':=hide hg3;clear hg2 hga hga0 hgr' hst' hrow hlg hbl hg3;cases LG
          ·have hst4:Hid (Mrs w0.heap.size u3 (X++Y++upT5 z wh fc b f t (n+1)) w2):=hide (by rw [qa hup4,if_neg (by simp),List.append_nil];exact qa hst2);clear hst2;go_wp2_with fail;go_roundg (gk-1)
           case measure=>omega
           case rel=>exact ⟨n+1,by omega,by go_num,qa hst4,qa hg3'⟩
          ·have hcl:∀ j u',[Value.int .i64 (f:Int),.int .i64 (t:Int),.int .u8 (u.toNat:Int)][j]?=some u'->(w2.alloc (.cells #[.int .i64 (f:Int),.int .i64 (t:Int),.int .u8 (u.toNat:Int)] 171)).cell? ((⟨w2.heap.size,0,none⟩:Addr).add j)=some u':=fun j u' hu=>by
            rw [Addr.add_lit,Nat.zero_add,World.cell?_alloc_at _ _ _ _ rfl,<-Array.getElem?_toList];exact hu
           have hlen:(X++Y++Z).length<=20805:=by rw [List.length_append,List.length_append];omega
           obtain ⟨XX,hXX⟩:∃ x,Hid (X++Y++Z=x):=⟨_,hide rfl⟩;rw [qa hXX] at hst2 hlen;have hup5:Hid (X++Y++upT5 z wh fc b f t (n+1)=XX++[(f,t,u)]):=hide (by rw [qa hup4,if_pos rfl,<-List.append_assoc,qa hXX]);clear hup4 hXX;go_wp2_with (at_builtin;refine wpList_append_own _ rfl (.tmp 70) (.tmp 72) 169 rfl w0.heap.size 171 i0 (.agg #[.int .i64 0,.int .i64 0,.int .u8 0]) 3 24 Tryz.underlying169 (qa hi') hz0 hz1 hz2 rfl (by decide) u3 XX.length (rowM XX) rfl ((qa hst2).alloc _) ⟨w2.heap.size,0,none⟩ 1 1 [.int .i64 (f:Int),.int .i64 (t:Int),.int .u8 (u.toNat:Int)] rfl rfl hcl (by simp [Value.oneCell']) (by unfold maxLen;omega) (by omega) (by simp;omega) ?_;intro v' w3 hown' hgrow hnil);go_roundg (gk-1)
           case measure=>omega
           case rel =>
            refine ⟨n+1,by omega,by go_num,?_,?_⟩
            ·unfold Mrs;rw [qa hup5,rowM_snoc,List.length_append];exact hown'
            ·exact ((qa hg3').alloc _ _).grown hgrow (by simp;omega) (mrs_block (qa hst2))
         ·have en:n=MO:=by omega
          subst en;have hst8:Hid (Mrs w0.heap.size u3 (X++upK z wh fc b f (e+1)) wr):=hide (by rw [qa hup3,<-List.append_assoc];exact qa hst');have hnn:¬ ((n:Int)<(n:Int)):=by omega
          clear hst' hup3;go_wp2_with fail;go_roundg (go2-1)
          case measure=>omega
          case rel=>exact ⟨e+1,by omega,by go_num,qa hst8,qa hgr'⟩
     ·have ee:e=64:=by omega
      subst ee;have hst9:Hid (Mrs w0.heap.size u3 (upI z wh fc b (d+1)) wr):=hide (by rw [qa hup2];exact qa hst');clear hst' hup2;go_wp2_with fail;go_roundg (go1-1)
      case measure=>omega
      case rel=>exact ⟨d+1,by omega,by go_num,qa hst9,qa hgr'⟩
   ·have hcm:¬ coc (z f)=sdb wh:=by simpa using qa hCB
    have hst7:Hid (Mrs w0.heap.size u3 (upI z wh fc b (d+1)) wb):=hide (by rw [qa hup,if_neg hcm,List.append_nil];exact qa hst6);clear hcm hCB hup hst6;go_wp2_with fail;go_roundg (go1-1)
    case measure=>omega
    case rel=>exact ⟨d+1,by omega,by go_num,qa hst7,qa hg6⟩
  ·have ed:d=64:=by omega
   subst ed;go_wp2_with fail;go_ret;exact ⟨u3,rfl,jx (qa hst') (Below.size (qa hg0)),Gr.trans (qa hg0) (qa hgr')⟩
theorem mrs_form {w:World} {base:Nat} {v:Value} {ys:List Mv} (h:Mrs base v ys w):∃ p cap,v=.slice p ys.length cap/\ys.length<=cap/\∀ i (hy:i<ys.length),∃ g,p=some ⟨g,0,none⟩/\w.cell? ⟨g,i*3,none⟩=some (.int .i64 (ys[i].1:Int))/\w.cell? ⟨g,i*3+1,none⟩=some (.int .i64 (ys[i].2.1:Int))/\w.cell? ⟨g,i*3+2,none⟩=some (.int .u8 (ys[i].2.2.toNat:Int)):=by
 rcases h.2 with ⟨rfl,h0⟩|⟨g,cap,cur,rfl,hb,hg,hn,hm,hcs,htk⟩
 ·have e0:ys.length=0:=h0;exact ⟨none,0,by rw [e0],by omega,fun i hi=>absurd hi (by omega)⟩
 ·refine ⟨_,_,rfl,hn,fun i hy=>⟨g,rfl,?_⟩⟩
  have hj:∀ c,c<3->w.cell? ⟨g,i*3+c,none⟩=(mvC ys[i]).toList[c]?:=fun c hc=>by
   have h1:i*3+c<ys.length*3:=by omega
   simp only [World.cell?];rw [hg];show cur[i*3+c]?=_;rw [<-Array.getElem?_toList,<-List.getElem?_take_of_lt h1,htk,flat_get,show (i*3+c)/3=i by omega,show (i*3+c)%3=c by omega,List.getElem?_eq_getElem hy];rfl
  exact ⟨hj 0 (by decide),hj 1 (by decide),hj 2 (by decide)⟩
end Go.Proofs.YtnfakamfmkhlbaaGreatDoor.C
