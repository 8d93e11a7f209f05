import Derived.Test.YtnfakamfmkhlbaaGreatDoorZs39
import Derived.Test.YtnfakamfmkhlbaaGreatDoorZs40
import Derived.Test.YtnfakamfmkhlbaaGreatDoorKz2
set_option maxRecDepth 100000
set_option maxHeartbeats 4000000
set_option linter.unusedSimpArgs false
namespace Go.Proofs.YtnfakamfmkhlbaaGreatDoor.C
open Go.RowKit
open Go.Proofs.YtnfakamfmkhlbaaGreatDoor.P
theorem prom_is:∀ wh:Bool,∀ u∈[98,110,113,114],manL (plU u) wh=trn (letr (bg wh)) u:=by decide +kernel
theorem cas_two:∀ i,i<4->casT i=hK i+2\/casT i+2=hK i:=by decide +kernel
theorem bz1_no {z:Nat->UInt8} {b:Int} {f t:Nat} (h:pasB z b f t=false):bz1 z b f t=z:=by
 unfold bz1;rw [h];rfl
theorem bz4_pl {z:Nat->UInt8} {wh:Bool} {fc:Nat->Bool} {b:Int} (hC:Can z wh fc b) {i f t:Nat} {u:UInt8} (hi:i<6) (hf:f<64) (ht:t<64) (hc:ixc (z f)=((bg wh+i:Nat):Int)) (hm:t∈tgL z wh fc b f) (hu:(f,t,u)∈turnsB (decide (i=0)) f t):bz4 z wh fc b f t u=plZ z b (f,t,u):=by
 have hkd:=kd_ix hi hc;obtain ⟨u',e,u0,u1⟩:=qzf hu;have:u=u':=by injection e with _ e;injection e
 subst this;rcases classify hC hi hf ht hc hm hu with ⟨hP,kg⟩|⟨ci,hK',e1,e2,e3,e4⟩
 ·have hkc:kcB z wh fc f t u=false:=by
   cases hx:kcB z wh fc f t u with
   | false=>rfl
   | true =>
    unfold kcB at hx;rw [Bool.and_eq_true,decide_eq_true_eq,decide_eq_true_eq,hkd] at hx;have i5:i=5:=by omega
    have hu0:=u0 (decide_eq_false (by omega));subst hu0;have hx2:=hx.2
    have hall:∀ j,j<4->casB wh fc f t 0 j=true->False:=fun j hj h=>by
     obtain ⟨_,_,a3,a4⟩:=(qx8 hj).1 h;have:=kg i5;have:=cas_two j hj;omega
    have hun:casR wh fc f t 0=if casB wh fc f t 0 0 then 0 else if casB wh fc f t 0 1 then 1 else if casB wh fc f t 0 2 then 2 else if casB wh fc f t 0 3 then 3 else -1:=rfl;rw [hun,if_neg (hall 0 (by omega)),if_neg (hall 1 (by omega)),if_neg (hall 2 (by omega)),if_neg (hall 3 (by omega))] at hx2;omega
  have hB:=pl_at hP kg;funext n;rw [hB n];unfold bz4;rw [hkc,if_neg (by simp)];have hft:=hP.ft
  have h2:bz2 z b f t n=if n=t then z f else if n=f then 46 else if n=csN wh b i t then 46 else z n:=by
   unfold bz2 upd;by_cases c1:n=f
   ·rw [if_pos c1,if_neg (fun e=>hft (c1.symm.trans e)),if_pos c1]
   ·rw [if_neg c1,if_neg c1];by_cases c2:n=t
    ·rw [if_pos c2,if_pos c2]
    ·rw [if_neg c2,if_neg c2];by_cases hep:i=0/\(t:Int)=b
     ·obtain ⟨q1,q2⟩:=hep;obtain ⟨_,_,e3,_,_⟩:=hP.ep q1 q2;have hcf:=hP.cf
      have hpas:pasB z b f t=true:=by
       unfold pasB;rw [hkd,q1,decide_eq_true q2,decide_eq_true (show f%8≠t%8 from fun e=>hcf (by rw [e3,<-e];omega))];rfl
      unfold bz1;rw [hpas,if_pos rfl,<-e3];rfl
     ·have hpas:pasB z b f t=false:=by
       cases hx:pasB z b f t with
       | false=>rfl
       | true =>
        unfold pasB at hx;rw [Bool.and_eq_true,Bool.and_eq_true,decide_eq_true_eq,decide_eq_true_eq,hkd] at hx;exact absurd ⟨by omega,hx.1.2⟩ hep
      rw [bz1_no hpas,hP.nep hep,if_neg c2]
  unfold bz3;by_cases hu0:u=0
  ·rw [if_pos hu0,h2,hu0];rfl
  ·rw [if_neg hu0];unfold upd
   have i0:i=0:=by
    by_cases k:i=0
    ·exact k
    ·exact absurd (u0 (decide_eq_false k)) hu0
   have hz:=qqt (by cases wh<;>decide) (show ixc (z f)=((bg wh:Nat):Int) by rw [hc,i0];rfl)
   by_cases c2:n=t
   ·rw [if_pos c2,if_pos c2,hz];refine prom_is wh u ?_;rcases u1 with e|e|e|e|e
    ·exact absurd e hu0
    ·rw [e];simp
    ·rw [e];simp
    ·rw [e];simp
    ·rw [e];simp
   ·rw [if_neg c2,h2,if_neg c2,if_neg c2]
 ·subst e3 e4;have hkg:=qqq hi hc
  have hmem:t∈cgR z wh fc f++cgM z wh fc f:=by
   unfold tgL at hm;rw [List.mem_append,List.mem_filter,hkg.1,hkg.2] at hm;rcases hm with ⟨hm,_⟩|hm
   ·rw [qqw hf hi hc ht] at hm;have:=(qxi hm).1;rw [zk _ 5 (by omega) _ 1] at this;have:=qjt f hf t ht this;have:=cas_two ci hK'.hi;omega
   ·rw [decide_eq_false (show ¬ (5:Nat)=0 by omega),if_neg (by simp),decide_eq_true rfl,if_pos rfl] at hm;exact hm
  obtain ⟨cj,hj,j1,j2,j3,j4,j5,j6⟩:=qx7.1 ((cg_iff hC hf hc).1 hmem);obtain ⟨hp,hk⟩:=qqq hi hc
  have hkc:kcB z wh fc f t 0=true:=by
   unfold kcB;rw [hkd,j6,decide_eq_true (show (0:Int)<=(cj:Int) by omega)];rfl
  have hpas:pasB z b f t=false:=by
   unfold pasB;rw [hkd];rfl
  have hrook:manL 3 wh=z (hR cj):=by
   have hcc:cj=0\/cj=1\/cj=2\/cj=3:=by omega
   subst j1;rcases hcc with rfl|rfl|rfl|rfl
   ·rw [show z (hR 0)=82 from (hC.c0 j2).2];rfl
   ·rw [show z (hR 1)=82 from (hC.c1 j2).2];rfl
   ·rw [show z (hR 2)=114 from (hC.c2 j2).2];rfl
   ·rw [show z (hR 3)=114 from (hC.c3 j2).2];rfl
  obtain ⟨f1,f2,f3,f4,f5,f6,f7,f8,f9,f10,f11,f12,f13,f14,f15,f16,f17⟩:=qqk cj hj
  have hmid:(f+t)/2=rN cj:=by
   have hcc:cj=0\/cj=1\/cj=2\/cj=3:=by omega
   rw [j3,j4];rcases hcc with rfl|rfl|rfl|rfl<;>rfl
  have hhr:(homeR cj).toNat=hR cj:=by rw [(home_hK cj hj).2.2];rfl
  funext n;have hat:=cas_at (z:=z) (b:=b) hj (by rw [<-j3,hp];rfl) (by rw [<-j3,hk];rfl) n;rw [<-j3,<-j4] at hat;rw [hat];unfold bz4;rw [hkc,if_pos rfl,j6,Int.toNat_natCast,hhr,hmid,hrook];unfold bz3 bz2;rw [if_pos rfl,bz1_no hpas];unfold upd;by_cases c1:n=hR cj
  ·rw [if_neg (fun e=>f17 (e.symm.trans c1)),if_pos c1,if_pos c1]
  ·rw [if_neg c1,if_neg c1];by_cases c2:n=rN cj
   ·rw [if_pos c2,if_pos c2]
   ·rw [if_neg c2,if_neg c2];by_cases c3:n=t
    ·rw [if_pos c3,if_pos c3,if_neg (fun e=>f12 (by rw [<-j4,<-j3];exact c3.symm.trans e))]
    ·rw [if_neg c3,if_neg c3]
theorem pl_ok {z:Nat->UInt8} {wh:Bool} {fc:Nat->Bool} {b:Int} (hC:Can z wh fc b) {i f t:Nat} {u:UInt8} (hi:i<6) (hf:f<64) (ht:t<64) (hc:ixc (z f)=((bg wh+i:Nat):Int)) (hm:t∈tgL z wh fc b f) (hu:(f,t,u)∈turnsB (decide (i=0)) f t):layOk (plZ z b (f,t,u))=true:=by
 rcases classify hC hi hf ht hc hm hu with ⟨hP,kg⟩|⟨ci,hK',e1,e2,e3,e4⟩
 ·exact okZ hP (pl_at hP kg) hC.ok
 ·subst e1 e2 e3 e4;obtain ⟨hp,hk⟩:=qqq hi hc;obtain ⟨f1,f2,f3,f4,_⟩:=qqk ci hK'.hi;refine qqf fun n hn=>?_
  rw [cas_at hK'.hi (by rw [hp];rfl) (by rw [hk];rfl)];split
  ·rfl
  ·split
   ·exact ja hC.ok f3
   ·split
    ·exact ja hC.ok f1
    ·split
     ·rfl
     ·exact ja hC.ok hn
def legR (z:Nat->UInt8) (wh:Bool) (fc:Nat->Bool) (b:Int) (f t:Nat) (u:UInt8):Bool:=goesR z wh fc b f t u&&!(attR (bz4 z wh fc b f t u) (kingR (bz4 z wh fc b f t u) wh) (!wh))
theorem goes_king {z:Nat->UInt8} {wh:Bool} {fc:Nat->Bool} {b:Int} (hC:Can z wh fc b) (h0:-1<=b) (h1:b<=63) {f t:Nat} {u:UInt8} (hf:f<64) (ht:t<64) (hu:u∈U5) (hg:goesR z wh fc b f t u=true):∃ y:Nat,y<64/\kingR (bz4 z wh fc b f t u) wh=(y:Int):=by
 obtain ⟨i,hi,hc,hm,htu⟩:=(qvt hC hf ht hu).1 hg;rw [bz4_pl hC hi hf ht hc hm htu];exact (zf hC h0 h1 hi hf ht hc hm htu).1
theorem qvp {z:Nat->UInt8} {wh:Bool} {fc:Nat->Bool} {b:Int} (hC:Can z wh fc b) (h0:-1<=b) (h1:b<=63) {f t:Nat} {u:UInt8} (hf:f<64) (ht:t<64) (hu:u∈U5):legR z wh fc b f t u=true↔(f,t,u)∈letL z wh fc b:=by
 unfold legR letL;rw [Bool.and_eq_true,qvt hC hf ht hu,List.mem_filter,qj8 hC]
 have key:∀ i,i<6->ixc (z f)=((bg wh+i:Nat):Int)->t∈tgL z wh fc b f->(f,t,u)∈turnsB (decide (i=0)) f t->(!(attR (bz4 z wh fc b f t u) (kingR (bz4 z wh fc b f t u) wh) (!wh)))=letP z wh b (f,t,u):=fun i hi hc hm htu=>by
  obtain ⟨y,hy,e⟩:=(zf hC h0 h1 hi hf ht hc hm htu).1;unfold letP;rw [bz4_pl hC hi hf ht hc hm htu,e,Int.toNat_natCast,jb (pl_ok hC hi hf ht hc hm htu) hy]
 constructor
 ·rintro ⟨⟨i,hi,hc,hm,htu⟩,h⟩;rw [key i hi hc hm htu] at h;exact ⟨⟨i,f,t,u,rfl,hi,hf,ht,hc,hm,htu⟩,h⟩
 ·rintro ⟨⟨i,f',t',u',e,hi,_,_,hc,hm,htu⟩,h⟩;have e1:f=f':=by injection e
  have e2:t=t':=by injection e with _ e;injection e
  have e3:u=u':=by injection e with _ e;injection e
  subst e1 e2 e3;exact ⟨⟨i,hi,hc,hm,htu⟩,by rw [key i hi hc hm htu];exact h⟩
def sqF (i:Nat):Nat:=i%8*8+i/8
def moR (z:Nat->UInt8) (f t:Nat):Nat:=if kdc (z f)=0/\lastR t=true then 5 else 1
def upT5 (z:Nat->UInt8) (wh:Bool) (fc:Nat->Bool) (b:Int) (f t n:Nat):List Mv:=((U5.take n).filter fun u=>legR z wh fc b f t u).map fun u=>(f,t,u)
def upK (z:Nat->UInt8) (wh:Bool) (fc:Nat->Bool) (b:Int) (f n:Nat):List Mv:=(List.range n).flatMap fun k=>upT5 z wh fc b f (sqF k) (moR z f (sqF k))
def upI (z:Nat->UInt8) (wh:Bool) (fc:Nat->Bool) (b:Int) (n:Nat):List Mv:=(List.range n).flatMap fun i=>if coc (z (sqF i))=sdb wh then upK z wh fc b (sqF i) 64 else []
def allR (z:Nat->UInt8) (wh:Bool) (fc:Nat->Bool) (b:Int):List Mv:=upI z wh fc b 64
theorem qzj:∀ i,i<64->sqF i<64:=by decide +kernel
theorem sqF_onto:∀ f,f<64->sqF (sqF f)=f:=by decide +kernel
theorem name_rise:∀ i,i<64->∀ j,j<64->i<j->nameS (sqF i)<nameS (sqF j):=by decide +kernel
theorem app_lt {a b c d:List UInt8} (hl:a.length=b.length) (h:a<b):a++c<b++d:=by
 induction a generalizing b with
 | nil =>
  cases b with
  | nil=>exact absurd h (List.lt_irrefl _)
  | cons _ _=>cases hl
 | cons x r ih =>
  cases b with
  | nil=>cases hl
  | cons y s =>
   rw [List.cons_append,List.cons_append,List.cons_lt_cons_iff];rw [List.cons_lt_cons_iff] at h;rcases h with h|⟨h1,h2⟩
   ·exact .inl h
   ·exact .inr ⟨h1,ih (by simpa using hl) h2⟩
theorem app_lt2 {a c d:List UInt8} (h:c<d):a++c<a++d:=by
 induction a with
 | nil=>exact h
 | cons x r ih=>rw [List.cons_append,List.cons_append,List.cons_lt_cons_iff];exact .inr ⟨rfl,ih⟩
theorem mem_all {z:Nat->UInt8} {wh:Bool} {fc:Nat->Bool} {b:Int} (hC:Can z wh fc b) (h0:-1<=b) (h1:b<=63) (x:Mv):x∈allR z wh fc b↔x∈letL z wh fc b:=by
 unfold allR upI upK upT5;simp only [List.mem_flatMap,List.mem_range];constructor
 ·rintro ⟨i,hi,hx⟩;split at hx
  ·obtain ⟨k,hk,hx⟩:=List.mem_flatMap.1 hx;obtain ⟨u,hu,rfl⟩:=List.mem_map.1 hx;obtain ⟨hu,hl⟩:=List.mem_filter.1 hu;exact (qvp hC h0 h1 (qzj i hi) (qzj k (List.mem_range.1 hk)) (List.mem_of_mem_take hu)).1 hl
  ·cases hx
 ·intro hx;obtain ⟨i,f,t,u,rfl,hi,hf,ht,hc,hm,htu⟩:=(qj8 hC).1 (List.mem_filter.1 hx).1;obtain ⟨u',e,u0,u1⟩:=qzf htu;have:u=u':=by injection e with _ e;injection e
  subst this
  have hu5:u∈U5:=by
   unfold U5;rcases u1 with e|e|e|e|e<;>(rw [e];simp)
  refine ⟨sqF f,qzj f hf,?_⟩;rw [sqF_onto f hf,if_pos (qqi hi hc)];refine List.mem_flatMap.2 ⟨sqF t,List.mem_range.2 (qzj t ht),?_⟩;rw [sqF_onto t ht];refine List.mem_map.2 ⟨u,List.mem_filter.2 ⟨?_,(qvp hC h0 h1 hf ht hu5).2 hx⟩,rfl⟩;have htt:=(turns_iff ht hu5).1 htu;rw [beq_iff_eq] at htt;unfold moR;rw [kd_ix hi hc];by_cases k:(i:Int)=0/\lastR t=true
  ·rw [if_pos k];exact hu5
  ·rw [if_neg k]
   have:decide (u≠0)=false:=by
    rw [htt];cases hl:lastR t with
    | false=>simp
    | true =>
     rw [decide_eq_false (fun e=>k ⟨by omega,hl⟩)];rfl
   have:u=0:=by simpa using this
   rw [this];simp [U5]
theorem all_rise (z:Nat->UInt8) (wh:Bool) (fc:Nat->Bool) (b:Int):(allR z wh fc b).Pairwise fun x y=>txt x<txt y:=by
 have kt:∀ f t n,∀ x∈upT5 z wh fc b f t n,x.1=f/\x.2.1=t:=fun f t n x hx=>by
  obtain ⟨u,_,rfl⟩:=List.mem_map.1 hx;exact ⟨rfl,rfl⟩
 have kf:∀ f n,∀ x∈upK z wh fc b f n,x.1=f:=fun f n x hx=>by
  obtain ⟨k,_,hx⟩:=List.mem_flatMap.1 hx;exact (kt _ _ _ x hx).1
 unfold allR upI;rw [List.pairwise_flatMap];constructor
 ·intro i _;split
  ·unfold upK;rw [List.pairwise_flatMap];constructor
   ·intro k _;unfold upT5;rw [List.pairwise_map];refine List.Pairwise.filter _ (List.Pairwise.sublist (List.take_sublist _ _) ?_);unfold U5;unfold txt mvS;simp only;have e:∀ i,i<5->∀ j,j<5->i<j->nameS (sqF i)=nameS (sqF i):=fun _ _ _ _ _=>rfl
    clear e;refine List.Pairwise.imp (R:=fun u v:UInt8=>(if u=0 then [] else [u])<(if v=0 then ([]:List UInt8) else [v])) (fun {a c} h=>app_lt2 h) ?_;decide
   ·refine (List.pairwise_lt_range (n:=64)).imp_of_mem fun {a c} ha hc hlt x hx y hy=>?_
    obtain ⟨x1,x2⟩:=kt _ _ _ x hx;obtain ⟨y1,y2⟩:=kt _ _ _ y hy;unfold txt mvS;rw [x1,x2,y1,y2,List.append_assoc,List.append_assoc];exact app_lt2 (app_lt rfl (name_rise a (List.mem_range.1 ha) c (List.mem_range.1 hc) hlt))
  ·exact List.Pairwise.nil
 ·refine (List.pairwise_lt_range (n:=64)).imp_of_mem fun {a c} ha hc hlt x hx y hy=>?_
  split at hx
  ·split at hy
   ·have x1:=kf _ _ x hx;have y1:=kf _ _ y hy;unfold txt mvS;rw [x1,y1,List.append_assoc,List.append_assoc];exact app_lt rfl (name_rise a (List.mem_range.1 ha) c (List.mem_range.1 hc) hlt)
   ·cases hy
  ·cases hx
theorem all_same {z:Nat->UInt8} {wh:Bool} {fc:Nat->Bool} {b:Int} (hC:Can z wh fc b) (h0:-1<=b) (h1:b<=63):allR z wh fc b=sortM (movS z wh fc b):=by
 obtain ⟨t1,t2⟩:=twin hC h0 h1;refine za (fun a c h=>List.lt_asymm h) _ _ (all_rise z wh fc b) t2 fun x=>?_
 rw [mem_all hC h0 h1,qqz hC h0 h1,(xv _).mem_iff]
end Go.Proofs.YtnfakamfmkhlbaaGreatDoor.C
namespace Go.Proofs.YtnfakamfmkhlbaaGreatDoor.C
open Go.ChangeShapes Go.WideShapes Go.ChangeAt Go.RowKit
open Go.Proofs.YtnfakamfmkhlbaaGreatDoor.P
attribute [local go_sem] qd qi
structure Lg (w w4:World) (PA:Array Value) (B:Nat) (Q:Array Value) (W:World):Prop where
 pa:RowAt w.heap.size PA W
 q:RowAt B Q W
 gr:Gr w4 W
theorem Lg.next {w w4 W W':World} {PA Q:Array Value} {B:Nat} (h:Lg w w4 PA B Q W) (g:Gr W W'):Lg w w4 PA B Q W':=⟨h.pa.gr g,h.q.gr g,Gr.trans h.gr g⟩
theorem qzz {z:Nat->UInt8} {wh:Bool} {fc:Nat->Bool} {b h g:Int} {PA:Array Value} (r:Row z wh fc b h g PA) (hC:Can z wh fc b) (hb0:-1<=b) (hb1:b<=63) (h0:0<=h) (h1:h<=65535) (g0:0<=g) (g1:g<=65535) (f t:Nat) (hf:f<64) (ht:t<64) (u:UInt8) (hu:u∈U5) (w:World) :
  Calls Tryz.prog 157 #[.agg PA,.agg #[.int .i64 (f:Int),.int .i64 (t:Int),.int .u8 (u.toNat:Int)]] w fun e w'=>e=.returned (.bool (legR z wh fc b f t u))/\Gr w w':=by
 have hz:=r.size;have hP0:=Pm.start w PA f t u;have htu:=hide (fun W=>zn r W);have hgo:=hide (fun W=>goesR_any r f t hf ht u W);have hbe:=hide (fun W=>qj4 r f t hf ht u hu h0 h1 g0 g1 W);have hrow:=hide (rowOf hP0.pa);obtain ⟨m0,m1,m2⟩:=hP0.cells;have hki:=hide (goes_king hC hb0 hb1 hf ht hu);have hV:Hid (legR z wh fc b f t u=(goesR z wh fc b f t u&&!(attR (bz4 z wh fc b f t u) (kingR (bz4 z wh fc b f t u) wh) (!wh)))):=hide rfl;generalize legR z wh fc b f t u=V at hV ⊢;clear r hC;generalize goesR z wh fc b f t u=G at hgo hki hV;go_enter Tryz.func157,Tryz.ntmps157
 go_upto_region 2 with (first
  | (go_at_call 231;refine (qa hgo _).mono ?_;rintro e w1 ⟨rfl,hg1⟩)
  | (refine ql (by rfl) _ rfl w.heap.size rfl hz (qa hrow) ?_))
 have hP1:=hP0.next hg1;clear hP0 hg1 hrow hgo m0 m1 m2;obtain ⟨m0,m1,m2⟩:=hP1.cells;have hrow:=hide (rowOf hP1.pa);cases G
 ·have hgr:=hide hP1.gr;go_wp2_with fail;go_ret;exact ⟨by rw [qa hV];rfl,qa hgr⟩
 ·go_upto_region 5 with (first
   | (go_at_call 121;refine (qa hbe _).mono ?_;rintro e w2 ⟨Q,rfl,hQ,hg2⟩;have hqz:=hQ.size;have hq1:=qy hQ)
   | (refine wpList_store_row rfl 25 _ _ rfl w2.heap.size Q rfl rfl 25 Tryz.zeroCells25 (heap_alloc_new _ _) (by rw [hqz];exact infoP) (by rw [hqz];rfl) hq1 ?_)
   | (refine ql (by rfl) _ rfl w.heap.size rfl hz (qa hrow) ?_))
  show Code.wp _ _ _ _ ((w2.alloc (.cells Tryz.zeroCells25 25)).setRow w2.heap.size Q);have hg3:Gr w2 ((w2.alloc (.cells Tryz.zeroCells25 25)).setRow w2.heap.size Q):=((Gr.refl w2).alloc _ _).setRow _ (Nat.le_refl _) _;have hq3:((w2.alloc (.cells Tryz.zeroCells25 25)).setRow w2.heap.size Q).heap[w2.heap.size]?=some (.cells Q 25):=setRow_heap _ _ _ _ _ _ (heap_alloc_new w2 _);have hP3:=(hP1.next hg2).next hg3;generalize ((w2.alloc (.cells Tryz.zeroCells25 25)).setRow w2.heap.size Q)=w4 at hg3 hq3 hP3 ⊢;generalize w2.heap.size=B at hq3 ⊢;obtain ⟨y,hy64,hy⟩:=qa hki trivial;obtain ⟨qs,qA⟩:=zw hQ
  have hKi:Hid (∀ W:World,Calls Tryz.prog 92 #[.agg (Q.toList.take 64).toArray,.int .i64 (sdb wh)] W fun e w'=>e=.returned (.int .i64 (y:Int))/\Gr W w'):=hide fun W=>by
   rw [<-hy];exact qju _ _ qA wh W
  obtain ⟨av,hav⟩:∃ v,Hid (attR (bz4 z wh fc b f t u) (y:Int) (!wh)=v):=⟨_,hide rfl⟩
  have hAt:Hid (∀ W:World,Calls Tryz.prog 91 #[.agg (Q.toList.take 64).toArray,.int .i64 (y:Int),.int .i64 (sdb (!wh))] W fun e w'=>e=.returned (.bool av)/\Gr W w'):=hide fun W=>by
   rw [<-qa hav];exact jl _ _ qs qA (y:Int) (by omega) (by omega) (!wh) W
  have hend:Hid (V=!av):=hide (by rw [qa hV,hy,qa hav];rfl);have hng:Hid (IntKind.i64.wrap (-(sdb wh))=sdb (!wh)):=hide (by cases wh<;>decide)
  have hgr:=hide hP3.gr;have hHeld0:Lg w w4 PA B Q w4.drew:=⟨(rowOf hP3.pa).gr (Gr.refl _).drew,(rowOf hq3).gr (Gr.refl _).drew,(Gr.refl _).drew⟩;clear hP3 hP1 hg2 hg3 hq3 hbe hki hV hrow m0 m1 m2 qs qA hQ hq1 hav hy;refine wp_region_held_drew (S:=Lg w w4 PA B Q) (by kernel_rfl) hHeld0 (fun hHeld=>?_);clear hHeld0;refine C.tq 0 (.pointer (some ⟨B,0,none⟩)) hHeld ?_;refine C.ty 1 (.agg (Q.toList.take 64).toArray) rfl (zx hqz (by rfl) _ rfl B rfl (fun _ h=>h.q)) hHeld ?_;refine C.tq 2 (.pointer (some ⟨B,0,none⟩)) hHeld ?_;refine C.ty 3 (.agg (Q.toList.take 64).toArray) rfl (zx hqz (by rfl) _ rfl B rfl (fun _ h=>h.q)) hHeld ?_;refine C.ty 4 (.agg PA) rfl (zd hz (by rfl) _ rfl w.heap.size rfl (fun _ h=>h.pa)) hHeld ?_;refine C.ty 7 (.agg PA) rfl (zd hz (by rfl) _ rfl w.heap.size rfl (fun _ h=>h.pa)) hHeld ?_;refine C.rd 5 fun K hK=>?_
  go_simp;refine (qa htu _).mono ?_;rintro e wa1 ⟨rfl,hga1⟩;refine hK.out _ _ (hHeld.next hga1) (fun hHeld=>?_);clear hK K hga1
  try simp only [C.py]
  refine C.rd 6 fun K hK=>?_
  go_simp;refine (qa hKi _).mono ?_;rintro e wa2 ⟨rfl,hga2⟩;refine hK.out _ _ (hHeld.next hga2) (fun hHeld=>?_);clear hK K hga2
  try simp only [C.py]
  refine C.rd 8 fun K hK=>?_
  go_simp;refine (qa htu _).mono ?_;rintro e wa3 ⟨rfl,hga3⟩;refine hK.out _ _ (hHeld.next hga3) (fun hHeld=>?_);clear hK K hga3
  try simp only [C.py]
  refine C.ty 9 (.int .i64 (sdb (!wh))) rfl (Or.inl ⟨by rfl,fun w _=>(by go_simp;exact qa hng)⟩) hHeld ?_;refine C.rd 10 fun K hK=>?_
  go_simp;refine (qa hAt _).mono ?_;rintro e wa4 ⟨rfl,hga4⟩;refine hK.out _ _ (hHeld.next hga4) (fun hHeld=>?_);clear hK K hga4
  try simp only [C.py]
  refine C.rd 11 fun K hK=>?_
  go_simp;refine hK.out _ _ hHeld (fun hHeld=>?_);clear hK K
  try simp only [C.py]
  refine wpAnyH_done (by kernel_rfl) ?_ _;have hgF:Hid (Gr w _):=hide (Gr.trans (qa hgr) hHeld.gr);clear hHeld;go_wp2_with fail;go_ret;exact ⟨by rw [qa hend];rfl,qa hgF⟩
end Go.Proofs.YtnfakamfmkhlbaaGreatDoor.C
