import Derived.Test.YtnfakamfmkhlbabGreatDoorKb22
import Derived.Test.YtnfakamfmkhlbabGreatDoorKb21
import Derived.Test.YtnfakamfmkhlbabGreatDoorKb12
import Derived.Test.YtnfakamfmkhlbabGreatDoorKb14
import Derived.Test.YtnfakamfmkhlbabGreatDoorKb19
import Derived.Test.YtnfakamfmkhlbabGreatDoorKb13
import Derived.Test.YtnfakamfmkhlbabGreatDoorKz2
set_option maxRecDepth 100000
set_option maxHeartbeats 4000000
set_option linter.unusedSimpArgs false
namespace Go.Proofs.YtnfakamfmkhlbabGreatDoor.C
open Go.RowKit
open Go.Proofs.YtnfakamfmkhlbabGreatDoor.P
theorem sub_flat {α β:Type} {A B:α->List β}:∀ l:List α,(∀ k∈l,(A k).Sublist (B k))->(l.flatMap A).Sublist (l.flatMap B)
 | [],_=>by simp
 | a :: r,h=>by
   rw [List.flatMap_cons,List.flatMap_cons];exact List.Sublist.append (h a (List.mem_cons_self ..)) (sub_flat r fun k hk=>h k (List.mem_cons_of_mem _ hk))
theorem up_sub (z:Nat->UInt8):∀ l:List Nat,(upT z l).Sublist l
 | []=>by simp [upT]
 | a :: r=>by
   unfold upT;split
   ·exact List.Sublist.cons_cons a (up_sub z r)
   ·exact List.Sublist.cons_cons a (List.nil_sublist r)
theorem far_nodup:∀ x,x<64->((List.range 16).flatMap fun k=>if k<8 then rr k x else []).Nodup:=by decide +kernel
theorem near_nodup:∀ x,x<64->((List.range 16).flatMap fun k=>if onB x (stN k) then [nx x (stN k)] else []).Nodup:=by decide +kernel
theorem attU_nodup {z:Nat->UInt8} {f:Nat} (hf:f<64) {bw:Bool} {i:Nat} (hi:i<6) (hc:ixc (z f)=((bg bw+i:Nat):Int)):(attU z f 16).Nodup:=by
 have hbg:bg bw=0\/bg bw=6:=by cases bw<;>simp [bg]
 have hp:bg bw+i<12:=by omega
 have hz:=letr_of hp hc;have hm:(bg bw+i)%6=i:=by omega
 have hF:=far_is (bg bw+i) hp;rw [hm] at hF;unfold attU;cases hfar:isFar i with
 | true =>
  have hG:=far_goes (bg bw+i) hp (by rw [hm];exact hfar);refine List.Nodup.sublist (sub_flat _ fun k hk=>?_) (far_nodup f hf);have hk:=List.mem_range.1 hk;unfold attS;rw [hz,(hG k hk).1,hF,hfar,if_pos rfl];by_cases h8:k<8
  ·rw [if_pos h8];split
   ·unfold wkL;rw [wk_up];exact up_sub z _
   ·exact List.nil_sublist _
  ·rw [if_neg (by simp [h8]),if_neg h8];exact List.nil_sublist _
 | false =>
  refine List.Nodup.sublist (sub_flat _ fun k hk=>?_) (near_nodup f hf);unfold attS;rw [hz,hF,hfar,wk_take];split
  ·rw [if_neg (by simp)];exact List.Sublist.refl _
  ·exact List.nil_sublist _
theorem rr_nodup:∀ x,x<64->(rr 0 x).Nodup/\(rr 4 x).Nodup:=by decide +kernel
theorem pawn_file {f:Nat->Int} {s x y:Int} (h:attI f 0 s x y=true):y%8≠x%8:=by
 unfold attI at h;rw [if_pos rfl,Bool.and_eq_true,beq_iff_eq,beq_iff_eq] at h;intro e;rw [e] at h;have:=h.1;unfold ab at this;split at this<;>omega
theorem tgL_nodup {z:Nat->UInt8} {wh:Bool} {fc:Nat->Bool} {b:Int} (hC:Can z wh fc b) {f:Nat} (hf:f<64) {i:Nat} (hi:i<6) (hc:ixc (z f)=((bg wh+i:Nat):Int)):(tgL z wh fc b f).Nodup:=by
 obtain ⟨hp,hk⟩:=pk_is hi hc;have hA:=attU_nodup hf hi hc;unfold tgL;rw [hp,hk,List.nodup_append];refine ⟨List.Pairwise.filter _ hA,?_,?_⟩
 ·by_cases e0:i=0
  ·rw [decide_eq_true e0,if_pos rfl];unfold ahT;refine List.Nodup.sublist ((List.takeWhile_sublist _).trans (List.take_sublist _ _)) ?_;unfold wkL;rw [wk_up];refine List.Nodup.sublist (up_sub z _) ?_;cases wh
   ·exact (rr_nodup f hf).2
   ·exact (rr_nodup f hf).1
  ·rw [decide_eq_false e0,if_neg (by simp)];by_cases e5:i=5
   ·rw [decide_eq_true e5,if_pos rfl,List.nodup_append];refine ⟨by unfold cgR;split<;>simp,by unfold cgM;split<;>simp,fun a ha c hc e=>?_⟩
    unfold cgR at ha;unfold cgM at hc;split at ha
    ·split at hc
     ·simp at ha hc;omega
     ·cases hc
    ·cases ha
   ·rw [decide_eq_false e5,if_neg (by simp)];exact List.nodup_nil
 ·intro a ha c hc' e;subst e;have ha:=(List.mem_filter.1 ha).1;have ha64:=att_lt hf ha;rw [att_mem hf hi hc ha64] at ha;by_cases e0:i=0
  ·subst e0;have hr:=hC.pw wh f hf hc;rw [decide_eq_true rfl,if_pos rfl,ah_list hf hr] at hc';have h1:=pawn_file ha;rcases hc' with ⟨e,_⟩|⟨hs,e,_⟩
   ·unfold fw at e;cases wh<;>simp at e<;>omega
   ·unfold fw at e;unfold startR at hs;cases wh<;>simp at e hs<;>omega
  ·rw [decide_eq_false e0,if_neg (by simp)] at hc';by_cases e5:i=5
   ·subst e5;rw [decide_eq_true rfl,if_pos rfl] at hc';have:=(attI_free ha).1;rw [attI_side _ 5 (by omega) _ 1] at this;have hk2:=king_step f hf a ha64 this;obtain ⟨h1,h2⟩:=king_home hC hf hc;rcases List.mem_append.1 hc' with h|h
    ·unfold cgR at h;split at h
     ·simp at h;omega
     ·cases h
    ·unfold cgM at h;split at h
     ·rename_i hh;rw [Bool.and_eq_true] at hh;have hfe:=h2 hh.1;have:2<=f:=by rw [hfe];cases wh<;>decide
      simp at h;omega
     ·cases h
   ·rw [decide_eq_false e5,if_neg (by simp)] at hc';cases hc'
theorem turns_nodup (p:Bool) (f t:Nat):(turnsB p f t).Nodup:=by
 unfold turnsB;split
 ·simp
 ·simp
theorem turns_ft {p:Bool} {f t:Nat} {x:Mv} (h:x∈turnsB p f t):x.1=f/\x.2.1=t:=by
 obtain ⟨u,rfl,_⟩:=turn_u h;exact ⟨rfl,rfl⟩
theorem letL_nodup {z:Nat->UInt8} {wh:Bool} {fc:Nat->Bool} {b:Int} (hC:Can z wh fc b):(letL z wh fc b).Nodup:=by
 unfold letL;refine List.Pairwise.filter _ ?_;unfold alU;rw [List.pairwise_flatMap];constructor
 ·intro f hf;have hf:=List.mem_range.1 hf;unfold alS;split
  ·rename_i hm;rw [man_co (lay_ok hC.ok hf),decide_eq_true_eq] at hm;obtain ⟨i,hi,e1,_⟩:=ix_of_co hm;rw [List.pairwise_flatMap];refine ⟨fun t _=>turns_nodup _ _ _,(tgL_nodup hC hf hi e1).imp fun {a c} hne x hx y hy e=>?_⟩;subst e;exact hne ((turns_ft hx).2.symm.trans (turns_ft hy).2)
  ·exact List.Pairwise.nil
 ·refine (List.nodup_range (n:=64)).imp fun {a c} hne x hx y hy e=>?_
  subst e
  have key:∀ f,x∈alS z wh fc b f->x.1=f:=fun f h=>by
   unfold alS at h;split at h
   ·obtain ⟨t,_,h⟩:=List.mem_flatMap.1 h;exact (turns_ft h).1
   ·cases h
  exact hne ((key a hx).symm.trans (key c hy))
theorem sqs_nodup (s:BitVec 64):(sqs s).Nodup:=List.Pairwise.filter _ (List.nodup_range (n:=64))
theorem movS_nodup (z:Nat->UInt8) (wh:Bool) (fc:Nat->Bool) (b:Int):(movS z wh fc b).Nodup:=by
 have kf:∀ (m:Nat->BitVec 64) (own oth beh:BitVec 64) (k f:Nat) (x:Mv),x∈fromS m wh own oth beh fc k f->x.1=f:=fun m own oth beh k f x h=>by
  unfold fromS toS at h;obtain ⟨t,_,h⟩:=List.mem_flatMap.1 h;split at h
  ·exact (turns_ft h).1
  ·cases h
 unfold movS uptoS List.Nodup;rw [List.pairwise_flatMap];constructor
 ·intro k _;unfold placeS;rw [List.pairwise_flatMap];constructor
  ·intro f _;unfold fromS;rw [List.pairwise_flatMap];constructor
   ·intro t _;unfold toS;split
    ·exact turns_nodup _ _ _
    ·exact List.Pairwise.nil
   ·refine (sqs_nodup _).imp fun {a c} hne x hx y hy e=>?_
    subst e;unfold toS at hx hy;split at hx
    ·split at hy
     ·exact hne ((turns_ft hx).2.symm.trans (turns_ft hy).2)
     ·cases hy
    ·cases hx
  ·refine (sqs_nodup _).imp fun {a c} hne x hx y hy e=>?_
   subst e;exact hne ((kf _ _ _ _ _ _ _ hx).symm.trans (kf _ _ _ _ _ _ _ hy))
 ·refine (List.nodup_range (n:=6)).imp fun {a c} hne x hx y hy e=>?_
  subst e;unfold placeS at hx hy;obtain ⟨f,hf,hx⟩:=List.mem_flatMap.1 hx;obtain ⟨g,hg,hy⟩:=List.mem_flatMap.1 hy;have e1:=kf _ _ _ _ _ _ _ hx;have e2:=kf _ _ _ _ _ _ _ hy;rw [sqs_mem] at hf hg;rw [lay64 z _ f hf.1,decide_eq_true_eq] at hf;rw [lay64 z _ g hg.1,decide_eq_true_eq] at hg;rw [<-e2,e1,hf.2] at hg;have:=hg.2;exact hne (by omega)
theorem nmq_inj:∀ f,f<64->∀ g,g<64->nameS f=nameS g->f=g:=by decide +kernel
theorem txtq_inj {x y:Mv} (hx:okM x) (hy:okM y) (h:txt x=txt y):x=y:=by
 obtain ⟨f,t,u⟩:=x;obtain ⟨f',t',u'⟩:=y;unfold txt mvS at h;simp only at h;rw [List.append_assoc,List.append_assoc] at h;obtain ⟨h1,h2⟩:=List.append_inj h rfl;obtain ⟨h2,h3⟩:=List.append_inj h2 rfl;have e1:=nmq_inj f hx.1 f' hy.1 h1;have e2:=nmq_inj t hx.2 t' hy.2 h2
 have e3:u=u':=by
  by_cases a:u=0
  ·by_cases c:u'=0
   ·rw [a,c]
   ·rw [if_pos a,if_neg c] at h3;cases h3
  ·by_cases c:u'=0
   ·rw [if_neg a,if_pos c] at h3;cases h3
   ·rw [if_neg a,if_neg c] at h3;injection h3
 rw [e1,e2,e3]
theorem eq_of_rising {α:Type} {r:α->α->Prop} (asym:∀ a b,r a b->¬ r b a):∀ (l1 l2:List α),l1.Pairwise r->l2.Pairwise r->(∀ x,x∈l1↔x∈l2)->l1=l2
 | [],[],_,_,_=>rfl
 | [],b :: r2,_,_,h=>absurd ((h b).2 (List.mem_cons_self ..)) (by simp)
 | a :: r1,[],_,_,h=>absurd ((h a).1 (List.mem_cons_self ..)) (by simp)
 | a :: r1,b :: r2,h1,h2,h=>by
   rw [List.pairwise_cons] at h1 h2
   have hab:a=b:=by
    rcases List.mem_cons.1 ((h a).1 (List.mem_cons_self ..)) with e|e
    ·exact e
    ·rcases List.mem_cons.1 ((h b).2 (List.mem_cons_self ..)) with e'|e'
     ·exact e'.symm
     ·exact absurd (h1.1 b e') (asym _ _ (h2.1 a e))
   subst hab;have irr:¬ r a a:=fun k=>asym _ _ k k
   rw [eq_of_rising asym r1 r2 h1.2 h2.2 fun x=>?_];constructor
   ·intro hx;rcases List.mem_cons.1 ((h x).1 (List.mem_cons_of_mem _ hx)) with e|e
    ·rw [e] at hx;exact absurd (h1.1 a hx) irr
    ·exact e
   ·intro hx;rcases List.mem_cons.1 ((h x).2 (List.mem_cons_of_mem _ hx)) with e|e
    ·rw [e] at hx;exact absurd (h2.1 a hx) irr
    ·exact e
theorem sortM_rise {xs:List Mv} (hn:xs.Nodup) (hok:∀ x∈xs,okM x):(sortM xs).Pairwise fun x y=>txt x<txt y:=by
 have h1:(sortM xs).Pairwise fun x y=>(!ltM y x)=true:=by
  unfold sortM;refine List.pairwise_mergeSort (fun a b c h1 h2=>?_) (fun a b=>?_) xs
  ·unfold ltM at *;simp only [Bool.not_eq_true',decide_eq_false_iff_not] at *;exact List.not_lt.2 (List.le_trans (List.not_lt.1 h1) (List.not_lt.1 h2))
  ·unfold ltM;rw [Bool.or_eq_true];simp only [Bool.not_eq_true',decide_eq_false_iff_not];rcases List.le_total (txt a) (txt b) with h|h
   ·exact .inl (List.not_lt.2 h)
   ·exact .inr (List.not_lt.2 h)
 have h2:(sortM xs).Nodup:=List.Nodup.perm hn (sortM_perm xs).symm;have hok':∀ x∈sortM xs,okM x:=fun x hx=>hok x ((sortM_perm xs).mem_iff.1 hx)
 have h3:(sortM xs).Pairwise fun x y=>(!ltM y x)=true/\x≠y:=List.Pairwise.and h1 h2
 refine List.Pairwise.imp_of_mem (fun {a c} ha hc h=>?_) h3;unfold ltM at h;simp only [Bool.not_eq_true',decide_eq_false_iff_not] at h;by_cases hlt:txt a<txt c
 ·exact hlt
 ·exact absurd (txtq_inj (hok' a ha) (hok' c hc) (List.le_antisymm (List.not_lt.1 h.1) (List.not_lt.1 hlt))) h.2
theorem twin {z:Nat->UInt8} {wh:Bool} {fc:Nat->Bool} {b:Int} (hC:Can z wh fc b) (h0:-1<=b) (h1:b<=63):sortM (letL z wh fc b)=sortM (movS z wh fc b)/\(sortM (movS z wh fc b)).Pairwise fun x y=>txt x<txt y:=by
 have hk:=letOk_of hC h0 h1;have r1:=sortM_rise (letL_nodup hC) (fun x hx=>alU_ok hk.home (List.mem_filter.1 hx).1);have r2:=sortM_rise (movS_nodup z wh fc b) (movS_ok z wh fc b);refine ⟨eq_of_rising (fun a c h=>List.lt_asymm h) _ _ r1 r2 fun x=>?_,r2⟩;rw [(sortM_perm _).mem_iff,(sortM_perm _).mem_iff];exact same_mem hC h0 h1 x
theorem pos_can {s:ByteArray} {p:Pos} (hr:readS s=some p) (hc:posCan p=true):Can (posZ p) p.white p.castle p.behind ∧ -1<=p.behind/\p.behind<=63:=⟨can_good hc,read_beh hr⟩
def lastR (t:Nat):Bool:=decide (t/8=0)||decide (t/8=7)
def upR (f t:Nat):Int:=((t/8:Nat):Int)-((f/8:Nat):Int)
def pwU (z:Nat->UInt8) (wh:Bool) (f t:Nat):Bool:=decide (upR f t=sdb wh)||(decide (upR f t=2*sdb wh)&&decide (f/8=(if wh then 1 else 6))&&decide (z (if wh then f+8 else f-8)=46))
def pwR (z:Nat->UInt8) (wh:Bool) (b:Int) (f t:Nat):Bool :=
 if attI (zI z) 0 (sdb wh) (f:Int) (t:Int) then decide (coc (z t)=sdb (!wh))||decide ((t:Int)=b)
 else decide (f%8=t%8)&&decide (z t=46)&&pwU z wh f t
def mnR (z:Nat->UInt8) (wh:Bool) (fc:Nat->Bool) (k f t:Nat) (u:UInt8):Bool :=
 if attI (zI z) k (sdb wh) (f:Int) (t:Int) then true
 else decide (k=5)&&decide (0<=casR wh fc f t u)&&freeC z (casR wh fc f t u).toNat
def goesR (z:Nat->UInt8) (wh:Bool) (fc:Nat->Bool) (b:Int) (f t:Nat) (u:UInt8):Bool :=
 decide (coc (z f)=sdb wh)&&!decide (coc (z t)=sdb wh)&&(decide (u≠0)==(decide (kdc (z f)=0)&&lastR t))&&(if kdc (z f)=0 then pwR z wh b f t else mnR z wh fc (kdc (z f)).toNat f t u)
def U5:List UInt8:=[0,98,110,113,114]
theorem lastR_bit:∀ t,t<64->lastB.getLsbD t=lastR t:=by decide +kernel
theorem turns_iff {p:Bool} {f t:Nat} (ht:t<64) {u:UInt8} (hu:u∈U5):(f,t,u)∈turnsB p f t↔(decide (u≠0)==(p&&lastR t))=true:=by
 unfold turnsB;rw [lastR_bit t ht];unfold U5 at hu;simp only [List.mem_cons,List.not_mem_nil,or_false] at hu;cases p&&lastR t
 ·rw [if_neg (by simp)];rcases hu with rfl|rfl|rfl|rfl|rfl<;>simp
 ·rw [if_pos rfl];rcases hu with rfl|rfl|rfl|rfl|rfl<;>simp
theorem kd_ix {c:UInt8} {wh:Bool} {i:Nat} (hi:i<6) (h:ixc c=((bg wh+i:Nat):Int)):kdc c=(i:Int):=by
 unfold kdc;rw [h];unfold bg;cases wh
 ·simp only [Bool.false_eq_true,if_false];rw [if_pos (by omega)];omega
 ·simp only [if_true];rw [if_neg (by omega)];omega
theorem pawn_ah {z:Nat->UInt8} {wh:Bool} {f t:Nat} (hf:f<64) (_ht:t<64) (hr:¬ (f/8=0\/f/8=7)):(decide (f%8=t%8)&&decide (z t=46)&&pwU z wh f t)=true↔AhP z wh f t:=by
 unfold pwU upR AhP startR;simp only [Bool.and_eq_true,Bool.or_eq_true,decide_eq_true_eq];cases wh
 ·have e1:fw false f 1=f-8:=rfl;have e2:fw false f 2=f-16:=rfl;rw [e1,e2];simp only [sdb,Bool.false_eq_true,if_false];constructor
  ·rintro ⟨⟨h1,h2⟩,h3|⟨⟨h3,h4⟩,h5⟩⟩
   ·have:t=f-8:=by omega
    exact .inl ⟨this,by rw [<-this];exact h2⟩
   ·have:t=f-16:=by omega
    exact .inr ⟨h4,this,h5,by rw [<-this];exact h2⟩
  ·rintro (⟨h1,h2⟩|⟨h1,h2,h3,h4⟩)
   ·exact ⟨⟨by omega,by rw [h1];exact h2⟩,.inl (by omega)⟩
   ·exact ⟨⟨by omega,by rw [h2];exact h4⟩,.inr ⟨⟨by omega,h1⟩,h3⟩⟩
 ·have e1:fw true f 1=f+8:=rfl;have e2:fw true f 2=f+16:=rfl;rw [e1,e2];simp only [sdb,if_true];constructor
  ·rintro ⟨⟨h1,h2⟩,h3|⟨⟨h3,h4⟩,h5⟩⟩
   ·have:t=f+8:=by omega
    exact .inl ⟨this,by rw [<-this];exact h2⟩
   ·have:t=f+16:=by omega
    exact .inr ⟨h4,this,h5,by rw [<-this];exact h2⟩
  ·rintro (⟨h1,h2⟩|⟨h1,h2,h3,h4⟩)
   ·exact ⟨⟨by omega,by rw [h1];exact h2⟩,.inl (by omega)⟩
   ·exact ⟨⟨by omega,by rw [h2];exact h4⟩,.inr ⟨⟨by omega,h1⟩,h3⟩⟩
theorem ah_no {z:Nat->UInt8} {wh:Bool} {f t:Nat} (hr:¬ (f/8=0\/f/8=7)) (h:AhP z wh f t):z t=46/\attI (zI z) 0 (sdb wh) (f:Int) (t:Int)=false:=by
 have e:t%8=f%8:=by
  unfold AhP startR fw at h;cases wh<;>simp at h<;>omega
 refine ⟨?_,?_⟩
 ·rcases h with ⟨h1,h2⟩|⟨_,h1,_,h2⟩
  ·rw [h1];exact h2
  ·rw [h1];exact h2
 ·cases ha:attI (zI z) 0 (sdb wh) (f:Int) (t:Int) with
  | false=>rfl
  | true=>exact absurd (by omega) (pawn_file ha)
theorem home_hK:∀ i,i<4->homeK i=((hK i:Nat):Int)/\homeT i=((casT i:Nat):Int)/\homeR i=((hR i:Nat):Int):=by decide +kernel
theorem clr_same {z:Nat->UInt8} {i:Nat} (hi:i<4):clrH z i=mcE z (hK i) (hD i) (hN i):=by
 have z46:∀ n,(((z n).toNat:Int)=46)↔(z n==46)=true:=fun n=>by
  constructor
  ·intro h;have:z n=46:=u8_of h rfl;simp [this]
  ·intro h;have:z n=46:=by simpa using h
   rw [this];rfl
 unfold clrH freeI mcE;rw [Bool.eq_iff_iff,decide_eq_true_eq,List.all_eq_true];have hc:i=0\/i=1\/i=2\/i=3:=by omega
 constructor
 ·intro h j hj;have hj:=List.mem_range.1 hj;rw [<-z46]
  have e:sqK (hK i) (hD i) (j+1)=(wayP i (j+1)).toNat:=by
   unfold sqK wayP homeK hD hK;rcases hc with rfl|rfl|rfl|rfl<;>simp<;>omega
  rw [e];refine h (j+1) ?_ (by omega);unfold hN at hj;unfold wayL;rcases hc with rfl|rfl|rfl|rfl<;>simp at hj ⊢<;>omega
 ·intro h j hj h1
  have:=h (j-1) (List.mem_range.2 (by
   unfold wayL at hj;unfold hN;rcases hc with rfl|rfl|rfl|rfl<;>simp at hj ⊢<;>omega))
  rw [<-z46] at this;rw [<-this]
  have e:sqK (hK i) (hD i) (j-1+1)=(wayP i j).toNat:=by
   unfold sqK wayP homeK hD hK;rcases hc with rfl|rfl|rfl|rfl<;>simp<;>omega
  rw [e]
theorem free_same {z:Nat->UInt8} (hok:layOk z=true) {i:Nat} (hi:i<4):freeC z i=mcB z (decide (i<2)) (hK i) (hD i) (hN i):=by
 unfold freeC mcB;rw [clr_same hi];unfold mcA;have e3:∀ p:Nat->Bool,(List.range 3).all p=(p 0&&(p 1&&(p 2&&true))):=fun p=>rfl
 rw [e3];have key:∀ j,j<3->attLB z (sqK (hK i) (hD i) j) (!decide (i<2))=attR z (((sqK (hK i) (hD i) j:Nat)):Int) (!decide (i<2)):=fun j hj=>attL_same hok (wit_lt i hi j (by omega) (by unfold hN;split<;>omega)) _
 rw [key 0 (by omega),key 1 (by omega),key 2 (by omega)]
 have q:homeK i=((sqK (hK i) (hD i) 0:Nat):Int)/\(homeK i+homeT i).tdiv 2=((sqK (hK i) (hD i) 1:Nat):Int)/\homeT i=((sqK (hK i) (hD i) 2:Nat):Int):=by
  have hc:i=0\/i=1\/i=2\/i=3:=by omega
  rcases hc with rfl|rfl|rfl|rfl<;>decide
 rw [<-q.1,<-q.2.1,<-q.2.2];cases mcE z (hK i) (hD i) (hN i)<;>cases attR z (homeK i) (!decide (i<2))<;>cases attR z ((homeK i+homeT i).tdiv 2) (!decide (i<2))<;>cases attR z (homeT i) (!decide (i<2))<;>rfl
theorem casB_iff {wh:Bool} {fc:Nat->Bool} {f t:Nat} {i:Nat} (hi:i<4):casB wh fc f t 0 i=true↔fc i=true/\wh=decide (i<2)/\f=hK i/\t=casT i:=by
 obtain ⟨e1,e2,_⟩:=home_hK i hi;unfold casB;rw [e1,e2];simp only [Bool.and_eq_true,beq_iff_eq];constructor
 ·rintro ⟨⟨⟨⟨h1,h2⟩,h3⟩,h4⟩,_⟩;refine ⟨h1,?_,by omega,by omega⟩
  revert h2
  cases wh<;>cases decide (i<2)<;>simp [sdb]
 ·rintro ⟨h1,h2,h3,h4⟩;exact ⟨⟨⟨⟨h1,by rw [h2]⟩,by omega⟩,by omega⟩,rfl⟩
theorem casR_iff {z:Nat->UInt8} {wh:Bool} {fc:Nat->Bool} {f t:Nat}:(decide (0<=casR wh fc f t 0)&&freeC z (casR wh fc f t 0).toNat)=true↔∃ i,i<4/\wh=decide (i<2)/\fc i=true/\f=hK i/\t=casT i/\freeC z i=true/\casR wh fc f t 0=(i:Int):=by
 have hu:casR wh fc f t 0=if casB wh fc f t 0 0 then 0 else if casB wh fc f t 0 1 then 1 else if casB wh fc f t 0 2 then 2 else if casB wh fc f t 0 3 then 3 else -1:=rfl;constructor
 ·intro h;rw [Bool.and_eq_true,decide_eq_true_eq] at h;obtain ⟨h1,h2⟩:=h
  have go:∀ i,i<4->casB wh fc f t 0 i=true->casR wh fc f t 0=(i:Int)->∃ i,i<4/\wh=decide (i<2)/\fc i=true/\f=hK i/\t=casT i/\freeC z i=true/\casR wh fc f t 0=(i:Int):=fun i hi hc he=>by
   obtain ⟨a1,a2,a3,a4⟩:=(casB_iff hi).1 hc;rw [he] at h2;exact ⟨i,hi,a2,a1,a3,a4,h2,he⟩
  by_cases c0:casB wh fc f t 0 0=true
  ·exact go 0 (by omega) c0 (by rw [hu,if_pos c0];rfl)
  ·by_cases c1:casB wh fc f t 0 1=true
   ·exact go 1 (by omega) c1 (by rw [hu,if_neg c0,if_pos c1];rfl)
   ·by_cases c2:casB wh fc f t 0 2=true
    ·exact go 2 (by omega) c2 (by rw [hu,if_neg c0,if_neg c1,if_pos c2];rfl)
    ·by_cases c3:casB wh fc f t 0 3=true
     ·exact go 3 (by omega) c3 (by rw [hu,if_neg c0,if_neg c1,if_neg c2,if_pos c3];rfl)
     ·rw [hu,if_neg c0,if_neg c1,if_neg c2,if_neg c3] at h1;omega
 ·rintro ⟨i,hi,a1,a2,a3,a4,a5,a6⟩;rw [a6,Bool.and_eq_true,decide_eq_true_eq];exact ⟨by omega,a5⟩
theorem casR_is {wh:Bool} {fc:Nat->Bool} {f t i:Nat} (hi:i<4) (h1:fc i=true) (h2:wh=decide (i<2)) (h3:f=hK i) (h4:t=casT i):casR wh fc f t 0=(i:Int):=by
 have hu:casR wh fc f t 0=if casB wh fc f t 0 0 then 0 else if casB wh fc f t 0 1 then 1 else if casB wh fc f t 0 2 then 2 else if casB wh fc f t 0 3 then 3 else -1:=rfl;have hp:casB wh fc f t 0 i=true:=(casB_iff hi).2 ⟨h1,h2,h3,h4⟩
 have hn:∀ j,j<4->j≠i->¬ casB wh fc f t 0 j=true:=fun j hj hne h=>by
  have:=((casB_iff hj).1 h).2.2.2;rw [h4] at this
  revert this
  unfold casT;have hc:i=0\/i=1\/i=2\/i=3:=by omega
  have hd:j=0\/j=1\/j=2\/j=3:=by omega
  rcases hc with rfl|rfl|rfl|rfl<;>rcases hd with rfl|rfl|rfl|rfl<;>simp at hne ⊢
 rw [hu];have hc:i=0\/i=1\/i=2\/i=3:=by omega
 rcases hc with rfl|rfl|rfl|rfl
 ·rw [if_pos hp];rfl
 ·rw [if_neg (hn 0 (by omega) (by omega)),if_pos hp];rfl
 ·rw [if_neg (hn 0 (by omega) (by omega)),if_neg (hn 1 (by omega) (by omega)),if_pos hp];rfl
 ·rw [if_neg (hn 0 (by omega) (by omega)),if_neg (hn 1 (by omega) (by omega)),if_neg (hn 2 (by omega) (by omega)),if_pos hp];rfl
theorem cg_iff {z:Nat->UInt8} {wh:Bool} {fc:Nat->Bool} {b:Int} (hC:Can z wh fc b) {f t:Nat} (hf:f<64) (hc:ixc (z f)=((bg wh+5:Nat):Int)):t∈cgR z wh fc f++cgM z wh fc f↔(decide (0<=casR wh fc f t 0)&&freeC z (casR wh fc f t 0).toNat)=true:=by
 obtain ⟨k1,k2⟩:=king_home hC hf hc;rw [casR_iff,List.mem_append];have e:(hK (cgF wh)+2=casT (cgF wh)/\hD (cgF wh)=1/\hN (cgF wh)=2/\cgF wh<4/\decide (cgF wh<2)=wh)/\(hK (cgF wh+1)-2=casT (cgF wh+1)/\hD (cgF wh+1)=-1/\hN (cgF wh+1)=3/\cgF wh+1<4/\decide (cgF wh+1<2)=wh):=by cases wh<;>decide
 obtain ⟨⟨a1,a2,a3,a4,a5⟩,⟨b1,b2,b3,b4,b5⟩⟩:=e;constructor
 ·rintro (h|h)
  ·unfold cgR at h;split at h
   ·rename_i hh;rw [Bool.and_eq_true] at hh;have hfe:=k1 hh.1;have ht:t=casT (cgF wh):=by rw [List.mem_singleton.1 h,<-a1,<-hfe]
    exact ⟨cgF wh,a4,a5.symm,hh.1,hfe,ht,by rw [free_same hC.ok a4,a5,a2,a3,<-hfe];exact hh.2,casR_is a4 hh.1 a5.symm hfe ht⟩
   ·cases h
  ·unfold cgM at h;split at h
   ·rename_i hh;rw [Bool.and_eq_true] at hh;have hfe:=k2 hh.1;have ht:t=casT (cgF wh+1):=by rw [List.mem_singleton.1 h,<-b1,<-hfe]
    exact ⟨cgF wh+1,b4,b5.symm,hh.1,hfe,ht,by rw [free_same hC.ok b4,b5,b2,b3,<-hfe];exact hh.2,casR_is b4 hh.1 b5.symm hfe ht⟩
   ·cases h
 ·rintro ⟨i,hi,h1,h2,h3,h4,h5,_⟩;rw [free_same hC.ok hi,<-h1] at h5
  have:i=cgF wh\/i=cgF wh+1:=by
   have hh:i=0\/i=1\/i=2\/i=3:=by omega
   rcases hh with rfl|rfl|rfl|rfl<;>(subst h1;decide)
  rcases this with rfl|rfl
  ·left;unfold cgR;rw [a2,a3,<-h3] at h5;rw [if_pos (by rw [h2,h5];rfl),h4,<-a1,h3];exact List.mem_singleton.2 rfl
  ·right;unfold cgM;rw [b2,b3,<-h3] at h5;rw [if_pos (by rw [h2,h5];rfl),h4,<-b1,h3];exact List.mem_singleton.2 rfl
theorem goes_iff {z:Nat->UInt8} {wh:Bool} {fc:Nat->Bool} {b:Int} (hC:Can z wh fc b) {f t:Nat} {u:UInt8} (hf:f<64) (ht:t<64) (hu:u∈U5) :
  goesR z wh fc b f t u=true↔∃ i,i<6/\ixc (z f)=((bg wh+i:Nat):Int)/\t∈tgL z wh fc b f/\(f,t,u)∈turnsB (decide (i=0)) f t:=by
 have hokt:=lay_ok hC.ok ht;by_cases hco:coc (z f)=sdb wh
 case neg =>
  constructor
  ·intro h;unfold goesR at h;rw [decide_eq_false hco] at h;simp at h
  ·rintro ⟨i,hi,hc,_⟩;exact absurd (coc_ix hi hc) hco
 obtain ⟨i,hi,hc,_⟩:=ix_of_co hco;have hk:=kd_ix hi hc;obtain ⟨hp,hkg⟩:=pk_is hi hc
 have uniq:(∃ i,i<6/\ixc (z f)=((bg wh+i:Nat):Int)/\t∈tgL z wh fc b f/\(f,t,u)∈turnsB (decide (i=0)) f t)↔(t∈tgL z wh fc b f/\(f,t,u)∈turnsB (decide (i=0)) f t):=by
  constructor
  ·rintro ⟨j,hj,e,h⟩;have:j=i:=by rw [hc] at e;omega
   rw [this] at h;exact h
  ·intro h;exact ⟨i,hi,hc,h⟩
 rw [uniq,turns_iff ht hu];unfold goesR;rw [decide_eq_true hco,hk,Bool.true_and,Bool.and_eq_true,Bool.and_eq_true]
 have e0:decide ((i:Int)=0)=decide (i=0):=by
  by_cases h:i=0
  ·simp [h]
  ·rw [decide_eq_false h,decide_eq_false (by omega)]
 rw [e0]
 have key:∀ (hU:(decide (u≠0)==(decide (i=0)&&lastR t))=true),((!decide (coc (z t)=sdb wh))=true/\(if (i:Int)=0 then pwR z wh b f t else mnR z wh fc (i:Int).toNat f t u)=true)↔t∈tgL z wh fc b f:=by
  intro hU;rw [Bool.not_eq_true',decide_eq_false_iff_not];unfold tgL;rw [List.mem_append,List.mem_filter,att_mem hf hi hc ht,hp,hkg];unfold mayB;rw [hp,man_co hokt,man_co hokt];by_cases i0:i=0
  ·subst i0;have hr:=hC.pw wh f hf hc;rw [decide_eq_true rfl,if_pos rfl,if_pos rfl,if_pos (show ((0:Nat):Int)=0 from rfl),ah_list hf hr];unfold pwR;rw [Bool.or_eq_true,beq_iff_eq,decide_eq_true_eq];cases ha:attI (zI z) 0 (sdb wh) (f:Int) (t:Int) with
   | true =>
    rw [if_pos rfl,Bool.or_eq_true,decide_eq_true_eq,decide_eq_true_eq];constructor
    ·rintro ⟨_,h|h⟩
     ·exact .inl ⟨rfl,.inr h⟩
     ·exact .inl ⟨rfl,.inl h⟩
    ·rintro (⟨_,h|h⟩|h)
     ·exact ⟨by rw [(beh_w hC.beh h).1];exact co_dot _,.inr h⟩
     ·exact ⟨by rw [h];exact fun e=>co_ne wh e.symm,.inl h⟩
     ·rw [(ah_no hr h).2] at ha;cases ha
   | false =>
    rw [if_neg (by simp),pawn_ah hf ht hr];constructor
    ·rintro ⟨_,h⟩;exact .inr h
    ·rintro (⟨h,_⟩|h)
     ·cases h
     ·exact ⟨by rw [(ah_no hr h).1];exact co_dot _,h⟩
  ·rw [decide_eq_false i0,if_neg (by omega),if_neg (by simp),if_neg (by simp),Int.toNat_natCast,Bool.not_eq_true',decide_eq_false_iff_not];unfold mnR;by_cases i5:i=5
   ·subst i5
    have u0:u=0:=by
     rw [beq_iff_eq] at hU;have:decide (u≠0)=false:=hU;simpa using this
    subst u0;rw [decide_eq_true rfl,if_pos rfl,cg_iff hC hf hc,Bool.true_and];cases ha:attI (zI z) 5 (sdb wh) (f:Int) (t:Int) with
    | true =>
     rw [if_pos rfl];constructor
     ·rintro ⟨h,_⟩;exact .inl ⟨rfl,h⟩
     ·rintro (⟨_,h⟩|h)
      ·exact ⟨h,rfl⟩
      ·obtain ⟨ci,hci,c1,c2,c3,c4,c5,_⟩:=casR_iff.1 h;rw [free_same hC.ok hci,<-c1] at c5;have hcas:=cas_of hC hci c1 c2 c5;refine ⟨?_,rfl⟩;rw [c4,hcas.dot (cas_in ci hci).1];exact co_dot _
    | false =>
     rw [if_neg (by simp)];constructor
     ·rintro ⟨_,h⟩;exact .inr h
     ·rintro (⟨h,_⟩|h)
      ·cases h
      ·refine ⟨?_,h⟩;obtain ⟨ci,hci,c1,c2,c3,c4,c5,_⟩:=casR_iff.1 h;rw [free_same hC.ok hci,<-c1] at c5;have hcas:=cas_of hC hci c1 c2 c5;rw [c4,hcas.dot (cas_in ci hci).1];exact co_dot _
   ·rw [decide_eq_false i5];cases ha:attI (zI z) i (sdb wh) (f:Int) (t:Int) with
    | true=>simp
    | false=>simp
 constructor
 ·rintro ⟨⟨h1,h2⟩,h3⟩;exact ⟨(key h2).1 ⟨h1,h3⟩,h2⟩
 ·rintro ⟨h1,h2⟩;have:=(key h2).2 h1;exact ⟨⟨this.1,h2⟩,this.2⟩
end Go.Proofs.YtnfakamfmkhlbabGreatDoor.C
namespace Go.Proofs.YtnfakamfmkhlbabGreatDoor.C
open Go.ChangeShapes Go.WideShapes Go.ChangeAt Go.RowKit
open Go.Proofs.YtnfakamfmkhlbabGreatDoor.P
attribute [local go_sem] setCell_drewN alloc_drewN
def pasB (z:Nat->UInt8) (b:Int) (f t:Nat):Bool:=decide (kdc (z f)=0)&&decide ((t:Int)=b)&&decide (f%8≠t%8)
def plU (u:UInt8):Nat:=if u=110 then 1 else if u=98 then 2 else if u=114 then 3 else 4
def bz1 (z:Nat->UInt8) (b:Int) (f t:Nat):Nat->UInt8:=if pasB z b f t then upd z (f/8*8+t%8) 46 else z
def bz2 (z:Nat->UInt8) (b:Int) (f t:Nat):Nat->UInt8:=upd (upd (bz1 z b f t) t (z f)) f 46
def bz3 (z:Nat->UInt8) (wh:Bool) (b:Int) (f t:Nat) (u:UInt8):Nat->UInt8:=if u=0 then bz2 z b f t else upd (bz2 z b f t) t (manL (plU u) wh)
def kcB (z:Nat->UInt8) (wh:Bool) (fc:Nat->Bool) (f t:Nat) (u:UInt8):Bool:=decide (kdc (z f)=5)&&decide (0<=casR wh fc f t u)
def bz4 (z:Nat->UInt8) (wh:Bool) (fc:Nat->Bool) (b:Int) (f t:Nat) (u:UInt8):Nat->UInt8:=if kcB z wh fc f t u then upd (upd (bz3 z wh b f t u) (homeR (casR wh fc f t u).toNat).toNat 46) ((f+t)/2) (manL 3 wh) else bz3 z wh b f t u
theorem Row.castle {z:Nat->UInt8} {wh:Bool} {fc fc':Nat->Bool} {b h g:Int} {Q:Array Value} (r:Row z wh fc b h g Q) (e:∀ i,i<4->fc i=fc' i):Row z wh fc' b h g Q :=
 ⟨r.size,r.sq,r.wh,fun i hi=>by rw [<-e i hi];exact r.c i hi,r.b,r.h,r.g⟩
end Go.Proofs.YtnfakamfmkhlbabGreatDoor.C
namespace Go.Proofs.YtnfakamfmkhlbabGreatDoor.C
open Go.RowKit
open Go.Proofs.YtnfakamfmkhlbabGreatDoor.P
theorem prom_is:∀ wh:Bool,∀ u∈[98,110,113,114],manL (plU u) wh=trn (letr (bg wh)) u:=by decide +kernel
theorem cas_two:∀ i,i<4->casT i=hK i+2\/casT i+2=hK i:=by decide +kernel
theorem bz1_no {z:Nat->UInt8} {b:Int} {f t:Nat} (h:pasB z b f t=false):bz1 z b f t=z:=by
 unfold bz1;rw [h];rfl
theorem bz4_pl {z:Nat->UInt8} {wh:Bool} {fc:Nat->Bool} {b:Int} (hC:Can z wh fc b) {i f t:Nat} {u:UInt8} (hi:i<6) (hf:f<64) (ht:t<64) (hc:ixc (z f)=((bg wh+i:Nat):Int)) (hm:t∈tgL z wh fc b f) (hu:(f,t,u)∈turnsB (decide (i=0)) f t):bz4 z wh fc b f t u=plZ z b (f,t,u):=by
 have hkd:=kd_ix hi hc;obtain ⟨u',e,u0,u1⟩:=turn_u hu;have:u=u':=by injection e with _ e;injection e
 subst this;rcases classify hC hi hf ht hc hm hu with ⟨hP,kg⟩|⟨ci,hK',e1,e2,e3,e4⟩
 ·have hkc:kcB z wh fc f t u=false:=by
   cases hx:kcB z wh fc f t u with
   | false=>rfl
   | true =>
    unfold kcB at hx;rw [Bool.and_eq_true,decide_eq_true_eq,decide_eq_true_eq,hkd] at hx;have i5:i=5:=by omega
    have hu0:=u0 (decide_eq_false (by omega));subst hu0;have hx2:=hx.2
    have hall:∀ j,j<4->casB wh fc f t 0 j=true->False:=fun j hj h=>by
     obtain ⟨_,_,a3,a4⟩:=(casB_iff hj).1 h;have:=kg i5;have:=cas_two j hj;omega
    have hun:casR wh fc f t 0=if casB wh fc f t 0 0 then 0 else if casB wh fc f t 0 1 then 1 else if casB wh fc f t 0 2 then 2 else if casB wh fc f t 0 3 then 3 else -1:=rfl;rw [hun,if_neg (hall 0 (by omega)),if_neg (hall 1 (by omega)),if_neg (hall 2 (by omega)),if_neg (hall 3 (by omega))] at hx2;omega
  have hB:=pl_at hP kg;funext n;rw [hB n];unfold bz4;rw [hkc,if_neg (by simp)];have hft:=hP.ft
  have h2:bz2 z b f t n=if n=t then z f else if n=f then 46 else if n=csN wh b i t then 46 else z n:=by
   unfold bz2 upd;by_cases c1:n=f
   ·rw [if_pos c1,if_neg (fun e=>hft (c1.symm.trans e)),if_pos c1]
   ·rw [if_neg c1,if_neg c1];by_cases c2:n=t
    ·rw [if_pos c2,if_pos c2]
    ·rw [if_neg c2,if_neg c2];by_cases hep:i=0/\(t:Int)=b
     ·obtain ⟨q1,q2⟩:=hep;obtain ⟨_,_,e3,_,_⟩:=hP.ep q1 q2;have hcf:=hP.cf
      have hpas:pasB z b f t=true:=by
       unfold pasB;rw [hkd,q1,decide_eq_true q2,decide_eq_true (show f%8≠t%8 from fun e=>hcf (by rw [e3,<-e];omega))];rfl
      unfold bz1;rw [hpas,if_pos rfl,<-e3];rfl
     ·have hpas:pasB z b f t=false:=by
       cases hx:pasB z b f t with
       | false=>rfl
       | true =>
        unfold pasB at hx;rw [Bool.and_eq_true,Bool.and_eq_true,decide_eq_true_eq,decide_eq_true_eq,hkd] at hx;exact absurd ⟨by omega,hx.1.2⟩ hep
      rw [bz1_no hpas,hP.nep hep,if_neg c2]
  unfold bz3;by_cases hu0:u=0
  ·rw [if_pos hu0,h2,hu0];rfl
  ·rw [if_neg hu0];unfold upd
   have i0:i=0:=by
    by_cases k:i=0
    ·exact k
    ·exact absurd (u0 (decide_eq_false k)) hu0
   have hz:=letr_of (by cases wh<;>decide) (show ixc (z f)=((bg wh:Nat):Int) by rw [hc,i0];rfl)
   by_cases c2:n=t
   ·rw [if_pos c2,if_pos c2,hz];refine prom_is wh u ?_;rcases u1 with e|e|e|e|e
    ·exact absurd e hu0
    ·rw [e];simp
    ·rw [e];simp
    ·rw [e];simp
    ·rw [e];simp
   ·rw [if_neg c2,h2,if_neg c2,if_neg c2]
 ·subst e3 e4;have hkg:=pk_is hi hc
  have hmem:t∈cgR z wh fc f++cgM z wh fc f:=by
   unfold tgL at hm;rw [List.mem_append,List.mem_filter,hkg.1,hkg.2] at hm;rcases hm with ⟨hm,_⟩|hm
   ·rw [att_mem hf hi hc ht] at hm;have:=(attI_free hm).1;rw [attI_side _ 5 (by omega) _ 1] at this;have:=king_step f hf t ht this;have:=cas_two ci hK'.hi;omega
   ·rw [decide_eq_false (show ¬ (5:Nat)=0 by omega),if_neg (by simp),decide_eq_true rfl,if_pos rfl] at hm;exact hm
  obtain ⟨cj,hj,j1,j2,j3,j4,j5,j6⟩:=casR_iff.1 ((cg_iff hC hf hc).1 hmem);obtain ⟨hp,hk⟩:=pk_is hi hc
  have hkc:kcB z wh fc f t 0=true:=by
   unfold kcB;rw [hkd,j6,decide_eq_true (show (0:Int)<=(cj:Int) by omega)];rfl
  have hpas:pasB z b f t=false:=by
   unfold pasB;rw [hkd];rfl
  have hrook:manL 3 wh=z (hR cj):=by
   have hcc:cj=0\/cj=1\/cj=2\/cj=3:=by omega
   subst j1;rcases hcc with rfl|rfl|rfl|rfl
   ·rw [show z (hR 0)=82 from (hC.c0 j2).2];rfl
   ·rw [show z (hR 1)=82 from (hC.c1 j2).2];rfl
   ·rw [show z (hR 2)=114 from (hC.c2 j2).2];rfl
   ·rw [show z (hR 3)=114 from (hC.c3 j2).2];rfl
  obtain ⟨f1,f2,f3,f4,f5,f6,f7,f8,f9,f10,f11,f12,f13,f14,f15,f16,f17⟩:=cas_facts cj hj
  have hmid:(f+t)/2=rN cj:=by
   have hcc:cj=0\/cj=1\/cj=2\/cj=3:=by omega
   rw [j3,j4];rcases hcc with rfl|rfl|rfl|rfl<;>rfl
  have hhr:(homeR cj).toNat=hR cj:=by rw [(home_hK cj hj).2.2];rfl
  funext n;have hat:=cas_at (z:=z) (b:=b) hj (by rw [<-j3,hp];rfl) (by rw [<-j3,hk];rfl) n;rw [<-j3,<-j4] at hat;rw [hat];unfold bz4;rw [hkc,if_pos rfl,j6,Int.toNat_natCast,hhr,hmid,hrook];unfold bz3 bz2;rw [if_pos rfl,bz1_no hpas];unfold upd;by_cases c1:n=hR cj
  ·rw [if_neg (fun e=>f17 (e.symm.trans c1)),if_pos c1,if_pos c1]
  ·rw [if_neg c1,if_neg c1];by_cases c2:n=rN cj
   ·rw [if_pos c2,if_pos c2]
   ·rw [if_neg c2,if_neg c2];by_cases c3:n=t
    ·rw [if_pos c3,if_pos c3,if_neg (fun e=>f12 (by rw [<-j4,<-j3];exact c3.symm.trans e))]
    ·rw [if_neg c3,if_neg c3]
theorem pl_ok {z:Nat->UInt8} {wh:Bool} {fc:Nat->Bool} {b:Int} (hC:Can z wh fc b) {i f t:Nat} {u:UInt8} (hi:i<6) (hf:f<64) (ht:t<64) (hc:ixc (z f)=((bg wh+i:Nat):Int)) (hm:t∈tgL z wh fc b f) (hu:(f,t,u)∈turnsB (decide (i=0)) f t):layOk (plZ z b (f,t,u))=true:=by
 rcases classify hC hi hf ht hc hm hu with ⟨hP,kg⟩|⟨ci,hK',e1,e2,e3,e4⟩
 ·exact okZ hP (pl_at hP kg) hC.ok
 ·subst e1 e2 e3 e4;obtain ⟨hp,hk⟩:=pk_is hi hc;obtain ⟨f1,f2,f3,f4,_⟩:=cas_facts ci hK'.hi;refine layOk_all fun n hn=>?_
  rw [cas_at hK'.hi (by rw [hp];rfl) (by rw [hk];rfl)];split
  ·rfl
  ·split
   ·exact lay_ok hC.ok f3
   ·split
    ·exact lay_ok hC.ok f1
    ·split
     ·rfl
     ·exact lay_ok hC.ok hn
def legR (z:Nat->UInt8) (wh:Bool) (fc:Nat->Bool) (b:Int) (f t:Nat) (u:UInt8):Bool:=goesR z wh fc b f t u&&!(attR (bz4 z wh fc b f t u) (kingR (bz4 z wh fc b f t u) wh) (!wh))
theorem leg_iff {z:Nat->UInt8} {wh:Bool} {fc:Nat->Bool} {b:Int} (hC:Can z wh fc b) (h0:-1<=b) (h1:b<=63) {f t:Nat} {u:UInt8} (hf:f<64) (ht:t<64) (hu:u∈U5):legR z wh fc b f t u=true↔(f,t,u)∈letL z wh fc b:=by
 unfold legR letL;rw [Bool.and_eq_true,goes_iff hC hf ht hu,List.mem_filter,alU_mem hC]
 have key:∀ i,i<6->ixc (z f)=((bg wh+i:Nat):Int)->t∈tgL z wh fc b f->(f,t,u)∈turnsB (decide (i=0)) f t->(!(attR (bz4 z wh fc b f t u) (kingR (bz4 z wh fc b f t u) wh) (!wh)))=letP z wh b (f,t,u):=fun i hi hc hm htu=>by
  obtain ⟨y,hy,e⟩:=(legal_same hC h0 h1 hi hf ht hc hm htu).1;unfold letP;rw [bz4_pl hC hi hf ht hc hm htu,e,Int.toNat_natCast,attL_same (pl_ok hC hi hf ht hc hm htu) hy]
 constructor
 ·rintro ⟨⟨i,hi,hc,hm,htu⟩,h⟩;rw [key i hi hc hm htu] at h;exact ⟨⟨i,f,t,u,rfl,hi,hf,ht,hc,hm,htu⟩,h⟩
 ·rintro ⟨⟨i,f',t',u',e,hi,_,_,hc,hm,htu⟩,h⟩;have e1:f=f':=by injection e
  have e2:t=t':=by injection e with _ e;injection e
  have e3:u=u':=by injection e with _ e;injection e
  subst e1 e2 e3;exact ⟨⟨i,hi,hc,hm,htu⟩,by rw [key i hi hc hm htu];exact h⟩
def sqF (i:Nat):Nat:=i%8*8+i/8
def moR (z:Nat->UInt8) (f t:Nat):Nat:=if kdc (z f)=0/\lastR t=true then 5 else 1
def upT5 (z:Nat->UInt8) (wh:Bool) (fc:Nat->Bool) (b:Int) (f t n:Nat):List Mv:=((U5.take n).filter fun u=>legR z wh fc b f t u).map fun u=>(f,t,u)
def upK (z:Nat->UInt8) (wh:Bool) (fc:Nat->Bool) (b:Int) (f n:Nat):List Mv:=(List.range n).flatMap fun k=>upT5 z wh fc b f (sqF k) (moR z f (sqF k))
def upI (z:Nat->UInt8) (wh:Bool) (fc:Nat->Bool) (b:Int) (n:Nat):List Mv:=(List.range n).flatMap fun i=>if coc (z (sqF i))=sdb wh then upK z wh fc b (sqF i) 64 else []
end Go.Proofs.YtnfakamfmkhlbabGreatDoor.C
