import Derived.Test.YtnfakamfmkhlbaaGreatDoorZe29
import Derived.Test.YtnfakamfmkhlbaaGreatDoorKz2
set_option maxRecDepth 100000
set_option maxHeartbeats 4000000
set_option linter.unusedSimpArgs false
namespace Go.Proofs.YtnfakamfmkhlbaaGreatDoor.C
open Go.RowKit
open Go.Proofs.YtnfakamfmkhlbaaGreatDoor.P
def fw (wh:Bool) (f k:Nat):Nat:=if wh then f+8*k else f-8*k
def startR (wh:Bool) (f:Nat):Bool:=decide (f/8=(if wh then 1 else 6))
def AhP (z:Nat->UInt8) (wh:Bool) (f t:Nat):Prop:=(t=fw wh f 1/\z (fw wh f 1)=46)\/(startR wh f=true/\t=fw wh f 2/\z (fw wh f 1)=46/\z (fw wh f 2)=46)
theorem ah_on:∀ wh:Bool,∀ f,f<64->(decide (f/8=0)||decide (f/8=7))=false->onB f (0,ahS wh)=true/\nx f (0,ahS wh)=fw wh f 1:=by decide +kernel
theorem ah_on2:∀ wh:Bool,∀ f,f<64->startR wh f=true->onB (fw wh f 1) (0,ahS wh)=true/\nx (fw wh f 1) (0,ahS wh)=fw wh f 2:=by decide +kernel
theorem wk_succ (z:Nat->UInt8) (s:Stp) (n x:Nat):wkN z s (n+1) x=if onB x s then nx x s :: (if z (nx x s)=46 then wkN z s n (nx x s) else []) else []:=rfl
theorem qzc {z:Nat->UInt8} {wh:Bool} {f t:Nat} (hf:f<64) (hr:¬ (f/8=0\/f/8=7)):t∈ahT z (ahM wh f) (wkL z (0,ahS wh) f)↔AhP z wh f t:=by
 obtain ⟨o1,n1⟩:=ah_on wh f hf (by simpa using hr)
 have e1:wkL z (0,ahS wh) f=fw wh f 1 :: (if z (fw wh f 1)=46 then wkN z (0,ahS wh) 7 (fw wh f 1) else []):=by
  show wkN z (0,ahS wh) (7+1) f=_;rw [wk_succ,if_pos o1,n1]
 unfold ahT AhP;rw [e1];by_cases hz:z (fw wh f 1)=46
 ·rw [if_pos hz];cases hs:startR wh f with
  | false =>
   have hm:ahM wh f=1:=by unfold ahM;unfold startR at hs;rw [if_neg (by simpa using hs)]
   rw [hm];simp [hz]
  | true =>
   have hm:ahM wh f=2:=by unfold ahM;unfold startR at hs;rw [if_pos (by simpa using hs)]
   obtain ⟨o2,n2⟩:=ah_on2 wh f hf hs
   have e2:wkN z (0,ahS wh) 7 (fw wh f 1)=fw wh f 2 :: (if z (fw wh f 2)=46 then wkN z (0,ahS wh) 6 (fw wh f 2) else []):=by
    show wkN z (0,ahS wh) (6+1) (fw wh f 1)=_;rw [wk_succ,if_pos o2,n2]
   rw [hm,e2];by_cases hz2:z (fw wh f 2)=46
   ·simp [hz,hz2]
   ·simp [hz,hz2]
 ·rw [if_neg hz]
  have:((List.take (ahM wh f) [fw wh f 1]).takeWhile fun v=>z v==46)=[]:=by
   cases ahM wh f with
   | zero=>rfl
   | succ n=>simp [hz]
  rw [this];simp [hz]
theorem once_w:∀ f,f<64->∀ t,t<64->(upB (1#64 <<< f) (dirI true)).getLsbD t=decide (t=f+8):=by decide +kernel
theorem once_b:∀ f,f<64->∀ t,t<64->(upB (1#64 <<< f) (dirI false)).getLsbD t=decide (t+8=f):=by decide +kernel
theorem third_w:∀ t,t<64->(thirdB true).getLsbD t=decide (t/8=2):=by decide +kernel
theorem third_b:∀ t,t<64->(thirdB false).getLsbD t=decide (t/8=5):=by decide +kernel
theorem up_bit_w (s:BitVec 64) {t:Nat} (ht:t<64):(upB s (dirI true)).getLsbD t=(!decide (t<8)&&s.getLsbD (t-8)):=by
 show (s <<< 8).getLsbD t=_;rw [BitVec.getLsbD_shiftLeft];simp [ht]
theorem up_bit_b (s:BitVec 64) (t:Nat):(upB s (dirI false)).getLsbD t=s.getLsbD (8+t):=by
 show (s >>> 8).getLsbD t=_;rw [BitVec.getLsbD_ushiftRight]
theorem ah_bits {z:Nat->UInt8} (hok:layOk z=true) {wh:Bool} {f t:Nat} (hf:f<64) (ht:t<64) (hr:¬ (f/8=0\/f/8=7)):(aheadB wh (sideB (layS z 64) wh) (sideB (layS z 64) (!wh)) f).getLsbD t=true↔AhP z wh f t:=by
 unfold aheadB onceB;rw [own_oth]
 have hd:∀ n,n<64->((~~~(takenB (layS z 64))).getLsbD n=true↔z n=46):=fun n hn=>by
  rw [qvw _ hn,dot_bit hok hn,Bool.not_not,beq_iff_eq]
 unfold AhP;cases wh
 ·rw [BitVec.getLsbD_or,BitVec.getLsbD_and,BitVec.getLsbD_and,once_b f hf t ht,up_bit_b,BitVec.getLsbD_and,BitVec.getLsbD_and];have hs:startR false f=decide (f/8=6):=rfl;have f1:fw false f 1=f-8:=rfl;have f2:fw false f 2=f-16:=rfl;rw [hs,f1,f2];by_cases h8:8+t<64
  ·rw [once_b f hf (8+t) h8,third_b (8+t) h8];simp only [Bool.or_eq_true,Bool.and_eq_true,decide_eq_true_eq,hd t ht,hd (8+t) h8];constructor
   ·rintro (⟨a,b⟩|⟨⟨⟨a,b⟩,c⟩,d⟩)
    ·left;have:f-8=t:=by omega
     rw [this];exact ⟨rfl,b⟩
    ·right;have e1:f-8=8+t:=by omega
     have e2:f-16=t:=by omega
     rw [e1,e2];exact ⟨by omega,rfl,b,d⟩
   ·rintro (⟨a,b⟩|⟨a,b,c,d⟩)
    ·left;rw [<-a] at b;exact ⟨by omega,b⟩
    ·right;have e1:f-8=8+t:=by omega
     have e2:f-16=t:=by omega
     rw [e1] at c;rw [e2] at d;exact ⟨⟨⟨by omega,c⟩,by omega⟩,d⟩
  ·have hz0:(upB (1#64 <<< f) (dirI false)).getLsbD (8+t)=false:=BitVec.getLsbD_of_ge _ _ (by omega);rw [hz0];simp only [Bool.false_and,Bool.or_false,Bool.and_eq_true,decide_eq_true_eq,hd t ht];constructor
   ·rintro ⟨a,b⟩;omega
   ·rintro (⟨a,b⟩|⟨a,b,c,d⟩)<;>omega
 ·rw [BitVec.getLsbD_or,BitVec.getLsbD_and,BitVec.getLsbD_and,once_w f hf t ht,up_bit_w _ ht,BitVec.getLsbD_and,BitVec.getLsbD_and];have hs:startR true f=decide (f/8=1):=rfl;have f1:fw true f 1=f+8:=rfl;have f2:fw true f 2=f+16:=rfl;rw [hs,f1,f2];by_cases h8:t<8
  ·simp only [h8,decide_true,Bool.not_true,Bool.false_and,Bool.or_false,Bool.and_eq_true,decide_eq_true_eq,hd t ht];constructor
   ·rintro ⟨a,b⟩;omega
   ·rintro (⟨a,b⟩|⟨a,b,c,d⟩)<;>omega
  ·rw [once_w f hf (t-8) (by omega),third_w (t-8) (by omega)];simp only [h8,decide_false,Bool.not_false,Bool.true_and,Bool.or_eq_true,Bool.and_eq_true,decide_eq_true_eq,hd t ht,hd (t-8) (by omega)];constructor
   ·rintro (⟨a,b⟩|⟨⟨⟨a,b⟩,c⟩,d⟩)
    ·left;rw [<-a];exact ⟨rfl,b⟩
    ·right;have e1:f+8=t-8:=by omega
     have e2:f+16=t:=by omega
     rw [e1,e2];exact ⟨by omega,rfl,b,d⟩
   ·rintro (⟨a,b⟩|⟨a,b,c,d⟩)
    ·left;rw [<-a] at b;exact ⟨a,b⟩
    ·right;have e1:f+8=t-8:=by omega
     have e2:f+16=t:=by omega
     rw [e1] at c;rw [e2] at d;exact ⟨⟨⟨by omega,c⟩,by omega⟩,d⟩
theorem beh_bit {b:Int} (h0:-1<=b) (h1:b<=63) {t:Nat} (ht:t<64):(behB b).getLsbD t=((t:Int)==b):=by
 unfold behB;split
 ·rw [jy b.toNat (by omega) t ht];rw [Bool.eq_iff_iff,decide_eq_true_eq,beq_iff_eq];omega
 ·rw [BitVec.getLsbD_zero];symm;rw [beq_eq_false_iff_ne];omega
theorem targ_pawn {z:Nat->UInt8} {wh:Bool} {fc:Nat->Bool} {b:Int} (hC:Can z wh fc b) (h0:-1<=b) (h1:b<=63) {f t:Nat} (hf:f<64) (ht:t<64) (hc:ixc (z f)=((bg wh:Nat):Int)) :
  t∈tgL z wh fc b f↔(targB (layS z 64) wh (sideB (layS z 64) wh) (sideB (layS z 64) (!wh)) (behB b) fc 0 (kndN wh 0) f).getLsbD t=true:=by
 have hok:=hC.ok;have hr:=hC.pw wh f hf hc;obtain ⟨hp,hk⟩:=zp (i:=0) (by omega) hc;rw [decide_eq_true rfl] at hp;unfold tgL targB;rw [hp,if_pos rfl,if_pos rfl,List.mem_append,BitVec.getLsbD_or,Bool.or_eq_true,qzc hf hr,ah_bits hok hf ht hr,own_oth,BitVec.getLsbD_and,qjm hok (by omega) hf ht,BitVec.getLsbD_or,man_bit hok (!wh) ht,beh_bit h0 h1 ht,Bool.and_eq_true,List.mem_filter,<-qqy hf (i:=0) (by omega) hc ht];unfold mayB;rw [hp,if_pos rfl,Bool.or_comm]
theorem qq7 {z:Nat->UInt8} {bb:Bool} (h:kinR z bb 64=1) {f g:Nat} (hf:f<64) (hg:g<64) (ef:ixc (z f)=((bg bb+5:Nat):Int)) (eg:ixc (z g)=((bg bb+5:Nat):Int)):f=g:=by
 obtain ⟨y,hy,hs,_⟩:=zg h
 have mem:∀ n,n<64->ixc (z n)=((bg bb+5:Nat):Int)->n=y:=fun n hn e=>by
  have:n∈sqs (layS z 64 (bg bb+5)):=by
   unfold sqs;rw [List.mem_filter,List.mem_range,lay64 z _ n hn];exact ⟨hn,decide_eq_true e⟩
  rw [hs] at this;exact List.mem_singleton.1 this
 rw [mem f hf ef,mem g hg eg]
def hK (i:Nat):Nat:=if i<2 then 4 else 60
def hD (i:Nat):Int:=if i%2=0 then 1 else -1
def hN (i:Nat):Nat:=if i%2=0 then 2 else 3
theorem wit_bits:∀ i,i<4->∀ n,n<64->(casW i).getLsbD n=((List.range (hN i)).any fun j=>decide (sqK (hK i) (hD i) (j+1)=n)):=by decide +kernel
theorem wit_lt:∀ i,i<4->∀ j,j<5->(j<hN i+1)->sqK (hK i) (hD i) j<64:=by decide +kernel
theorem x_sqs:∀ i,i<4->∀ y,y<64->(casX i).getLsbD y=((List.range 3).any fun j=>decide (sqK (hK i) (hD i) j=y)):=by decide +kernel
theorem cas_same {z:Nat->UInt8} (hok:layOk z=true) {wh:Bool} {fc:Nat->Bool} {i:Nat} (hi:i<4) (hw:wh=decide (i<2)):casOk (layS z 64) wh (sideB (layS z 64) wh) (sideB (layS z 64) (!wh)) fc i=(fc i&&mcB z wh (hK i) (hD i) (hN i)):=by
 have e1:decide (takenB (layS z 64) &&& casW i=0#64)=mcE z (hK i) (hD i) (hN i):=by
  rw [Bool.eq_iff_iff,decide_eq_true_eq,qka];unfold mcE;rw [List.all_eq_true];constructor
  ·intro h j hj;have hj:=List.mem_range.1 hj;have hN3:hN i<=3:=by unfold hN;split<;>omega
   have hl:=wit_lt i hi (j+1) (by omega) (by omega);have:=h _ hl;rw [BitVec.getLsbD_and,dot_bit hok hl,wit_bits i hi _ hl] at this;have hany:((List.range (hN i)).any fun j'=>decide (sqK (hK i) (hD i) (j'+1)=sqK (hK i) (hD i) (j+1)))=true:=List.any_eq_true.2 ⟨j,List.mem_range.2 hj,by simp⟩;rw [hany,Bool.and_true] at this;simpa using this
  ·intro h n hn;rw [BitVec.getLsbD_and,wit_bits i hi n hn];cases ha:((List.range (hN i)).any fun j=>decide (sqK (hK i) (hD i) (j+1)=n)) with
   | false=>rw [Bool.and_false]
   | true =>
    obtain ⟨j,hj,e⟩:=List.any_eq_true.1 ha;rw [decide_eq_true_eq] at e;have:=h j hj;rw [e] at this;rw [dot_bit hok hn,this];rfl
 have e2:(!(anyB (layS z 64) (casX i) wh))=mcA z wh (hK i) (hD i):=by
  unfold anyB mcA;rw [Bool.eq_iff_iff,Bool.not_eq_true',List.any_eq_false,List.all_eq_true];constructor
  ·intro h j hj;have hj:=List.mem_range.1 hj;have hl:=wit_lt i hi j (by omega) (by unfold hN;split<;>omega)
   have hm:sqK (hK i) (hD i) j∈sqs (casX i):=by
    unfold sqs;rw [List.mem_filter,List.mem_range,x_sqs i hi _ hl];exact ⟨hl,List.any_eq_true.2 ⟨j,List.mem_range.2 hj,by simp⟩⟩
   have:=h _ hm;rw [ja hok _ _ hl,<-jb hok hl] at this;simpa using this
  ·intro h y hy;unfold sqs at hy;rw [List.mem_filter,List.mem_range] at hy;rw [x_sqs i hi y hy.1] at hy;obtain ⟨j,hj,e⟩:=List.any_eq_true.1 hy.2;rw [decide_eq_true_eq] at e;have:=h j hj;rw [e] at this;rw [ja hok _ _ hy.1,<-jb hok hy.1];simpa using this
 unfold casOk mcB;rw [own_oth,e1,e2,hw];simp [Bool.and_assoc]
theorem casQ_bits (m:Nat->BitVec 64) (wh:Bool) (own oth:BitVec 64) (fc:Nat->Bool) {t:Nat} (ht:t<64):(casQ m wh own oth fc 4).getLsbD t=((List.range 4).any fun i=>casOk m wh own oth fc i&&decide (t=casT i)):=by
 have hT:∀ i,casT i<64:=fun i=>by unfold casT;split<;>(try split)<;>(try split)<;>omega
 have step:∀ k,(casQ m wh own oth fc (k+1)).getLsbD t=((casQ m wh own oth fc k).getLsbD t||(casOk m wh own oth fc k&&decide (t=casT k))):=fun k=>by
  show (if casOk m wh own oth fc k then casQ m wh own oth fc k ||| 1#64 <<< casT k else casQ m wh own oth fc k).getLsbD t=_;cases h:casOk m wh own oth fc k
  ·simp
  ·rw [if_pos rfl,BitVec.getLsbD_or,jy _ (hT k) t ht,Bool.true_and]
 rw [step,step,step,step];show ((((0#64).getLsbD t||_)||_)||_||_)=_;rw [BitVec.getLsbD_zero];simp [List.range_succ,Bool.or_assoc]
theorem zr {z:Nat->UInt8} {wh:Bool} {fc:Nat->Bool} {b:Int} (hC:Can z wh fc b) {f:Nat} (hf:f<64) (hc:ixc (z f)=((bg wh+5:Nat):Int)):(fc (cgF wh)=true->f=hK (cgF wh))/\(fc (cgF wh+1)=true->f=hK (cgF wh+1)):=by
 have k75:ixc 75=((bg true+5:Nat):Int):=by decide +kernel
 have k107:ixc 107=((bg false+5:Nat):Int):=by decide +kernel
 cases wh
 ·exact ⟨fun h=>qq7 (hC.k1 false) hf (by decide) hc (by rw [show hK (cgF false)=60 from rfl,(hC.c2 h).1];exact k107),fun h=>qq7 (hC.k1 false) hf (by decide) hc (by rw [show hK (cgF false+1)=60 from rfl,(hC.c3 h).1];exact k107)⟩
 ·exact ⟨fun h=>qq7 (hC.k1 true) hf (by decide) hc (by rw [show hK (cgF true)=4 from rfl,(hC.c0 h).1];exact k75),fun h=>qq7 (hC.k1 true) hf (by decide) hc (by rw [show hK (cgF true+1)=4 from rfl,(hC.c1 h).1];exact k75)⟩
theorem cas_list {z:Nat->UInt8} {wh:Bool} {fc:Nat->Bool} {b:Int} (hC:Can z wh fc b) {f t:Nat} (hf:f<64) (ht:t<64) (hc:ixc (z f)=((bg wh+5:Nat):Int)):t∈cgR z wh fc f++cgM z wh fc f↔(casQ (layS z 64) wh (sideB (layS z 64) wh) (sideB (layS z 64) (!wh)) fc 4).getLsbD t=true:=by
 obtain ⟨h1,h2⟩:=zr hC hf hc
 have off:∀ i,wh≠decide (i<2)->casOk (layS z 64) wh (sideB (layS z 64) wh) (sideB (layS z 64) (!wh)) fc i=false:=fun i h=>by
  unfold casOk;have:(wh==decide (i<2))=false:=beq_eq_false_iff_ne.2 h;rw [this];simp
 rw [casQ_bits _ _ _ _ _ ht,List.mem_append]
 have hR:t∈cgR z wh fc f↔(fc (cgF wh)&&mcB z wh (hK (cgF wh)) (hD (cgF wh)) (hN (cgF wh)))=true/\t=casT (cgF wh):=by
  unfold cgR;cases hfc:fc (cgF wh) with
  | false=>simp
  | true =>
   have:=h1 hfc;subst this;have e:hK (cgF wh)+2=casT (cgF wh)/\hD (cgF wh)=1/\hN (cgF wh)=2:=by cases wh<;>decide
   rw [e.1,e.2.1,e.2.2];split
   ·rename_i hh;rw [hh];simp
   ·rename_i hh;simp only [Bool.not_eq_true] at hh;rw [hh];simp
 have hM:t∈cgM z wh fc f↔(fc (cgF wh+1)&&mcB z wh (hK (cgF wh+1)) (hD (cgF wh+1)) (hN (cgF wh+1)))=true/\t=casT (cgF wh+1):=by
  unfold cgM;cases hfc:fc (cgF wh+1) with
  | false=>simp
  | true =>
   have:=h2 hfc;subst this;have e:hK (cgF wh+1)-2=casT (cgF wh+1)/\hD (cgF wh+1)=-1/\hN (cgF wh+1)=3:=by cases wh<;>decide
   rw [e.1,e.2.1,e.2.2];split
   ·rename_i hh;rw [hh];simp
   ·rename_i hh;simp only [Bool.not_eq_true] at hh;rw [hh];simp
 rw [hR,hM,<-cas_same hC.ok (by cases wh<;>decide) (by cases wh<;>rfl),<-cas_same hC.ok (by cases wh<;>decide) (by cases wh<;>rfl)]
 rw [List.any_eq_true];constructor
 ·rintro (⟨a,e⟩|⟨a,e⟩)
  ·exact ⟨cgF wh,by cases wh<;>decide,by rw [a,e];simp⟩
  ·exact ⟨cgF wh+1,by cases wh<;>decide,by rw [a,e];simp⟩
 ·rintro ⟨i,hi,h⟩;rw [Bool.and_eq_true,decide_eq_true_eq] at h;have hi:=List.mem_range.1 hi;by_cases hw:wh=decide (i<2)
  ·have:i=cgF wh\/i=cgF wh+1:=by
    cases wh
    ·have:¬ i<2:=by simpa using hw.symm
     show i=2\/i=3;omega
    ·have:i<2:=by simpa using hw.symm
     show i=0\/i=1;omega
   rcases this with e|e
   ·rw [e] at h;exact .inl h
   ·rw [e] at h;exact .inr h
  ·rw [off i hw] at h;exact absurd h.1 (by simp)
theorem targ_king {z:Nat->UInt8} {wh:Bool} {fc:Nat->Bool} {b:Int} (hC:Can z wh fc b) {f t:Nat} (hf:f<64) (ht:t<64) (hc:ixc (z f)=((bg wh+5:Nat):Int)) :
  t∈tgL z wh fc b f↔(targB (layS z 64) wh (sideB (layS z 64) wh) (sideB (layS z 64) (!wh)) (behB b) fc 5 (kndN wh 5) f).getLsbD t=true:=by
 have hok:=hC.ok;obtain ⟨hp,hk⟩:=zp (i:=5) (by omega) hc;rw [decide_eq_false (by omega)] at hp;rw [decide_eq_true rfl] at hk;have hcl:=cas_list hC hf ht hc;unfold tgL targB;rw [hp,hk,if_neg (by simp),if_pos rfl,if_neg (by omega),if_pos rfl,List.mem_append,BitVec.getLsbD_or,Bool.or_eq_true,hcl,own_oth,BitVec.getLsbD_and,qjm hok (by omega) hf ht,qvw _ ht,man_bit hok wh ht,Bool.and_eq_true,List.mem_filter,<-qqy hf (i:=5) (by omega) hc ht];unfold mayB;rw [hp,if_neg (by simp)]
theorem targ_same {z:Nat->UInt8} {wh:Bool} {fc:Nat->Bool} {b:Int} (hC:Can z wh fc b) (h0:-1<=b) (h1:b<=63) {i f t:Nat} (hi:i<6) (hf:f<64) (ht:t<64) (hc:ixc (z f)=((bg wh+i:Nat):Int)) :
  t∈tgL z wh fc b f↔(targB (layS z 64) wh (sideB (layS z 64) wh) (sideB (layS z 64) (!wh)) (behB b) fc i (kndN wh i) f).getLsbD t=true:=by
 by_cases e0:i=0
 ·subst e0;exact targ_pawn hC h0 h1 hf ht hc
 ·by_cases e5:i=5
  ·subst e5;exact targ_king hC hf ht hc
  ·exact targ_mid hC.ok e0 e5 hi hf ht hc
structure Plain (z:Nat->UInt8) (wh:Bool) (b:Int) (i f t:Nat) (u:UInt8) (cs:Nat):Prop where
 hi:i<6
 hf:f<64
 ht:t<64
 hc:ixc (z f)=((bg wh+i:Nat):Int)
 no:coc (z t)≠sdb wh
 nep:¬ (i=0/\(t:Int)=b)->cs=t
 ep:i=0->(t:Int)=b->z t=46/\cs<64/\cs=f/8*8+t%8/\(if wh then cs+8=t else cs=t+8)/\ixc (z cs)=((bg (!wh):Nat):Int)
 tr:∃ q,q<6/\ixc (trn (z f) u)=((bg wh+q:Nat):Int)/\(q=5↔i=5)
theorem zu (wh:Bool):(bg wh=0/\bg (!wh)=6)\/(bg wh=6/\bg (!wh)=0):=by cases wh<;>simp [bg]
theorem xt {c:UInt8} {wh:Bool} {q:Nat} (hq:q<6) (h:ixc c=((bg wh+q:Nat):Int)):coc c=sdb wh:=(qv6 hq h).1
theorem qv7 (wh:Bool):sdb wh≠sdb (!wh):=by cases wh<;>decide
theorem dot_ix:ixc 46=-1:=ib_dot
def Beh (z:Nat->UInt8) (f t:Nat) (u:UInt8) (cs:Nat) (Z:Nat->UInt8):Prop:=∀ n,Z n=if n=t then trn (z f) u else if n=f then 46 else if n=cs then 46 else z n
theorem pl_at {z:Nat->UInt8} {wh:Bool} {b:Int} {i f t cs:Nat} {u:UInt8} (h:Plain z wh b i f t u cs) (kg:i=5->t≠f+2/\t+2≠f):Beh z f t u cs (plZ z b (f,t,u)):=by
 intro n;obtain ⟨hp,hk⟩:=zp h.hi h.hc;unfold plZ;simp only;rw [hp,hk];by_cases hep:i=0/\(t:Int)=b
 ·obtain ⟨e1,e2⟩:=hep;obtain ⟨z0,hcs,e3,e4,e5⟩:=h.ep e1 e2;have hct:cs≠t:=by cases wh<;>simp at e4<;>omega
  rw [if_pos (by simp [e1,e2]),<-e3];unfold upd;by_cases c1:n=t
  ·subst c1;rw [if_neg (fun e=>hct e.symm),if_pos rfl,if_pos rfl]
  ·rw [if_neg c1,if_neg c1];by_cases c2:n=cs
   ·rw [if_pos c2];by_cases c3:n=f
    ·rw [if_pos c3]
    ·rw [if_neg c3,if_pos c2]
   ·rw [if_neg c2];by_cases c3:n=f
    ·rw [if_pos c3,if_pos c3]
    ·rw [if_neg c3,if_neg c3,if_neg c2]
 ·have hcs:=h.nep hep;rw [if_neg (by simpa using hep)]
  have k1:(decide (i=5)&&(t==f+2))=false:=by
   by_cases e:i=5
   ·simp [(kg e).1]
   ·simp [e]
  have k2:(decide (i=5)&&(t+2==f))=false:=by
   by_cases e:i=5
   ·simp [(kg e).2]
   ·simp [e]
  rw [k1,k2,if_neg (by simp),if_neg (by simp)];unfold upd;rw [hcs];by_cases c1:n=t
  ·rw [if_pos c1,if_pos c1]
  ·rw [if_neg c1,if_neg c1,if_neg c1]
theorem beh_eq {b:Int} (h0:-1<=b) (h1:b<=63) {t:Nat} (ht:t<64):1#64 <<< t=behB b↔(t:Int)=b:=by
 constructor
 ·intro h;have:=beh_bit h0 h1 ht;rw [<-h,jy t ht t ht] at this;simpa using this.symm
 ·intro h;unfold behB;rw [if_pos (by omega)];congr 1;omega
theorem gone_bit {z:Nat->UInt8} {wh:Bool} {b:Int} {i f t cs:Nat} {u:UInt8} (h:Plain z wh b i f t u cs) (h0:-1<=b) (h1:b<=63) {n:Nat} (hn:n<64):(goneB wh (behB b) i t).getLsbD n=decide (n=cs):=by
 have hbe:=beh_eq h0 h1 h.ht;unfold goneB;by_cases hep:i=0/\(t:Int)=b
 ·rw [if_pos ⟨hep.1,hbe.2 hep.2⟩];obtain ⟨z0,hcs,e3,e4,e5⟩:=h.ep hep.1 hep.2;rw [<-(beh_eq h0 h1 h.ht).2 hep.2];cases wh
  ·show ((1#64 <<< t) <<< 8).getLsbD n=_;simp at e4;rw [BitVec.getLsbD_shiftLeft];by_cases h8:n<8
   ·simp [h8];omega
   ·rw [jy t h.ht (n-8) (by omega)];rw [Bool.eq_iff_iff];simp [hn,h8];omega
  ·show ((1#64 <<< t) >>> 8).getLsbD n=_;simp at e4;rw [BitVec.getLsbD_ushiftRight];by_cases h8:8+n<64
   ·rw [jy t h.ht (8+n) h8,Bool.eq_iff_iff,decide_eq_true_eq,decide_eq_true_eq];omega
   ·rw [BitVec.getLsbD_of_ge _ _ (by omega)]
    symm;rw [decide_eq_false_iff_not];have:=h.ht;omega
 ·rw [if_neg (fun k=>hep ⟨k.1,hbe.1 k.2⟩),jy t h.ht n hn,h.nep hep]
theorem jk {z:Nat->UInt8} {wh:Bool} {b:Int} {i f t cs:Nat} {u:UInt8} (h:Plain z wh b i f t u cs) (h0:-1<=b) (h1:b<=63) (p:Nat) {n:Nat} (hn:n<64) :
  (afterB (layS z 64) wh (behB b) i f t p).getLsbD n=if p=bg wh+i then (decide (ixc (z n)=(p:Int)) ^^ (decide (n=f)||decide (n=t))) else if bg (!wh)<=p/\p<bg (!wh)+6 then decide (ixc (z n)=(p:Int))&&!decide (n=cs) else decide (ixc (z n)=(p:Int)):=by
 have hb:=zu wh;have hi:=h.hi;unfold afterB cutB;by_cases e:p=bg wh+i
 ·rw [if_pos e,if_pos e,if_neg (by omega),BitVec.getLsbD_xor,BitVec.getLsbD_or,jy f h.hf n hn,jy t h.ht n hn,lay64 z p n hn]
 ·rw [if_neg e,if_neg e];by_cases e2:bg (!wh)<=p/\p<bg (!wh)+6
  ·rw [if_pos e2,if_pos e2,BitVec.getLsbD_and,qvw _ hn,gone_bit h h0 h1 hn,lay64 z p n hn]
  ·rw [if_neg e2,if_neg e2,lay64 z p n hn]
theorem Plain.ft {z:Nat->UInt8} {wh:Bool} {b:Int} {i f t cs:Nat} {u:UInt8} (h:Plain z wh b i f t u cs):f≠t:=by
 rintro rfl;exact h.no (xt h.hi h.hc)
section
variable {z:Nat->UInt8} {wh:Bool} {b:Int} {i f t cs:Nat} {u:UInt8} {Z:Nat->UInt8}
theorem Plain.cf (h:Plain z wh b i f t u cs):cs≠f:=by
 rintro rfl;by_cases hep:i=0/\(t:Int)=b
 ·obtain ⟨z0,hcs,e3,e4,e5⟩:=h.ep hep.1 hep.2;have:=h.hc;have hb:=zu wh;have hi:=h.hi;omega
 ·exact h.ft (h.nep hep)
theorem Plain.cz (h:Plain z wh b i f t u cs) (hne:cs≠t):ixc (z cs)=((bg (!wh):Nat):Int)/\z t=46:=by
 by_cases hep:i=0/\(t:Int)=b
 ·obtain ⟨z0,hcs,e3,e4,e5⟩:=h.ep hep.1 hep.2;exact ⟨e5,z0⟩
 ·exact absurd (h.nep hep) hne
theorem qjr (h:Plain z wh b i f t u cs) (hZ:Beh z f t u cs Z) (h0:-1<=b) (h1:b<=63) {j:Nat} (hj:j<6):afterB (layS z 64) wh (behB b) i f t (bg (!wh)+j)=layS Z 64 (bg (!wh)+j):=by
 have hb:=zu wh;have hi:=h.hi;obtain ⟨q,hq,hq1,_⟩:=h.tr;have hc:=h.hc;apply BitVec.eq_of_getLsbD_eq;intro n hn;rw [jk h h0 h1 _ hn,if_neg (by omega),if_pos (by omega),lay64 _ _ n hn,hZ n];by_cases c1:n=t
 ·subst c1;rw [if_pos rfl,hq1];have e1:decide (((bg wh+q:Nat):Int)=((bg (!wh)+j:Nat):Int))=false:=decide_eq_false (by omega);rw [e1];by_cases hct:cs=n
  ·simp [hct]
  ·have:=(h.cz hct).2;rw [this,dot_ix,decide_eq_false (by omega)];rfl
 ·rw [if_neg c1];by_cases c2:n=f
  ·subst c2;rw [if_pos rfl,dot_ix,hc,decide_eq_false (by omega),Bool.false_and];symm;exact decide_eq_false (by omega)
  ·rw [if_neg c2];by_cases c3:n=cs
   ·rw [if_pos c3,dot_ix,decide_eq_true c3,Bool.not_true,Bool.and_false];symm;exact decide_eq_false (by omega)
   ·rw [if_neg c3,decide_eq_false c3];simp
theorem orB_bit_any (m:Nat->BitVec 64) (base:Nat) (n:Nat):∀ k,(orB m base k).getLsbD n=(List.range k).any fun j=>(m (base+j)).getLsbD n
 | 0=>by show (0#64).getLsbD n=_;rw [BitVec.getLsbD_zero];rfl
 | k+1=>by
   show (orB m base k ||| m (base+k)).getLsbD n=_;rw [BitVec.getLsbD_or,orB_bit_any m base n k,List.range_succ,List.any_append];simp
theorem okZ (h:Plain z wh b i f t u cs) (hZ:Beh z f t u cs Z) (hok:layOk z=true):layOk Z=true:=by
 obtain ⟨q,hq,hq1,_⟩:=h.tr;refine qqj fun n hn=>?_
 rw [hZ n];split
 ·rw [ok_ix,hq1,Bool.or_eq_true];right;exact decide_eq_true (by omega)
 ·split
  ·rfl
  ·split
   ·rfl
   ·exact ji hok hn
theorem taken_after (h:Plain z wh b i f t u cs) (hZ:Beh z f t u cs Z) (h0:-1<=b) (h1:b<=63):takenB (afterB (layS z 64) wh (behB b) i f t)=takenB (layS Z 64):=by
 have hb:=zu wh;have hi:=h.hi;have hc:=h.hc;obtain ⟨q,hq,hq1,_⟩:=h.tr;rw [<-own_oth _ wh,<-own_oth _ wh]
 have e2:sideB (afterB (layS z 64) wh (behB b) i f t) (!wh)=sideB (layS Z 64) (!wh):=by
  unfold sideB;apply BitVec.eq_of_getLsbD_eq;intro n hn;rw [orB_bit_any,orB_bit_any,Bool.eq_iff_iff,List.any_eq_true,List.any_eq_true];constructor<;>rintro ⟨j,hj,h'⟩<;>refine ⟨j,hj,?_⟩
  ·rw [<-qjr h hZ h0 h1 (List.mem_range.1 hj)];exact h'
  ·rw [qjr h hZ h0 h1 (List.mem_range.1 hj)];exact h'
 have e1:sideB (afterB (layS z 64) wh (behB b) i f t) wh=sideB (layS Z 64) wh:=by
  unfold sideB;apply BitVec.eq_of_getLsbD_eq;intro n hn;rw [orB_bit_any,orB_bit_any,Bool.eq_iff_iff,List.any_eq_true,List.any_eq_true];by_cases c1:n=t
  ·subst c1;constructor
   ·rintro _;refine ⟨q,List.mem_range.2 hq,?_⟩;rw [lay64 _ _ n hn,hZ n,if_pos rfl,hq1];simp
   ·rintro _;refine ⟨i,List.mem_range.2 hi,?_⟩;rw [jk h h0 h1 _ hn,if_pos rfl];have:ixc (z n)≠((bg wh+i:Nat):Int):=fun e=>h.no (xt hi e)
    rw [decide_eq_false this];simp
  ·by_cases c2:n=f
   ·subst c2;constructor
    ·rintro ⟨j,hj,h'⟩;have hj:=List.mem_range.1 hj;rw [jk h h0 h1 _ hn,hc] at h';by_cases ej:j=i
     ·subst ej;simp at h'
     ·rw [if_neg (by omega),if_neg (by omega),decide_eq_true_eq] at h';omega
    ·rintro ⟨j,hj,h'⟩;rw [lay64 _ _ n hn,hZ n,if_neg c1,if_pos rfl,dot_ix,decide_eq_true_eq] at h';omega
   ·constructor
    ·rintro ⟨j,hj,h'⟩;have hj':=List.mem_range.1 hj;refine ⟨j,hj,?_⟩;rw [jk h h0 h1 _ hn] at h'
     have h2:ixc (z n)=((bg wh+j:Nat):Int):=by
      by_cases ej:j=i
      ·subst ej;rw [if_pos rfl] at h';simpa [c1,c2] using h'
      ·rw [if_neg (by omega),if_neg (by omega),decide_eq_true_eq] at h';exact h'
     have c3:n≠cs:=by
      rintro rfl;have:=(h.cz c1).1;omega
     rw [lay64 _ _ n hn,hZ n,if_neg c1,if_neg c2,if_neg c3];exact decide_eq_true h2
    ·rintro ⟨j,hj,h'⟩;have hj':=List.mem_range.1 hj;refine ⟨j,hj,?_⟩;rw [lay64 _ _ n hn,hZ n,if_neg c1,if_neg c2] at h';by_cases c3:n=cs
     ·rw [if_pos c3,dot_ix,decide_eq_true_eq] at h';omega
     ·rw [if_neg c3,decide_eq_true_eq] at h';rw [jk h h0 h1 _ hn,h'];by_cases ej:j=i
      ·subst ej;rw [if_pos rfl];simp [c1,c2]
      ·rw [if_neg (by omega),if_neg (by omega)];simp
 rw [e1,e2]
theorem qzg {m m':Nat->BitVec 64} {bw:Bool} (ht:takenB m=takenB m') (hm:∀ j,j<6->m (bg bw+j)=m' (bg bw+j)) (y:Int):attackedS m y bw=attackedS m' y bw:=by
 unfold attackedS;rw [Bool.eq_iff_iff,List.any_eq_true,List.any_eq_true]
 have e:∀ j,j∈List.range 6->seesI m y bw j=seesI m' y bw j:=fun j hj=>by
  unfold seesI;rw [ht,hm j (List.mem_range.1 hj)]
 constructor<;>rintro ⟨j,hj,h⟩<;>refine ⟨j,hj,?_⟩
 ·rw [<-e j hj];exact h
 ·rw [e j hj];exact h
theorem qz4 (h:Plain z wh b i f t u cs) (hZ:Beh z f t u cs Z) (h0:-1<=b) (h1:b<=63):afterB (layS z 64) wh (behB b) i f t (bg wh+5)=layS Z 64 (bg wh+5):=by
 have hb:=zu wh;have hi:=h.hi;have hc:=h.hc;obtain ⟨q,hq,hq1,hq5⟩:=h.tr;apply BitVec.eq_of_getLsbD_eq;intro n hn;rw [jk h h0 h1 _ hn,lay64 _ _ n hn,hZ n];by_cases c1:n=t
 ·subst c1;have hno:∀ j,j<6->ixc (z n)≠((bg wh+j:Nat):Int):=fun j hj e=>h.no (xt hj e)
  rw [if_pos rfl,hq1,decide_eq_false (hno 5 (by omega))];by_cases e:i=5
  ·rw [if_pos (by omega),hq5.2 e];simp
  ·rw [if_neg (by omega),if_neg (by omega)]
   symm;exact decide_eq_false (by have:q≠5:=fun k=>e (hq5.1 k);omega)
 ·rw [if_neg c1];by_cases c2:n=f
  ·subst c2;rw [if_pos rfl,dot_ix,hc];by_cases e:i=5
   ·rw [if_pos (by omega),e];simp;omega
   ·rw [if_neg (by omega),if_neg (by omega),decide_eq_false (by omega)]
    symm;exact decide_eq_false (by omega)
  ·rw [if_neg c2];have e1:(decide (n=f)||decide (n=t))=false:=by simp [c1,c2]
   rw [e1,Bool.xor_false,if_neg (c:=bg (!wh)<=bg wh+5/\bg wh+5<bg (!wh)+6) (by omega)];have e2:(if bg wh+5=bg wh+i then decide (ixc (z n)=((bg wh+5:Nat):Int)) else decide (ixc (z n)=((bg wh+5:Nat):Int)))=decide (ixc (z n)=((bg wh+5:Nat):Int)):=by split<;>rfl
   rw [e2];by_cases c3:n=cs
   ·subst c3;rw [if_pos rfl,dot_ix,(h.cz c1).1,decide_eq_false (by omega)]
    symm;exact decide_eq_false (by omega)
   ·rw [if_neg c3]
theorem kin_after (h:Plain z wh b i f t u cs) (hZ:Beh z f t u cs Z) (hk:kinR z wh 64=1) (h0:-1<=b) (h1:b<=63):kinR Z wh 64=1:=by
 have hb:=zu wh;have hi:=h.hi;have hc:=h.hc;rw [<-kings_len,<-qz4 h hZ h0 h1];obtain ⟨y,hy,hs,hR⟩:=zg hk
 have mem:∀ n,n<64->(ixc (z n)=((bg wh+5:Nat):Int)↔n=y):=fun n hn=>by
  have:n∈sqs (layS z 64 (bg wh+5))↔n=y:=by rw [hs];simp
  unfold sqs at this;rw [List.mem_filter,List.mem_range,lay64 z _ n hn,decide_eq_true_eq] at this;constructor
  ·intro e;exact this.1 ⟨hn,e⟩
  ·intro e;exact (this.2 e).2
 have one:∀ w:Nat,w<64->((List.range 64).filter fun n=>decide (n=w))=[w]:=by decide +kernel
 have key:∃ w,w<64/\∀ n,n<64->(afterB (layS z 64) wh (behB b) i f t (bg wh+5)).getLsbD n=decide (n=w):=by
  by_cases e:i=5
  ·refine ⟨t,h.ht,fun n hn=>?_⟩;subst e;have hfy:=(mem f h.hf).1 hc;rw [jk h h0 h1 _ hn,if_pos rfl];have e1:decide (ixc (z n)=((bg wh+5:Nat):Int))=decide (n=f):=by rw [Bool.eq_iff_iff,decide_eq_true_eq,decide_eq_true_eq,mem n hn,hfy]
   rw [e1];have hft:=h.ft;by_cases c1:n=f
   ·have:n≠t:=fun k=>hft (c1.symm.trans k)
    simp [c1,hft]
   ·simp [c1]
  ·refine ⟨y,hy,fun n hn=>?_⟩;rw [jk h h0 h1 _ hn,if_neg (by omega),if_neg (by omega),Bool.eq_iff_iff,decide_eq_true_eq,decide_eq_true_eq];exact mem n hn
 obtain ⟨w,hw,hbit⟩:=key
 have:sqs (afterB (layS z 64) wh (behB b) i f t (bg wh+5))=[w]:=by
  unfold sqs;rw [qqw _ (fun n hn=>hbit n (List.mem_range.1 hn)),one w hw]
 rw [this];rfl
theorem legal_is (h:Plain z wh b i f t u cs) (hZ:Beh z f t u cs Z) (hok:layOk z=true) (hk:kinR z wh 64=1) (h0:-1<=b) (h1:b<=63):layOk Z=true/\∃ y:Nat,y<64/\kingR Z wh=(y:Int)/\legalB (layS z 64) wh (behB b) i f t=!(attLB Z y (!wh)):=by
 have hok':=okZ h hZ hok;obtain ⟨y,hy,hs,hR⟩:=zg (kin_after h hZ hk h0 h1);refine ⟨hok',y,hy,hR,?_⟩;unfold legalB anyB;rw [qz4 h hZ h0 h1,hs]
 have e:attackedS (afterB (layS z 64) wh (behB b) i f t) (y:Int) (!wh)=attLB Z y (!wh):=by
  rw [qzg (taken_after h hZ h0 h1) (fun j hj=>qjr h hZ h0 h1 hj),ja hok' _ _ hy,jb hok' hy]
 simp [e]
theorem legal_plain (h:Plain z wh b i f t u cs) (kg:i=5->t≠f+2/\t+2≠f) (hok:layOk z=true) (hk:kinR z wh 64=1) (h0:-1<=b) (h1:b<=63):(∃ y:Nat,y<64/\kingR (plZ z b (f,t,u)) wh=(y:Int))/\legalB (layS z 64) wh (behB b) i f t=letP z wh b (f,t,u):=by
 obtain ⟨_,y,hy,hR,e⟩:=legal_is h (pl_at h kg) hok hk h0 h1;refine ⟨⟨y,hy,hR⟩,?_⟩;rw [e];unfold letP;rw [hR];rfl
end
def past (i n:Nat):Bool:=if i%2=0 then decide (n<hK i) else decide (hK i<n)
theorem off_path:∀ i,i<4->∀ n,n<64->n/8≠casT i/8->(stI ((n:Nat):Int) ((casT i:Nat):Int)||slI ((n:Nat):Int) ((casT i:Nat):Int))=true->((List.range (LI ((n:Nat):Int) ((casT i:Nat):Int))).all fun j=>decide (j=0)||decide ((pI ((n:Nat):Int) ((casT i:Nat):Int) j).toNat/8≠casT i/8)&&decide ((pI ((n:Nat):Int) ((casT i:Nat):Int) j).toNat<64))=true:=by decide +kernel
theorem on_path:∀ i,i<4->∀ n,n<64->n/8=casT i/8->past i n=true->(stI ((n:Nat):Int) ((hK i:Nat):Int)&&decide (LI ((n:Nat):Int) ((hK i:Nat):Int)<=LI ((n:Nat):Int) ((casT i:Nat):Int))&&(List.range (LI ((n:Nat):Int) ((hK i:Nat):Int))).all fun j=>decide (j=0)||decide (pI ((n:Nat):Int) ((casT i:Nat):Int) j=pI ((n:Nat):Int) ((hK i:Nat):Int) j)&&past i (pI ((n:Nat):Int) ((hK i:Nat):Int) j).toNat&&decide ((pI ((n:Nat):Int) ((hK i:Nat):Int) j).toNat/8=casT i/8)&&decide ((pI ((n:Nat):Int) ((hK i:Nat):Int) j).toNat<64))=true:=by decide +kernel
theorem on_near:∀ i,i<4->∀ n,n<64->n/8=casT i/8->past i n=true->∀ bw:Bool,(attI (fun _=>46) 0 (sdb bw) ((n:Nat):Int) ((casT i:Nat):Int)||attI (fun _=>46) 1 (sdb bw) ((n:Nat):Int) ((casT i:Nat):Int)||attI (fun _=>46) 2 (sdb bw) ((n:Nat):Int) ((casT i:Nat):Int)||attI (fun _=>46) 5 (sdb bw) ((n:Nat):Int) ((casT i:Nat):Int))=false:=by decide +kernel
theorem qxl {f:Nat->Int} {k:Nat} {s x y:Int} (h:attI f k s x y=true):attI (fun _=>46) k s x y=true/\((k=2\/k=3\/k=4)->(stI x y||slI x y)=true/\freeI f (pI x y) (LI x y)=true):=by
 have hfr:freeI (fun _=>46) (pI x y) (LI x y)=true:=by unfold freeI;exact decide_eq_true fun _ _ _=>rfl
 unfold attI at h ⊢;by_cases k0:k=0
 ·simp only [k0,if_true] at h ⊢;exact ⟨h,by omega⟩
 ·by_cases k1:k=1
  ·subst k1;simp only [k0,if_false,if_true] at h ⊢;exact ⟨h,by omega⟩
  ·by_cases k2:k=2
   ·subst k2;simp only [k0,k1,if_false,if_true,Bool.and_eq_true] at h ⊢;exact ⟨⟨h.1,hfr⟩,fun _=>⟨by rw [h.1];simp,h.2⟩⟩
   ·by_cases k3:k=3
    ·subst k3;simp only [k0,k1,k2,if_false,if_true,Bool.and_eq_true] at h ⊢;exact ⟨⟨h.1,hfr⟩,fun _=>⟨by rw [h.1];simp,h.2⟩⟩
    ·by_cases k4:k=4
     ·subst k4;simp only [k0,k1,k2,k3,if_false,if_true,Bool.and_eq_true] at h ⊢;exact ⟨⟨h.1,hfr⟩,fun _=>⟨h.1,h.2⟩⟩
     ·refine ⟨?_,fun hk=>by omega⟩;simp only [k0,k1,k2,k3,k4,if_false] at h ⊢;exact h
theorem attI_put {f:Nat->Int} {k:Nat} {s x y:Int} (h:attI (fun _=>46) k s x y=true) (hf:(k=2\/k=3\/k=4)->freeI f (pI x y) (LI x y)=true):attI f k s x y=true:=by
 unfold attI at h ⊢;by_cases k0:k=0
 ·simp only [k0,if_true] at h ⊢;exact h
 ·by_cases k1:k=1
  ·subst k1;simp only [k0,if_false,if_true] at h ⊢;exact h
  ·by_cases k2:k=2
   ·subst k2;simp only [k0,k1,if_false,if_true,Bool.and_eq_true] at h ⊢;exact ⟨h.1,hf (by omega)⟩
   ·by_cases k3:k=3
    ·subst k3;simp only [k0,k1,k2,if_false,if_true,Bool.and_eq_true] at h ⊢;exact ⟨h.1,hf (by omega)⟩
    ·by_cases k4:k=4
     ·subst k4;simp only [k0,k1,k2,k3,if_false,if_true,Bool.and_eq_true] at h ⊢;exact ⟨h.1,hf (by omega)⟩
     ·simp only [k0,k1,k2,k3,k4,if_false] at h ⊢;exact h
theorem cas_safe {z Zx:Nat->UInt8} (hok:layOk z=true) {wh:Bool} {i:Nat} (hi:i<4) (hm:mcA z wh (hK i) (hD i)=true)
  (ha:∀ n,n<64->n/8≠casT i/8->Zx n=z n) (hb:∀ n,n<64->n/8=casT i/8->past i n=true->Zx n=z n)
  (hc:∀ n,n<64->n/8=casT i/8->past i n=false->coc (Zx n)≠sdb (!wh)):attR Zx ((casT i:Nat):Int) (!wh)=false:=by
 have hKT:hK i<64/\casT i<64/\sqK (hK i) (hD i) 0=hK i/\sqK (hK i) (hD i) 2=casT i:=by
  have:i=0\/i=1\/i=2\/i=3:=by omega
  rcases this with rfl|rfl|rfl|rfl<;>decide
 unfold mcA at hm;rw [List.all_eq_true] at hm;have s0:=hm 0 (by decide);have s2:=hm 2 (by decide);rw [hKT.2.2.1,jb hok hKT.1,Bool.not_eq_true'] at s0;rw [hKT.2.2.2,jb hok hKT.2.1,Bool.not_eq_true'] at s2;cases hr:attR Zx ((casT i:Nat):Int) (!wh) with
 | false=>rfl
 | true =>
  exfalso
  unfold attR at hr;obtain ⟨n,hn,h⟩:=List.any_eq_true.1 hr;have hn:=List.mem_range.1 hn;rw [Bool.and_eq_true,decide_eq_true_eq] at h;obtain ⟨hco,hat⟩:=h;obtain ⟨at1,at2⟩:=qxl hat
  have fin:∀ y:Nat,attR z (y:Int) (!wh)=false->Zx n=z n->attI (zI z) (kdc (Zx n)).toNat (sdb (!wh)) (n:Int) (y:Int)=true->False:=fun y hy e ha=>by
   have:attR z (y:Int) (!wh)=true:=by
    unfold attR;refine List.any_eq_true.2 ⟨n,List.mem_range.2 hn,?_⟩;rw [Bool.and_eq_true,decide_eq_true_eq];exact ⟨by rw [<-e];exact hco,by rw [<-e];exact ha⟩
   rw [hy] at this;cases this
  by_cases hrk:n/8=casT i/8
  ·cases hp:past i n with
   | false=>exact hc n hn hrk hp hco
   | true =>
    have e:=hb n hn hrk hp;have hnear:=on_near i hi n hn hrk hp (!wh);have honp:=on_path i hi n hn hrk hp;simp only [Bool.and_eq_true,List.all_eq_true,Bool.or_eq_true,decide_eq_true_eq,List.mem_range] at honp;simp only [Bool.or_eq_false_iff] at hnear
    have kk:(kdc (Zx n)).toNat=3\/(kdc (Zx n)).toNat=4:=by
     generalize (kdc (Zx n)).toNat=k at at1;have hk5:k=0\/k=1\/k=2\/k=3\/k=4\/5<=k:=by omega
     rcases hk5 with rfl|rfl|rfl|rfl|rfl|h5
     ·rw [hnear.1.1.1] at at1;cases at1
     ·rw [hnear.1.1.2] at at1;cases at1
     ·rw [hnear.1.2] at at1;cases at1
     ·exact .inl rfl
     ·exact .inr rfl
     ·have:attI (fun _=>46) k (sdb (!wh)) (n:Int) ((casT i:Nat):Int)=attI (fun _=>46) 5 (sdb (!wh)) (n:Int) ((casT i:Nat):Int):=by
       unfold attI;simp only [show ¬ k=0 from by omega,show ¬ k=1 from by omega,show ¬ k=2 from by omega,show ¬ k=3 from by omega,show ¬ k=4 from by omega,if_false];rfl
      rw [this,hnear.2] at at1;cases at1
    obtain ⟨_,hfree⟩:=at2 (by omega);refine fin (hK i) s0 e ?_
    have hfz:freeI (zI z) (pI (n:Int) ((hK i:Nat):Int)) (LI (n:Int) ((hK i:Nat):Int))=true:=by
     unfold freeI at hfree ⊢;rw [decide_eq_true_eq] at hfree ⊢;intro j hj j1;rcases honp.2 j hj with q|q
     ·omega
     ·have h1:=hfree j (by have:=honp.1.2;omega) j1;rw [q.1.1.1] at h1;unfold zI at h1 ⊢;rw [<-hb _ q.2 q.1.2 q.1.1.2];exact h1
    rcases kk with k|k<;>(rw [k];simp [attI,honp.1.1,hfz])
  ·have e:=ha n hn hrk;refine fin (casT i) s2 e (attI_put at1 fun hk=>?_);obtain ⟨hl,hfree⟩:=at2 hk;have hoff:=off_path i hi n hn hrk hl;simp only [List.all_eq_true,Bool.or_eq_true,Bool.and_eq_true,decide_eq_true_eq,List.mem_range] at hoff;unfold freeI at hfree ⊢;rw [decide_eq_true_eq] at hfree ⊢;intro j hj j1;rcases hoff j hj with q|q
   ·omega
   ·have h1:=hfree j hj j1;unfold zI at h1 ⊢;rw [<-ha _ q.2 q.1];exact h1
def hR (i:Nat):Nat:=if i=0 then 7 else if i=1 then 0 else if i=2 then 63 else 56
def rN (i:Nat):Nat:=if i=0 then 5 else if i=1 then 3 else if i=2 then 61 else 59
theorem qvb {z:Nat->UInt8} {b:Int} {i:Nat} (hi:i<4) (hp:pawnB (z (hK i))=false) (hk:kingB (z (hK i))=true) (n:Nat):plZ z b (hK i,casT i,0) n=if n=hR i then 46 else if n=rN i then z (hR i) else if n=casT i then z (hK i) else if n=hK i then 46 else z n:=by
 have ht:trn (z (hK i)) 0=z (hK i):=by unfold trn;rw [if_pos rfl]
 have:i=0\/i=1\/i=2\/i=3:=by omega
 unfold plZ;simp only;rw [hp,hk,ht,Bool.false_and,if_neg (by simp)];rcases this with rfl|rfl|rfl|rfl
 ·rw [if_pos (by decide)];rfl
 ·rw [if_neg (by decide),if_pos (by decide)];rfl
 ·rw [if_pos (by decide)];rfl
 ·rw [if_neg (by decide),if_pos (by decide)];rfl
theorem za:∀ i,i<4->hK i<64/\casT i<64/\hR i<64/\rN i<64/\casT i/8=hK i/8/\past i (hK i)=false/\past i (casT i)=false/\past i (hR i)=false/\past i (rN i)=false/\hR i/8=hK i/8/\rN i/8=hK i/8/\casT i≠hK i/\hR i≠hK i/\rN i≠hK i/\hR i≠casT i/\rN i≠casT i/\rN i≠hR i:=by decide +kernel
theorem cas_line:∀ i,i<4->∀ n,n<64->n/8=casT i/8->past i n=false->(decide (n=hK i)||decide (n=hR i)||(List.range (hN i)).any fun j=>decide (sqK (hK i) (hD i) (j+1)=n))=true:=by decide +kernel
theorem cas_in:∀ i,i<4->((List.range (hN i)).any fun j=>decide (sqK (hK i) (hD i) (j+1)=casT i))=true/\((List.range (hN i)).any fun j=>decide (sqK (hK i) (hD i) (j+1)=rN i))=true:=by decide +kernel
structure Cas (z:Nat->UInt8) (wh:Bool) (i:Nat):Prop where
 hi:i<4
 w:wh=decide (i<2)
 k:ixc (z (hK i))=((bg wh+5:Nat):Int)
 r:ixc (z (hR i))=((bg wh+3:Nat):Int)
 e:mcE z (hK i) (hD i) (hN i)=true
 a:mcA z wh (hK i) (hD i)=true
theorem cas_of {z:Nat->UInt8} {wh:Bool} {fc:Nat->Bool} {b:Int} (hC:Can z wh fc b) {i:Nat} (hi:i<4) (hw:wh=decide (i<2)) (hf:fc i=true) (hm:mcB z wh (hK i) (hD i) (hN i)=true):Cas z wh i:=by
 unfold mcB at hm;rw [Bool.and_eq_true] at hm;have k75:ixc 75=((bg true+5:Nat):Int):=by decide +kernel
 have k107:ixc 107=((bg false+5:Nat):Int):=by decide +kernel
 have k82:ixc 82=((bg true+3:Nat):Int):=by decide +kernel
 have k114:ixc 114=((bg false+3:Nat):Int):=by decide +kernel
 have:i=0\/i=1\/i=2\/i=3:=by omega
 subst hw;rcases this with rfl|rfl|rfl|rfl
 ·exact ⟨hi,rfl,by rw [show z (hK 0)=75 from (hC.c0 hf).1];exact k75,by rw [show z (hR 0)=82 from (hC.c0 hf).2];exact k82,hm.1,hm.2⟩
 ·exact ⟨hi,rfl,by rw [show z (hK 1)=75 from (hC.c1 hf).1];exact k75,by rw [show z (hR 1)=82 from (hC.c1 hf).2];exact k82,hm.1,hm.2⟩
 ·exact ⟨hi,rfl,by rw [show z (hK 2)=107 from (hC.c2 hf).1];exact k107,by rw [show z (hR 2)=114 from (hC.c2 hf).2];exact k114,hm.1,hm.2⟩
 ·exact ⟨hi,rfl,by rw [show z (hK 3)=107 from (hC.c3 hf).1];exact k107,by rw [show z (hR 3)=114 from (hC.c3 hf).2];exact k114,hm.1,hm.2⟩
theorem Cas.dot {z:Nat->UInt8} {wh:Bool} {i:Nat} (h:Cas z wh i) {n:Nat} (hn:((List.range (hN i)).any fun j=>decide (sqK (hK i) (hD i) (j+1)=n))=true):z n=46:=by
 obtain ⟨j,hj,e⟩:=List.any_eq_true.1 hn;rw [decide_eq_true_eq] at e;have:=h.e;unfold mcE at this;have:=List.all_eq_true.1 this j hj;rw [e] at this;simpa using this
theorem qql (b:Bool):coc 46≠sdb b:=by
 have:coc 46=0:=by decide +kernel
 rw [this];cases b<;>decide
theorem Cas.none {z:Nat->UInt8} {wh:Bool} {i:Nat} (h:Cas z wh i) {n:Nat} (hn:n<64) (hr:n/8=casT i/8) (hp:past i n=false):coc (z n)≠sdb (!wh):=by
 have:=cas_line i h.hi n hn hr hp;rw [Bool.or_eq_true,Bool.or_eq_true,decide_eq_true_eq,decide_eq_true_eq] at this;rcases this with (rfl|rfl)|e
 ·rw [xt (by omega) h.k];exact qv7 wh
 ·rw [xt (by omega) h.r];exact qv7 wh
 ·rw [h.dot e];exact qql _
theorem cas_sets {z:Nat->UInt8} {wh:Bool} {fc:Nat->Bool} {b:Int} (hC:Can z wh fc b) (h0:-1<=b) (h1:b<=63) {i:Nat} (h:Cas z wh i):legalB (layS z 64) wh (behB b) 5 (hK i) (casT i)=true:=by
 obtain ⟨f1,f2,f3,f4,f5,f6,f7,f8,f9,f10,f11,f12,f13,f14,f15,f16,f17⟩:=za i h.hi;have zt:z (casT i)=46:=h.dot (cas_in i h.hi).1;have htr:trn (z (hK i)) 0=z (hK i):=by unfold trn;rw [if_pos rfl]
 have hP:Plain z wh b 5 (hK i) (casT i) 0 (casT i):=⟨by omega,f1,f2,h.k,by rw [zt];exact qql _,fun _=>rfl,fun e=>by omega,⟨5,by omega,by rw [htr];exact h.k,Iff.rfl⟩⟩
 let Z:Nat->UInt8:=fun n=>if n=casT i then z (hK i) else if n=hK i then 46 else z n
 have hZ:Beh z (hK i) (casT i) 0 (casT i) Z:=fun n=>by
  show (if n=casT i then z (hK i) else if n=hK i then 46 else z n)=_;rw [htr];by_cases c:n=casT i
  ·rw [if_pos c,if_pos c]
  ·rw [if_neg c,if_neg c,if_neg c]
 obtain ⟨hok,y,hy,hR,e⟩:=legal_is hP hZ hC.ok (hC.k1 wh) h0 h1;have hk1:=kin_after hP hZ (hC.k1 wh) h0 h1;obtain ⟨y',hy',hs,hR'⟩:=zg hk1
 have hyt:y=casT i:=by
  have:casT i∈sqs (layS Z 64 (bg wh+5)):=by
   unfold sqs;rw [List.mem_filter,List.mem_range,lay64 _ _ _ f2];refine ⟨f2,decide_eq_true ?_⟩;show ixc (if casT i=casT i then z (hK i) else _)=_;rw [if_pos rfl];exact h.k
  rw [hs,List.mem_singleton] at this;omega
 rw [e,hyt,jb hok f2]
 have:attR Z ((casT i:Nat):Int) (!wh)=false:=by
  refine cas_safe hC.ok h.hi h.a (fun n hn hr=>?_) (fun n hn hr hp=>?_) (fun n hn hr hp=>?_)
  ·show (if n=casT i then z (hK i) else if n=hK i then 46 else z n)=_;rw [if_neg (fun e=>hr (by rw [e])),if_neg (fun e=>hr (by rw [e,f5]))]
  ·show (if n=casT i then z (hK i) else if n=hK i then 46 else z n)=_;rw [if_neg (fun e=>by rw [e,f7] at hp;cases hp),if_neg (fun e=>by rw [e,f6] at hp;cases hp)]
  ·show coc (if n=casT i then z (hK i) else if n=hK i then 46 else z n)≠_;split
   ·rw [xt (by omega) h.k];exact qv7 wh
   ·split
    ·exact qql _
    ·exact h.none hn hr hp
 rw [this];rfl
end Go.Proofs.YtnfakamfmkhlbaaGreatDoor.C
