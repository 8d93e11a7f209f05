import Derived.Test.YtnfakamfmkhlbabGreatDoorKb21
import Derived.Test.YtnfakamfmkhlbabGreatDoorKz2
set_option maxRecDepth 100000
set_option maxHeartbeats 4000000
set_option linter.unusedSimpArgs false
namespace Go.Proofs.YtnfakamfmkhlbabGreatDoor.C
open Go.RowKit
open Go.Proofs.YtnfakamfmkhlbabGreatDoor.P
structure Plain (z:Nat->UInt8) (wh:Bool) (b:Int) (i f t:Nat) (u:UInt8) (cs:Nat):Prop where
 hi:i<6
 hf:f<64
 ht:t<64
 hc:ixc (z f)=((bg wh+i:Nat):Int)
 no:coc (z t)≠sdb wh
 nep:¬ (i=0/\(t:Int)=b)->cs=t
 ep:i=0->(t:Int)=b->z t=46/\cs<64/\cs=f/8*8+t%8/\(if wh then cs+8=t else cs=t+8)/\ixc (z cs)=((bg (!wh):Nat):Int)
 tr:∃ q,q<6/\ixc (trn (z f) u)=((bg wh+q:Nat):Int)/\(q=5↔i=5)
theorem bg_two (wh:Bool):(bg wh=0/\bg (!wh)=6)\/(bg wh=6/\bg (!wh)=0):=by cases wh<;>simp [bg]
theorem coc_ix {c:UInt8} {wh:Bool} {q:Nat} (hq:q<6) (h:ixc c=((bg wh+q:Nat):Int)):coc c=sdb wh:=(co_of_ix hq h).1
theorem co_ne (wh:Bool):sdb wh≠sdb (!wh):=by cases wh<;>decide
theorem dot_ix:ixc 46=-1:=ib_dot
def Beh (z:Nat->UInt8) (f t:Nat) (u:UInt8) (cs:Nat) (Z:Nat->UInt8):Prop:=∀ n,Z n=if n=t then trn (z f) u else if n=f then 46 else if n=cs then 46 else z n
theorem pl_at {z:Nat->UInt8} {wh:Bool} {b:Int} {i f t cs:Nat} {u:UInt8} (h:Plain z wh b i f t u cs) (kg:i=5->t≠f+2/\t+2≠f):Beh z f t u cs (plZ z b (f,t,u)):=by
 intro n;obtain ⟨hp,hk⟩:=pk_is h.hi h.hc;unfold plZ;simp only;rw [hp,hk];by_cases hep:i=0/\(t:Int)=b
 ·obtain ⟨e1,e2⟩:=hep;obtain ⟨z0,hcs,e3,e4,e5⟩:=h.ep e1 e2;have hct:cs≠t:=by cases wh<;>simp at e4<;>omega
  rw [if_pos (by simp [e1,e2]),<-e3];unfold upd;by_cases c1:n=t
  ·subst c1;rw [if_neg (fun e=>hct e.symm),if_pos rfl,if_pos rfl]
  ·rw [if_neg c1,if_neg c1];by_cases c2:n=cs
   ·rw [if_pos c2];by_cases c3:n=f
    ·rw [if_pos c3]
    ·rw [if_neg c3,if_pos c2]
   ·rw [if_neg c2];by_cases c3:n=f
    ·rw [if_pos c3,if_pos c3]
    ·rw [if_neg c3,if_neg c3,if_neg c2]
 ·have hcs:=h.nep hep;rw [if_neg (by simpa using hep)]
  have k1:(decide (i=5)&&(t==f+2))=false:=by
   by_cases e:i=5
   ·simp [(kg e).1]
   ·simp [e]
  have k2:(decide (i=5)&&(t+2==f))=false:=by
   by_cases e:i=5
   ·simp [(kg e).2]
   ·simp [e]
  rw [k1,k2,if_neg (by simp),if_neg (by simp)];unfold upd;rw [hcs];by_cases c1:n=t
  ·rw [if_pos c1,if_pos c1]
  ·rw [if_neg c1,if_neg c1,if_neg c1]
theorem beh_eq {b:Int} (h0:-1<=b) (h1:b<=63) {t:Nat} (ht:t<64):1#64 <<< t=behB b↔(t:Int)=b:=by
 constructor
 ·intro h;have:=beh_bit h0 h1 ht;rw [<-h,one_bit t ht t ht] at this;simpa using this.symm
 ·intro h;unfold behB;rw [if_pos (by omega)];congr 1;omega
theorem gone_bit {z:Nat->UInt8} {wh:Bool} {b:Int} {i f t cs:Nat} {u:UInt8} (h:Plain z wh b i f t u cs) (h0:-1<=b) (h1:b<=63) {n:Nat} (hn:n<64):(goneB wh (behB b) i t).getLsbD n=decide (n=cs):=by
 have hbe:=beh_eq h0 h1 h.ht;unfold goneB;by_cases hep:i=0/\(t:Int)=b
 ·rw [if_pos ⟨hep.1,hbe.2 hep.2⟩];obtain ⟨z0,hcs,e3,e4,e5⟩:=h.ep hep.1 hep.2;rw [<-(beh_eq h0 h1 h.ht).2 hep.2];cases wh
  ·show ((1#64 <<< t) <<< 8).getLsbD n=_;simp at e4;rw [BitVec.getLsbD_shiftLeft];by_cases h8:n<8
   ·simp [h8];omega
   ·rw [one_bit t h.ht (n-8) (by omega)];rw [Bool.eq_iff_iff];simp [hn,h8];omega
  ·show ((1#64 <<< t) >>> 8).getLsbD n=_;simp at e4;rw [BitVec.getLsbD_ushiftRight];by_cases h8:8+n<64
   ·rw [one_bit t h.ht (8+n) h8,Bool.eq_iff_iff,decide_eq_true_eq,decide_eq_true_eq];omega
   ·rw [BitVec.getLsbD_of_ge _ _ (by omega)]
    symm;rw [decide_eq_false_iff_not];have:=h.ht;omega
 ·rw [if_neg (fun k=>hep ⟨k.1,hbe.1 k.2⟩),one_bit t h.ht n hn,h.nep hep]
theorem after_bit {z:Nat->UInt8} {wh:Bool} {b:Int} {i f t cs:Nat} {u:UInt8} (h:Plain z wh b i f t u cs) (h0:-1<=b) (h1:b<=63) (p:Nat) {n:Nat} (hn:n<64) :
  (afterB (layS z 64) wh (behB b) i f t p).getLsbD n=if p=bg wh+i then (decide (ixc (z n)=(p:Int)) ^^ (decide (n=f)||decide (n=t))) else if bg (!wh)<=p/\p<bg (!wh)+6 then decide (ixc (z n)=(p:Int))&&!decide (n=cs) else decide (ixc (z n)=(p:Int)):=by
 have hb:=bg_two wh;have hi:=h.hi;unfold afterB cutB;by_cases e:p=bg wh+i
 ·rw [if_pos e,if_pos e,if_neg (by omega),BitVec.getLsbD_xor,BitVec.getLsbD_or,one_bit f h.hf n hn,one_bit t h.ht n hn,lay64 z p n hn]
 ·rw [if_neg e,if_neg e];by_cases e2:bg (!wh)<=p/\p<bg (!wh)+6
  ·rw [if_pos e2,if_pos e2,BitVec.getLsbD_and,not_bit _ hn,gone_bit h h0 h1 hn,lay64 z p n hn]
  ·rw [if_neg e2,if_neg e2,lay64 z p n hn]
theorem Plain.ft {z:Nat->UInt8} {wh:Bool} {b:Int} {i f t cs:Nat} {u:UInt8} (h:Plain z wh b i f t u cs):f≠t:=by
 rintro rfl;exact h.no (coc_ix h.hi h.hc)
section
variable {z:Nat->UInt8} {wh:Bool} {b:Int} {i f t cs:Nat} {u:UInt8} {Z:Nat->UInt8}
theorem Plain.cf (h:Plain z wh b i f t u cs):cs≠f:=by
 rintro rfl;by_cases hep:i=0/\(t:Int)=b
 ·obtain ⟨z0,hcs,e3,e4,e5⟩:=h.ep hep.1 hep.2;have:=h.hc;have hb:=bg_two wh;have hi:=h.hi;omega
 ·exact h.ft (h.nep hep)
theorem Plain.cz (h:Plain z wh b i f t u cs) (hne:cs≠t):ixc (z cs)=((bg (!wh):Nat):Int)/\z t=46:=by
 by_cases hep:i=0/\(t:Int)=b
 ·obtain ⟨z0,hcs,e3,e4,e5⟩:=h.ep hep.1 hep.2;exact ⟨e5,z0⟩
 ·exact absurd (h.nep hep) hne
theorem oth_after (h:Plain z wh b i f t u cs) (hZ:Beh z f t u cs Z) (h0:-1<=b) (h1:b<=63) {j:Nat} (hj:j<6):afterB (layS z 64) wh (behB b) i f t (bg (!wh)+j)=layS Z 64 (bg (!wh)+j):=by
 have hb:=bg_two wh;have hi:=h.hi;obtain ⟨q,hq,hq1,_⟩:=h.tr;have hc:=h.hc;apply BitVec.eq_of_getLsbD_eq;intro n hn;rw [after_bit h h0 h1 _ hn,if_neg (by omega),if_pos (by omega),lay64 _ _ n hn,hZ n];by_cases c1:n=t
 ·subst c1;rw [if_pos rfl,hq1];have e1:decide (((bg wh+q:Nat):Int)=((bg (!wh)+j:Nat):Int))=false:=decide_eq_false (by omega);rw [e1];by_cases hct:cs=n
  ·simp [hct]
  ·have:=(h.cz hct).2;rw [this,dot_ix,decide_eq_false (by omega)];rfl
 ·rw [if_neg c1];by_cases c2:n=f
  ·subst c2;rw [if_pos rfl,dot_ix,hc,decide_eq_false (by omega),Bool.false_and];symm;exact decide_eq_false (by omega)
  ·rw [if_neg c2];by_cases c3:n=cs
   ·rw [if_pos c3,dot_ix,decide_eq_true c3,Bool.not_true,Bool.and_false];symm;exact decide_eq_false (by omega)
   ·rw [if_neg c3,decide_eq_false c3];simp
theorem orB_bit_any (m:Nat->BitVec 64) (base:Nat) (n:Nat):∀ k,(orB m base k).getLsbD n=(List.range k).any fun j=>(m (base+j)).getLsbD n
 | 0=>by show (0#64).getLsbD n=_;rw [BitVec.getLsbD_zero];rfl
 | k+1=>by
   show (orB m base k ||| m (base+k)).getLsbD n=_;rw [BitVec.getLsbD_or,orB_bit_any m base n k,List.range_succ,List.any_append];simp
theorem okZ (h:Plain z wh b i f t u cs) (hZ:Beh z f t u cs Z) (hok:layOk z=true):layOk Z=true:=by
 obtain ⟨q,hq,hq1,_⟩:=h.tr;refine layOk_all fun n hn=>?_
 rw [hZ n];split
 ·rw [ok_ix,hq1,Bool.or_eq_true];right;exact decide_eq_true (by omega)
 ·split
  ·rfl
  ·split
   ·rfl
   ·exact lay_ok hok hn
theorem taken_after (h:Plain z wh b i f t u cs) (hZ:Beh z f t u cs Z) (h0:-1<=b) (h1:b<=63):takenB (afterB (layS z 64) wh (behB b) i f t)=takenB (layS Z 64):=by
 have hb:=bg_two wh;have hi:=h.hi;have hc:=h.hc;obtain ⟨q,hq,hq1,_⟩:=h.tr;rw [<-own_oth _ wh,<-own_oth _ wh]
 have e2:sideB (afterB (layS z 64) wh (behB b) i f t) (!wh)=sideB (layS Z 64) (!wh):=by
  unfold sideB;apply BitVec.eq_of_getLsbD_eq;intro n hn;rw [orB_bit_any,orB_bit_any,Bool.eq_iff_iff,List.any_eq_true,List.any_eq_true];constructor<;>rintro ⟨j,hj,h'⟩<;>refine ⟨j,hj,?_⟩
  ·rw [<-oth_after h hZ h0 h1 (List.mem_range.1 hj)];exact h'
  ·rw [oth_after h hZ h0 h1 (List.mem_range.1 hj)];exact h'
 have e1:sideB (afterB (layS z 64) wh (behB b) i f t) wh=sideB (layS Z 64) wh:=by
  unfold sideB;apply BitVec.eq_of_getLsbD_eq;intro n hn;rw [orB_bit_any,orB_bit_any,Bool.eq_iff_iff,List.any_eq_true,List.any_eq_true];by_cases c1:n=t
  ·subst c1;constructor
   ·rintro _;refine ⟨q,List.mem_range.2 hq,?_⟩;rw [lay64 _ _ n hn,hZ n,if_pos rfl,hq1];simp
   ·rintro _;refine ⟨i,List.mem_range.2 hi,?_⟩;rw [after_bit h h0 h1 _ hn,if_pos rfl];have:ixc (z n)≠((bg wh+i:Nat):Int):=fun e=>h.no (coc_ix hi e)
    rw [decide_eq_false this];simp
  ·by_cases c2:n=f
   ·subst c2;constructor
    ·rintro ⟨j,hj,h'⟩;have hj:=List.mem_range.1 hj;rw [after_bit h h0 h1 _ hn,hc] at h';by_cases ej:j=i
     ·subst ej;simp at h'
     ·rw [if_neg (by omega),if_neg (by omega),decide_eq_true_eq] at h';omega
    ·rintro ⟨j,hj,h'⟩;rw [lay64 _ _ n hn,hZ n,if_neg c1,if_pos rfl,dot_ix,decide_eq_true_eq] at h';omega
   ·constructor
    ·rintro ⟨j,hj,h'⟩;have hj':=List.mem_range.1 hj;refine ⟨j,hj,?_⟩;rw [after_bit h h0 h1 _ hn] at h'
     have h2:ixc (z n)=((bg wh+j:Nat):Int):=by
      by_cases ej:j=i
      ·subst ej;rw [if_pos rfl] at h';simpa [c1,c2] using h'
      ·rw [if_neg (by omega),if_neg (by omega),decide_eq_true_eq] at h';exact h'
     have c3:n≠cs:=by
      rintro rfl;have:=(h.cz c1).1;omega
     rw [lay64 _ _ n hn,hZ n,if_neg c1,if_neg c2,if_neg c3];exact decide_eq_true h2
    ·rintro ⟨j,hj,h'⟩;have hj':=List.mem_range.1 hj;refine ⟨j,hj,?_⟩;rw [lay64 _ _ n hn,hZ n,if_neg c1,if_neg c2] at h';by_cases c3:n=cs
     ·rw [if_pos c3,dot_ix,decide_eq_true_eq] at h';omega
     ·rw [if_neg c3,decide_eq_true_eq] at h';rw [after_bit h h0 h1 _ hn,h'];by_cases ej:j=i
      ·subst ej;rw [if_pos rfl];simp [c1,c2]
      ·rw [if_neg (by omega),if_neg (by omega)];simp
 rw [e1,e2]
theorem attacked_congr {m m':Nat->BitVec 64} {bw:Bool} (ht:takenB m=takenB m') (hm:∀ j,j<6->m (bg bw+j)=m' (bg bw+j)) (y:Int):attackedS m y bw=attackedS m' y bw:=by
 unfold attackedS;rw [Bool.eq_iff_iff,List.any_eq_true,List.any_eq_true]
 have e:∀ j,j∈List.range 6->seesI m y bw j=seesI m' y bw j:=fun j hj=>by
  unfold seesI;rw [ht,hm j (List.mem_range.1 hj)]
 constructor<;>rintro ⟨j,hj,h⟩<;>refine ⟨j,hj,?_⟩
 ·rw [<-e j hj];exact h
 ·rw [e j hj];exact h
theorem king_after (h:Plain z wh b i f t u cs) (hZ:Beh z f t u cs Z) (h0:-1<=b) (h1:b<=63):afterB (layS z 64) wh (behB b) i f t (bg wh+5)=layS Z 64 (bg wh+5):=by
 have hb:=bg_two wh;have hi:=h.hi;have hc:=h.hc;obtain ⟨q,hq,hq1,hq5⟩:=h.tr;apply BitVec.eq_of_getLsbD_eq;intro n hn;rw [after_bit h h0 h1 _ hn,lay64 _ _ n hn,hZ n];by_cases c1:n=t
 ·subst c1;have hno:∀ j,j<6->ixc (z n)≠((bg wh+j:Nat):Int):=fun j hj e=>h.no (coc_ix hj e)
  rw [if_pos rfl,hq1,decide_eq_false (hno 5 (by omega))];by_cases e:i=5
  ·rw [if_pos (by omega),hq5.2 e];simp
  ·rw [if_neg (by omega),if_neg (by omega)]
   symm;exact decide_eq_false (by have:q≠5:=fun k=>e (hq5.1 k);omega)
 ·rw [if_neg c1];by_cases c2:n=f
  ·subst c2;rw [if_pos rfl,dot_ix,hc];by_cases e:i=5
   ·rw [if_pos (by omega),e];simp;omega
   ·rw [if_neg (by omega),if_neg (by omega),decide_eq_false (by omega)]
    symm;exact decide_eq_false (by omega)
  ·rw [if_neg c2];have e1:(decide (n=f)||decide (n=t))=false:=by simp [c1,c2]
   rw [e1,Bool.xor_false,if_neg (c:=bg (!wh)<=bg wh+5/\bg wh+5<bg (!wh)+6) (by omega)];have e2:(if bg wh+5=bg wh+i then decide (ixc (z n)=((bg wh+5:Nat):Int)) else decide (ixc (z n)=((bg wh+5:Nat):Int)))=decide (ixc (z n)=((bg wh+5:Nat):Int)):=by split<;>rfl
   rw [e2];by_cases c3:n=cs
   ·subst c3;rw [if_pos rfl,dot_ix,(h.cz c1).1,decide_eq_false (by omega)]
    symm;exact decide_eq_false (by omega)
   ·rw [if_neg c3]
theorem kin_after (h:Plain z wh b i f t u cs) (hZ:Beh z f t u cs Z) (hk:kinR z wh 64=1) (h0:-1<=b) (h1:b<=63):kinR Z wh 64=1:=by
 have hb:=bg_two wh;have hi:=h.hi;have hc:=h.hc;rw [<-kings_len,<-king_after h hZ h0 h1];obtain ⟨y,hy,hs,hR⟩:=one_king hk
 have mem:∀ n,n<64->(ixc (z n)=((bg wh+5:Nat):Int)↔n=y):=fun n hn=>by
  have:n∈sqs (layS z 64 (bg wh+5))↔n=y:=by rw [hs];simp
  unfold sqs at this;rw [List.mem_filter,List.mem_range,lay64 z _ n hn,decide_eq_true_eq] at this;constructor
  ·intro e;exact this.1 ⟨hn,e⟩
  ·intro e;exact (this.2 e).2
 have one:∀ w:Nat,w<64->((List.range 64).filter fun n=>decide (n=w))=[w]:=by decide +kernel
 have key:∃ w,w<64/\∀ n,n<64->(afterB (layS z 64) wh (behB b) i f t (bg wh+5)).getLsbD n=decide (n=w):=by
  by_cases e:i=5
  ·refine ⟨t,h.ht,fun n hn=>?_⟩;subst e;have hfy:=(mem f h.hf).1 hc;rw [after_bit h h0 h1 _ hn,if_pos rfl];have e1:decide (ixc (z n)=((bg wh+5:Nat):Int))=decide (n=f):=by rw [Bool.eq_iff_iff,decide_eq_true_eq,decide_eq_true_eq,mem n hn,hfy]
   rw [e1];have hft:=h.ft;by_cases c1:n=f
   ·have:n≠t:=fun k=>hft (c1.symm.trans k)
    simp [c1,hft]
   ·simp [c1]
  ·refine ⟨y,hy,fun n hn=>?_⟩;rw [after_bit h h0 h1 _ hn,if_neg (by omega),if_neg (by omega),Bool.eq_iff_iff,decide_eq_true_eq,decide_eq_true_eq];exact mem n hn
 obtain ⟨w,hw,hbit⟩:=key
 have:sqs (afterB (layS z 64) wh (behB b) i f t (bg wh+5))=[w]:=by
  unfold sqs;rw [filter_same _ (fun n hn=>hbit n (List.mem_range.1 hn)),one w hw]
 rw [this];rfl
theorem legal_is (h:Plain z wh b i f t u cs) (hZ:Beh z f t u cs Z) (hok:layOk z=true) (hk:kinR z wh 64=1) (h0:-1<=b) (h1:b<=63):layOk Z=true/\∃ y:Nat,y<64/\kingR Z wh=(y:Int)/\legalB (layS z 64) wh (behB b) i f t=!(attLB Z y (!wh)):=by
 have hok':=okZ h hZ hok;obtain ⟨y,hy,hs,hR⟩:=one_king (kin_after h hZ hk h0 h1);refine ⟨hok',y,hy,hR,?_⟩;unfold legalB anyB;rw [king_after h hZ h0 h1,hs]
 have e:attackedS (afterB (layS z 64) wh (behB b) i f t) (y:Int) (!wh)=attLB Z y (!wh):=by
  rw [attacked_congr (taken_after h hZ h0 h1) (fun j hj=>oth_after h hZ h0 h1 hj),attacked_same hok' _ _ hy,attL_same hok' hy]
 simp [e]
theorem legal_plain (h:Plain z wh b i f t u cs) (kg:i=5->t≠f+2/\t+2≠f) (hok:layOk z=true) (hk:kinR z wh 64=1) (h0:-1<=b) (h1:b<=63):(∃ y:Nat,y<64/\kingR (plZ z b (f,t,u)) wh=(y:Int))/\legalB (layS z 64) wh (behB b) i f t=letP z wh b (f,t,u):=by
 obtain ⟨_,y,hy,hR,e⟩:=legal_is h (pl_at h kg) hok hk h0 h1;refine ⟨⟨y,hy,hR⟩,?_⟩;rw [e];unfold letP;rw [hR];rfl
end
def past (i n:Nat):Bool:=if i%2=0 then decide (n<hK i) else decide (hK i<n)
theorem off_path:∀ i,i<4->∀ n,n<64->n/8≠casT i/8->(stI ((n:Nat):Int) ((casT i:Nat):Int)||slI ((n:Nat):Int) ((casT i:Nat):Int))=true->((List.range (LI ((n:Nat):Int) ((casT i:Nat):Int))).all fun j=>decide (j=0)||decide ((pI ((n:Nat):Int) ((casT i:Nat):Int) j).toNat/8≠casT i/8)&&decide ((pI ((n:Nat):Int) ((casT i:Nat):Int) j).toNat<64))=true:=by decide +kernel
theorem on_path:∀ i,i<4->∀ n,n<64->n/8=casT i/8->past i n=true->(stI ((n:Nat):Int) ((hK i:Nat):Int)&&decide (LI ((n:Nat):Int) ((hK i:Nat):Int)<=LI ((n:Nat):Int) ((casT i:Nat):Int))&&(List.range (LI ((n:Nat):Int) ((hK i:Nat):Int))).all fun j=>decide (j=0)||decide (pI ((n:Nat):Int) ((casT i:Nat):Int) j=pI ((n:Nat):Int) ((hK i:Nat):Int) j)&&past i (pI ((n:Nat):Int) ((hK i:Nat):Int) j).toNat&&decide ((pI ((n:Nat):Int) ((hK i:Nat):Int) j).toNat/8=casT i/8)&&decide ((pI ((n:Nat):Int) ((hK i:Nat):Int) j).toNat<64))=true:=by decide +kernel
theorem on_near:∀ i,i<4->∀ n,n<64->n/8=casT i/8->past i n=true->∀ bw:Bool,(attI (fun _=>46) 0 (sdb bw) ((n:Nat):Int) ((casT i:Nat):Int)||attI (fun _=>46) 1 (sdb bw) ((n:Nat):Int) ((casT i:Nat):Int)||attI (fun _=>46) 2 (sdb bw) ((n:Nat):Int) ((casT i:Nat):Int)||attI (fun _=>46) 5 (sdb bw) ((n:Nat):Int) ((casT i:Nat):Int))=false:=by decide +kernel
theorem attI_free {f:Nat->Int} {k:Nat} {s x y:Int} (h:attI f k s x y=true):attI (fun _=>46) k s x y=true/\((k=2\/k=3\/k=4)->(stI x y||slI x y)=true/\freeI f (pI x y) (LI x y)=true):=by
 have hfr:freeI (fun _=>46) (pI x y) (LI x y)=true:=by unfold freeI;exact decide_eq_true fun _ _ _=>rfl
 unfold attI at h ⊢;by_cases k0:k=0
 ·simp only [k0,if_true] at h ⊢;exact ⟨h,by omega⟩
 ·by_cases k1:k=1
  ·subst k1;simp only [k0,if_false,if_true] at h ⊢;exact ⟨h,by omega⟩
  ·by_cases k2:k=2
   ·subst k2;simp only [k0,k1,if_false,if_true,Bool.and_eq_true] at h ⊢;exact ⟨⟨h.1,hfr⟩,fun _=>⟨by rw [h.1];simp,h.2⟩⟩
   ·by_cases k3:k=3
    ·subst k3;simp only [k0,k1,k2,if_false,if_true,Bool.and_eq_true] at h ⊢;exact ⟨⟨h.1,hfr⟩,fun _=>⟨by rw [h.1];simp,h.2⟩⟩
    ·by_cases k4:k=4
     ·subst k4;simp only [k0,k1,k2,k3,if_false,if_true,Bool.and_eq_true] at h ⊢;exact ⟨⟨h.1,hfr⟩,fun _=>⟨h.1,h.2⟩⟩
     ·refine ⟨?_,fun hk=>by omega⟩;simp only [k0,k1,k2,k3,k4,if_false] at h ⊢;exact h
theorem attI_put {f:Nat->Int} {k:Nat} {s x y:Int} (h:attI (fun _=>46) k s x y=true) (hf:(k=2\/k=3\/k=4)->freeI f (pI x y) (LI x y)=true):attI f k s x y=true:=by
 unfold attI at h ⊢;by_cases k0:k=0
 ·simp only [k0,if_true] at h ⊢;exact h
 ·by_cases k1:k=1
  ·subst k1;simp only [k0,if_false,if_true] at h ⊢;exact h
  ·by_cases k2:k=2
   ·subst k2;simp only [k0,k1,if_false,if_true,Bool.and_eq_true] at h ⊢;exact ⟨h.1,hf (by omega)⟩
   ·by_cases k3:k=3
    ·subst k3;simp only [k0,k1,k2,if_false,if_true,Bool.and_eq_true] at h ⊢;exact ⟨h.1,hf (by omega)⟩
    ·by_cases k4:k=4
     ·subst k4;simp only [k0,k1,k2,k3,if_false,if_true,Bool.and_eq_true] at h ⊢;exact ⟨h.1,hf (by omega)⟩
     ·simp only [k0,k1,k2,k3,k4,if_false] at h ⊢;exact h
theorem cas_safe {z Zx:Nat->UInt8} (hok:layOk z=true) {wh:Bool} {i:Nat} (hi:i<4) (hm:mcA z wh (hK i) (hD i)=true)
  (ha:∀ n,n<64->n/8≠casT i/8->Zx n=z n) (hb:∀ n,n<64->n/8=casT i/8->past i n=true->Zx n=z n)
  (hc:∀ n,n<64->n/8=casT i/8->past i n=false->coc (Zx n)≠sdb (!wh)):attR Zx ((casT i:Nat):Int) (!wh)=false:=by
 have hKT:hK i<64/\casT i<64/\sqK (hK i) (hD i) 0=hK i/\sqK (hK i) (hD i) 2=casT i:=by
  have:i=0\/i=1\/i=2\/i=3:=by omega
  rcases this with rfl|rfl|rfl|rfl<;>decide
 unfold mcA at hm;rw [List.all_eq_true] at hm;have s0:=hm 0 (by decide);have s2:=hm 2 (by decide);rw [hKT.2.2.1,attL_same hok hKT.1,Bool.not_eq_true'] at s0;rw [hKT.2.2.2,attL_same hok hKT.2.1,Bool.not_eq_true'] at s2;cases hr:attR Zx ((casT i:Nat):Int) (!wh) with
 | false=>rfl
 | true =>
  exfalso
  unfold attR at hr;obtain ⟨n,hn,h⟩:=List.any_eq_true.1 hr;have hn:=List.mem_range.1 hn;rw [Bool.and_eq_true,decide_eq_true_eq] at h;obtain ⟨hco,hat⟩:=h;obtain ⟨at1,at2⟩:=attI_free hat
  have fin:∀ y:Nat,attR z (y:Int) (!wh)=false->Zx n=z n->attI (zI z) (kdc (Zx n)).toNat (sdb (!wh)) (n:Int) (y:Int)=true->False:=fun y hy e ha=>by
   have:attR z (y:Int) (!wh)=true:=by
    unfold attR;refine List.any_eq_true.2 ⟨n,List.mem_range.2 hn,?_⟩;rw [Bool.and_eq_true,decide_eq_true_eq];exact ⟨by rw [<-e];exact hco,by rw [<-e];exact ha⟩
   rw [hy] at this;cases this
  by_cases hrk:n/8=casT i/8
  ·cases hp:past i n with
   | false=>exact hc n hn hrk hp hco
   | true =>
    have e:=hb n hn hrk hp;have hnear:=on_near i hi n hn hrk hp (!wh);have honp:=on_path i hi n hn hrk hp;simp only [Bool.and_eq_true,List.all_eq_true,Bool.or_eq_true,decide_eq_true_eq,List.mem_range] at honp;simp only [Bool.or_eq_false_iff] at hnear
    have kk:(kdc (Zx n)).toNat=3\/(kdc (Zx n)).toNat=4:=by
     generalize (kdc (Zx n)).toNat=k at at1;have hk5:k=0\/k=1\/k=2\/k=3\/k=4\/5<=k:=by omega
     rcases hk5 with rfl|rfl|rfl|rfl|rfl|h5
     ·rw [hnear.1.1.1] at at1;cases at1
     ·rw [hnear.1.1.2] at at1;cases at1
     ·rw [hnear.1.2] at at1;cases at1
     ·exact .inl rfl
     ·exact .inr rfl
     ·have:attI (fun _=>46) k (sdb (!wh)) (n:Int) ((casT i:Nat):Int)=attI (fun _=>46) 5 (sdb (!wh)) (n:Int) ((casT i:Nat):Int):=by
       unfold attI;simp only [show ¬ k=0 from by omega,show ¬ k=1 from by omega,show ¬ k=2 from by omega,show ¬ k=3 from by omega,show ¬ k=4 from by omega,if_false];rfl
      rw [this,hnear.2] at at1;cases at1
    obtain ⟨_,hfree⟩:=at2 (by omega);refine fin (hK i) s0 e ?_
    have hfz:freeI (zI z) (pI (n:Int) ((hK i:Nat):Int)) (LI (n:Int) ((hK i:Nat):Int))=true:=by
     unfold freeI at hfree ⊢;rw [decide_eq_true_eq] at hfree ⊢;intro j hj j1;rcases honp.2 j hj with q|q
     ·omega
     ·have h1:=hfree j (by have:=honp.1.2;omega) j1;rw [q.1.1.1] at h1;unfold zI at h1 ⊢;rw [<-hb _ q.2 q.1.2 q.1.1.2];exact h1
    rcases kk with k|k<;>(rw [k];simp [attI,honp.1.1,hfz])
  ·have e:=ha n hn hrk;refine fin (casT i) s2 e (attI_put at1 fun hk=>?_);obtain ⟨hl,hfree⟩:=at2 hk;have hoff:=off_path i hi n hn hrk hl;simp only [List.all_eq_true,Bool.or_eq_true,Bool.and_eq_true,decide_eq_true_eq,List.mem_range] at hoff;unfold freeI at hfree ⊢;rw [decide_eq_true_eq] at hfree ⊢;intro j hj j1;rcases hoff j hj with q|q
   ·omega
   ·have h1:=hfree j hj j1;unfold zI at h1 ⊢;rw [<-ha _ q.2 q.1];exact h1
def hR (i:Nat):Nat:=if i=0 then 7 else if i=1 then 0 else if i=2 then 63 else 56
def rN (i:Nat):Nat:=if i=0 then 5 else if i=1 then 3 else if i=2 then 61 else 59
theorem cas_at {z:Nat->UInt8} {b:Int} {i:Nat} (hi:i<4) (hp:pawnB (z (hK i))=false) (hk:kingB (z (hK i))=true) (n:Nat):plZ z b (hK i,casT i,0) n=if n=hR i then 46 else if n=rN i then z (hR i) else if n=casT i then z (hK i) else if n=hK i then 46 else z n:=by
 have ht:trn (z (hK i)) 0=z (hK i):=by unfold trn;rw [if_pos rfl]
 have:i=0\/i=1\/i=2\/i=3:=by omega
 unfold plZ;simp only;rw [hp,hk,ht,Bool.false_and,if_neg (by simp)];rcases this with rfl|rfl|rfl|rfl
 ·rw [if_pos (by decide)];rfl
 ·rw [if_neg (by decide),if_pos (by decide)];rfl
 ·rw [if_pos (by decide)];rfl
 ·rw [if_neg (by decide),if_pos (by decide)];rfl
theorem cas_facts:∀ i,i<4->hK i<64/\casT i<64/\hR i<64/\rN i<64/\casT i/8=hK i/8/\past i (hK i)=false/\past i (casT i)=false/\past i (hR i)=false/\past i (rN i)=false/\hR i/8=hK i/8/\rN i/8=hK i/8/\casT i≠hK i/\hR i≠hK i/\rN i≠hK i/\hR i≠casT i/\rN i≠casT i/\rN i≠hR i:=by decide +kernel
theorem cas_line:∀ i,i<4->∀ n,n<64->n/8=casT i/8->past i n=false->(decide (n=hK i)||decide (n=hR i)||(List.range (hN i)).any fun j=>decide (sqK (hK i) (hD i) (j+1)=n))=true:=by decide +kernel
theorem cas_in:∀ i,i<4->((List.range (hN i)).any fun j=>decide (sqK (hK i) (hD i) (j+1)=casT i))=true/\((List.range (hN i)).any fun j=>decide (sqK (hK i) (hD i) (j+1)=rN i))=true:=by decide +kernel
structure Cas (z:Nat->UInt8) (wh:Bool) (i:Nat):Prop where
 hi:i<4
 w:wh=decide (i<2)
 k:ixc (z (hK i))=((bg wh+5:Nat):Int)
 r:ixc (z (hR i))=((bg wh+3:Nat):Int)
 e:mcE z (hK i) (hD i) (hN i)=true
 a:mcA z wh (hK i) (hD i)=true
theorem cas_of {z:Nat->UInt8} {wh:Bool} {fc:Nat->Bool} {b:Int} (hC:Can z wh fc b) {i:Nat} (hi:i<4) (hw:wh=decide (i<2)) (hf:fc i=true) (hm:mcB z wh (hK i) (hD i) (hN i)=true):Cas z wh i:=by
 unfold mcB at hm;rw [Bool.and_eq_true] at hm;have k75:ixc 75=((bg true+5:Nat):Int):=by decide +kernel
 have k107:ixc 107=((bg false+5:Nat):Int):=by decide +kernel
 have k82:ixc 82=((bg true+3:Nat):Int):=by decide +kernel
 have k114:ixc 114=((bg false+3:Nat):Int):=by decide +kernel
 have:i=0\/i=1\/i=2\/i=3:=by omega
 subst hw;rcases this with rfl|rfl|rfl|rfl
 ·exact ⟨hi,rfl,by rw [show z (hK 0)=75 from (hC.c0 hf).1];exact k75,by rw [show z (hR 0)=82 from (hC.c0 hf).2];exact k82,hm.1,hm.2⟩
 ·exact ⟨hi,rfl,by rw [show z (hK 1)=75 from (hC.c1 hf).1];exact k75,by rw [show z (hR 1)=82 from (hC.c1 hf).2];exact k82,hm.1,hm.2⟩
 ·exact ⟨hi,rfl,by rw [show z (hK 2)=107 from (hC.c2 hf).1];exact k107,by rw [show z (hR 2)=114 from (hC.c2 hf).2];exact k114,hm.1,hm.2⟩
 ·exact ⟨hi,rfl,by rw [show z (hK 3)=107 from (hC.c3 hf).1];exact k107,by rw [show z (hR 3)=114 from (hC.c3 hf).2];exact k114,hm.1,hm.2⟩
theorem Cas.dot {z:Nat->UInt8} {wh:Bool} {i:Nat} (h:Cas z wh i) {n:Nat} (hn:((List.range (hN i)).any fun j=>decide (sqK (hK i) (hD i) (j+1)=n))=true):z n=46:=by
 obtain ⟨j,hj,e⟩:=List.any_eq_true.1 hn;rw [decide_eq_true_eq] at e;have:=h.e;unfold mcE at this;have:=List.all_eq_true.1 this j hj;rw [e] at this;simpa using this
theorem co_dot (b:Bool):coc 46≠sdb b:=by
 have:coc 46=0:=by decide +kernel
 rw [this];cases b<;>decide
theorem Cas.none {z:Nat->UInt8} {wh:Bool} {i:Nat} (h:Cas z wh i) {n:Nat} (hn:n<64) (hr:n/8=casT i/8) (hp:past i n=false):coc (z n)≠sdb (!wh):=by
 have:=cas_line i h.hi n hn hr hp;rw [Bool.or_eq_true,Bool.or_eq_true,decide_eq_true_eq,decide_eq_true_eq] at this;rcases this with (rfl|rfl)|e
 ·rw [coc_ix (by omega) h.k];exact co_ne wh
 ·rw [coc_ix (by omega) h.r];exact co_ne wh
 ·rw [h.dot e];exact co_dot _
theorem cas_sets {z:Nat->UInt8} {wh:Bool} {fc:Nat->Bool} {b:Int} (hC:Can z wh fc b) (h0:-1<=b) (h1:b<=63) {i:Nat} (h:Cas z wh i):legalB (layS z 64) wh (behB b) 5 (hK i) (casT i)=true:=by
 obtain ⟨f1,f2,f3,f4,f5,f6,f7,f8,f9,f10,f11,f12,f13,f14,f15,f16,f17⟩:=cas_facts i h.hi;have zt:z (casT i)=46:=h.dot (cas_in i h.hi).1;have htr:trn (z (hK i)) 0=z (hK i):=by unfold trn;rw [if_pos rfl]
 have hP:Plain z wh b 5 (hK i) (casT i) 0 (casT i):=⟨by omega,f1,f2,h.k,by rw [zt];exact co_dot _,fun _=>rfl,fun e=>by omega,⟨5,by omega,by rw [htr];exact h.k,Iff.rfl⟩⟩
 let Z:Nat->UInt8:=fun n=>if n=casT i then z (hK i) else if n=hK i then 46 else z n
 have hZ:Beh z (hK i) (casT i) 0 (casT i) Z:=fun n=>by
  show (if n=casT i then z (hK i) else if n=hK i then 46 else z n)=_;rw [htr];by_cases c:n=casT i
  ·rw [if_pos c,if_pos c]
  ·rw [if_neg c,if_neg c,if_neg c]
 obtain ⟨hok,y,hy,hR,e⟩:=legal_is hP hZ hC.ok (hC.k1 wh) h0 h1;have hk1:=kin_after hP hZ (hC.k1 wh) h0 h1;obtain ⟨y',hy',hs,hR'⟩:=one_king hk1
 have hyt:y=casT i:=by
  have:casT i∈sqs (layS Z 64 (bg wh+5)):=by
   unfold sqs;rw [List.mem_filter,List.mem_range,lay64 _ _ _ f2];refine ⟨f2,decide_eq_true ?_⟩;show ixc (if casT i=casT i then z (hK i) else _)=_;rw [if_pos rfl];exact h.k
  rw [hs,List.mem_singleton] at this;omega
 rw [e,hyt,attL_same hok f2]
 have:attR Z ((casT i:Nat):Int) (!wh)=false:=by
  refine cas_safe hC.ok h.hi h.a (fun n hn hr=>?_) (fun n hn hr hp=>?_) (fun n hn hr hp=>?_)
  ·show (if n=casT i then z (hK i) else if n=hK i then 46 else z n)=_;rw [if_neg (fun e=>hr (by rw [e])),if_neg (fun e=>hr (by rw [e,f5]))]
  ·show (if n=casT i then z (hK i) else if n=hK i then 46 else z n)=_;rw [if_neg (fun e=>by rw [e,f7] at hp;cases hp),if_neg (fun e=>by rw [e,f6] at hp;cases hp)]
  ·show coc (if n=casT i then z (hK i) else if n=hK i then 46 else z n)≠_;split
   ·rw [coc_ix (by omega) h.k];exact co_ne wh
   ·split
    ·exact co_dot _
    ·exact h.none hn hr hp
 rw [this];rfl
theorem cas_letters {z:Nat->UInt8} {wh:Bool} {fc:Nat->Bool} {b:Int} (hC:Can z wh fc b) {i:Nat} (h:Cas z wh i):kingR (plZ z b (hK i,casT i,0)) wh=((casT i:Nat):Int)/\letP z wh b (hK i,casT i,0)=true:=by
 obtain ⟨f1,f2,f3,f4,f5,f6,f7,f8,f9,f10,f11,f12,f13,f14,f15,f16,f17⟩:=cas_facts i h.hi;obtain ⟨hp,hk⟩:=pk_is (i:=5) (by omega) h.k;have hp:pawnB (z (hK i))=false:=by rw [hp];rfl
 have hk:kingB (z (hK i))=true:=by rw [hk];rfl
 have hat:=cas_at (b:=b) h.hi hp hk;have zt:z (casT i)=46:=h.dot (cas_in i h.hi).1;generalize hZ:plZ z b (hK i,casT i,0)=Z at hat;have hT:Z (casT i)=z (hK i):=by rw [hat,if_neg (fun e=>f15 e.symm),if_neg (fun e=>f16 e.symm),if_pos rfl]
 have hoff:∀ n,n≠hR i->n≠rN i->n≠casT i->n≠hK i->Z n=z n:=fun n a1 a2 a3 a4=>by rw [hat,if_neg a1,if_neg a2,if_neg a3,if_neg a4]
 have hok:layOk Z=true:=by
  refine layOk_all fun n hn=>?_
  rw [hat];split
  ·rfl
  ·split
   ·exact lay_ok hC.ok f3
   ·split
    ·exact lay_ok hC.ok f1
    ·split
     ·rfl
     ·exact lay_ok hC.ok hn
 have hR:kingR Z wh=((casT i:Nat):Int):=by
  refine kingR_at (fun j hj=>?_) ?_ f2
  ·rw [king_ix,decide_eq_false_iff_not,hat];split
   ·rw [dot_ix];omega
   ·split
    ·rw [h.r];omega
    ·split
     ·omega
     ·split
      ·rw [dot_ix];omega
      ·rename_i e;intro k;exact e (king_one (hC.k1 wh) (by omega) f1 k h.k)
  ·rw [king_ix,hT,h.k];simp
 have hsafe:attR Z ((casT i:Nat):Int) (!wh)=false:=by
  refine cas_safe hC.ok h.hi h.a (fun n hn hr=>?_) (fun n hn hr hp=>?_) (fun n hn hr hp=>?_)
  ·exact hoff n (fun e=>hr (by rw [e,f10,f5])) (fun e=>hr (by rw [e,f11,f5])) (fun e=>hr (by rw [e])) (fun e=>hr (by rw [e,f5]))
  ·exact hoff n (fun e=>by rw [e,f8] at hp;cases hp) (fun e=>by rw [e,f9] at hp;cases hp) (fun e=>by rw [e,f7] at hp;cases hp) (fun e=>by rw [e,f6] at hp;cases hp)
  ·rw [hat];split
   ·exact co_dot _
   ·split
    ·rw [coc_ix (by omega) h.r];exact co_ne wh
    ·split
     ·rw [coc_ix (by omega) h.k];exact co_ne wh
     ·split
      ·exact co_dot _
      ·exact h.none hn hr hp
 refine ⟨hR,?_⟩;unfold letP;rw [hZ,hR];show (!(attLB Z (casT i) (!wh)))=true;rw [attL_same hok f2,hsafe];rfl
theorem tr_all:∀ wh:Bool,∀ u∈[(0,0),(113,4),(114,3),(98,2),(110,1)],ixc (trn (letr (bg wh)) (UInt8.ofNat u.1))=((bg wh+u.2:Nat):Int):=by decide +kernel
theorem king_step:∀ f,f<64->∀ t,t<64->attI (fun _=>46) 5 1 ((f:Nat):Int) ((t:Nat):Int)=true->t≠f+2/\t+2≠f:=by decide +kernel
theorem pawn_step {f:Nat->Int} {s x y:Int} (h:attI f 0 s x y=true):y/8-x/8=s:=by
 unfold attI at h;rw [if_pos rfl,Bool.and_eq_true,beq_iff_eq,beq_iff_eq] at h;exact h.2
theorem turn_u {p:Bool} {f t:Nat} {x:Mv} (h:x∈turnsB p f t):∃ u,x=(f,t,u)/\(p=false->u=0)/\(u=0\/u=113\/u=114\/u=98\/u=110):=by
 unfold turnsB at h;split at h
 ·rename_i hp;rw [Bool.and_eq_true] at hp;simp only [List.mem_cons,List.not_mem_nil,or_false] at h;rcases h with rfl|rfl|rfl|rfl
  ·exact ⟨113,rfl,(fun e=>by rw [hp.1] at e;cases e),by simp⟩
  ·exact ⟨114,rfl,(fun e=>by rw [hp.1] at e;cases e),by simp⟩
  ·exact ⟨98,rfl,(fun e=>by rw [hp.1] at e;cases e),by simp⟩
  ·exact ⟨110,rfl,(fun e=>by rw [hp.1] at e;cases e),by simp⟩
 ·rw [List.mem_singleton.1 h];exact ⟨0,rfl,fun _=>rfl,.inl rfl⟩
theorem tr_of {z:Nat->UInt8} {wh:Bool} {i f:Nat} {u:UInt8} (hi:i<6) (hc:ixc (z f)=((bg wh+i:Nat):Int)) (h0:i≠0->u=0) (hu:u=0\/u=113\/u=114\/u=98\/u=110):∃ q,q<6/\ixc (trn (z f) u)=((bg wh+q:Nat):Int)/\(q=5↔i=5):=by
 by_cases e:i=0
 ·subst e;have hz:=letr_of (by cases wh<;>decide) hc
  rw [hz,Nat.add_zero];rcases hu with rfl|rfl|rfl|rfl|rfl
  ·exact ⟨0,by omega,tr_all wh (0,0) (by simp),by omega⟩
  ·exact ⟨4,by omega,tr_all wh (113,4) (by simp),by omega⟩
  ·exact ⟨3,by omega,tr_all wh (114,3) (by simp),by omega⟩
  ·exact ⟨2,by omega,tr_all wh (98,2) (by simp),by omega⟩
  ·exact ⟨1,by omega,tr_all wh (110,1) (by simp),by omega⟩
 ·rw [h0 e];exact ⟨i,hi,by unfold trn;rw [if_pos rfl];exact hc,Iff.rfl⟩
theorem beh_w {z:Nat->UInt8} {wh:Bool} {b:Int} (h:behOk z wh b=true) {t:Nat} (ht:(t:Int)=b):z t=46/\(if wh then 40<=t/\t<48/\z (t-8)=112 else 16<=t/\t<24/\z (t+8)=80):=by
 unfold behOk at h;rw [Bool.or_eq_true,decide_eq_true_eq] at h;rcases h with h|h
 ·omega
 ·cases wh
  ·simp only [Bool.false_eq_true,if_false,Bool.and_eq_true,decide_eq_true_eq] at h ⊢;obtain ⟨⟨⟨⟨a,b1⟩,c⟩,_⟩,d⟩:=h;subst ht;rw [Int.toNat_natCast] at c;rw [show ((t:Int)+8).toNat=t+8 from by omega] at d;exact ⟨u8_of c rfl,by omega,by omega,u8_of d rfl⟩
  ·simp only [if_true,Bool.and_eq_true,decide_eq_true_eq] at h ⊢;obtain ⟨⟨⟨⟨a,b1⟩,c⟩,_⟩,d⟩:=h;subst ht;rw [Int.toNat_natCast] at c;rw [show ((t:Int)-8).toNat=t-8 from by omega] at d;exact ⟨u8_of c rfl,by omega,by omega,u8_of d rfl⟩
theorem pawn_ix:ixc 112=((bg false:Nat):Int)/\ixc 80=((bg true:Nat):Int):=by decide +kernel
theorem ah_not {z:Nat->UInt8} {wh:Bool} {b:Int} (h:behOk z wh b=true) {f t:Nat} (_hf:f<64) (hc:ixc (z f)=((bg wh:Nat):Int)) (ha:AhP z wh f t) (_hr:¬ (f/8=0\/f/8=7)):(t:Int)≠b:=by
 intro ht;obtain ⟨_,h2⟩:=beh_w h ht;cases wh
 ·simp only [Bool.false_eq_true,if_false] at h2;rcases ha with ⟨e,_⟩|⟨hs,e,_⟩
  ·have e:t=f-8:=e;have:t+8=f:=by omega
   rw [this] at h2;rw [h2.2.2,pawn_ix.2] at hc;exact absurd hc (by decide)
  ·have e:t=f-16:=e;have hs:f/8=6:=by simpa [startR] using hs
   omega
 ·simp only [if_true] at h2;rcases ha with ⟨e,_⟩|⟨hs,e,_⟩
  ·have e:t=f+8:=e;have:t-8=f:=by omega
   rw [this] at h2;rw [h2.2.2,pawn_ix.1] at hc;exact absurd hc (by decide)
  ·have e:t=f+16:=e;have hs:f/8=1:=by simpa [startR] using hs
   omega
def csN (wh:Bool) (b:Int) (i t:Nat):Nat:=if i=0/\(t:Int)=b then (if wh then t-8 else t+8) else t
theorem classify {z:Nat->UInt8} {wh:Bool} {fc:Nat->Bool} {b:Int} (hC:Can z wh fc b) {i f t:Nat} {u:UInt8} (hi:i<6) (hf:f<64) (ht:t<64) (hc:ixc (z f)=((bg wh+i:Nat):Int)) (hm:t∈tgL z wh fc b f) (hu:(f,t,u)∈turnsB (decide (i=0)) f t) :
  (Plain z wh b i f t u (csN wh b i t)/\(i=5->t≠f+2/\t+2≠f))\/(∃ ci,Cas z wh ci/\f=hK ci/\t=casT ci/\u=0/\i=5):=by
 obtain ⟨u',e,u0,u1⟩:=turn_u hu;have:u=u':=by injection e with _ e;injection e
 subst this;have htr:=tr_of hi hc (fun h=>u0 (decide_eq_false h)) u1;obtain ⟨hp,hk⟩:=pk_is hi hc;have hokt:=lay_ok hC.ok ht;have nep:¬ (i=0/\(t:Int)=b)->csN wh b i t=t:=fun h=>by unfold csN;rw [if_neg h]
 have eph:(t:Int)/8-(f:Int)/8=sdb wh->i=0->(t:Int)=b->z t=46/\csN wh b i t<64/\csN wh b i t=f/8*8+t%8/\(if wh then csN wh b i t+8=t else csN wh b i t=t+8)/\ixc (z (csN wh b i t))=((bg (!wh):Nat):Int):=fun hd h0 hb=>by
  obtain ⟨z0,h2⟩:=beh_w hC.beh hb;unfold csN;rw [if_pos ⟨h0,hb⟩];cases wh
  ·simp only [Bool.false_eq_true,if_false,sdb] at h2 hd ⊢;exact ⟨z0,by omega,by omega,trivial,by rw [h2.2.2];exact pawn_ix.2⟩
  ·simp only [if_true,sdb] at h2 hd ⊢;exact ⟨z0,by omega,by omega,by omega,by rw [h2.2.2];exact pawn_ix.1⟩
 unfold tgL at hm;rw [List.mem_append,List.mem_filter] at hm;rcases hm with ⟨hm,hmay⟩|hm
 ·left;rw [att_mem hf hi hc ht] at hm
  have hno:coc (z t)≠sdb wh:=by
   unfold mayB at hmay;rw [hp] at hmay;by_cases e0:i=0
   ·rw [decide_eq_true e0,if_pos rfl,Bool.or_eq_true,beq_iff_eq] at hmay;rcases hmay with hb|hb
    ·rw [(beh_w hC.beh hb).1];exact co_dot _
    ·rw [man_co hokt,decide_eq_true_eq] at hb;rw [hb];exact fun k=>co_ne wh k.symm
   ·rw [decide_eq_false e0,if_neg (by simp),Bool.not_eq_true',man_co hokt,decide_eq_false_iff_not] at hmay;exact hmay
  refine ⟨⟨hi,hf,ht,hc,hno,nep,fun h0 hb=>?_,htr⟩,fun h5=>?_⟩
  ·subst h0;exact eph (pawn_step hm) rfl hb
  ·subst h5;have:=(attI_free hm).1;rw [attI_side _ 5 (by omega) _ 1] at this;exact king_step f hf t ht this
 ·rw [hp,hk] at hm;by_cases e0:i=0
  ·left;have hr:=hC.pw wh f hf (by rw [hc,e0];rfl);rw [decide_eq_true e0,if_pos rfl,ah_list hf hr] at hm;have hne:=ah_not hC.beh hf (by rw [hc,e0];rfl) hm hr
   have hz:z t=46:=by
    rcases hm with ⟨e1,e2⟩|⟨_,e1,_,e2⟩
    ·rw [e1];exact e2
    ·rw [e1];exact e2
   exact ⟨⟨hi,hf,ht,hc,by rw [hz];exact co_dot _,nep,fun _ hb=>absurd hb hne,htr⟩,fun h5=>by omega⟩
  ·rw [decide_eq_false e0,if_neg (by simp)] at hm;by_cases e5:i=5
   ·right;subst e5;rw [decide_eq_true rfl,if_pos rfl] at hm;obtain ⟨h1,h2⟩:=king_home hC hf hc;have hu0:=u0 (decide_eq_false e0);rcases List.mem_append.1 hm with hm|hm
    ·unfold cgR at hm;split at hm
     ·rename_i hh;rw [Bool.and_eq_true] at hh;have hfe:=h1 hh.1;have e:hK (cgF wh)+2=casT (cgF wh)/\hD (cgF wh)=1/\hN (cgF wh)=2:=by cases wh<;>decide
      refine ⟨cgF wh,cas_of hC (by cases wh<;>decide) (by cases wh<;>rfl) hh.1 ?_,hfe,?_,hu0,rfl⟩
      ·rw [e.2.1,e.2.2,<-hfe];exact hh.2
      ·rw [List.mem_singleton.1 hm,<-e.1,<-hfe]
     ·cases hm
    ·unfold cgM at hm;split at hm
     ·rename_i hh;rw [Bool.and_eq_true] at hh;have hfe:=h2 hh.1;have e:hK (cgF wh+1)-2=casT (cgF wh+1)/\hD (cgF wh+1)=-1/\hN (cgF wh+1)=3:=by cases wh<;>decide
      refine ⟨cgF wh+1,cas_of hC (by cases wh<;>decide) (by cases wh<;>rfl) hh.1 ?_,hfe,?_,hu0,rfl⟩
      ·rw [e.2.1,e.2.2,<-hfe];exact hh.2
      ·rw [List.mem_singleton.1 hm,<-e.1,<-hfe]
     ·cases hm
   ·rw [decide_eq_false e5,if_neg (by simp)] at hm;cases hm
theorem sqs_mem {s:BitVec 64} {n:Nat}:n∈sqs s↔n<64/\s.getLsbD n=true:=by
 unfold sqs;rw [List.mem_filter,List.mem_range]
theorem alU_mem {z:Nat->UInt8} {wh:Bool} {fc:Nat->Bool} {b:Int} (hC:Can z wh fc b) {x:Mv}:x∈alU z wh fc b 64↔∃ i f t u,x=(f,t,u)/\i<6/\f<64/\t<64/\ixc (z f)=((bg wh+i:Nat):Int)/\t∈tgL z wh fc b f/\(f,t,u)∈turnsB (decide (i=0)) f t:=by
 unfold alU alS;rw [List.mem_flatMap];constructor
 ·rintro ⟨f,hf,h⟩;have hf:=List.mem_range.1 hf;split at h
  ·rename_i hm;rw [man_co (lay_ok hC.ok hf),decide_eq_true_eq] at hm;obtain ⟨i,hi,e1,_⟩:=ix_of_co hm;obtain ⟨t,ht,h⟩:=List.mem_flatMap.1 h;unfold alF at h;rw [(pk_is hi e1).1] at h;obtain ⟨u,rfl,_,_⟩:=turn_u h
   have ht64:t<64:=by
    unfold tgL at ht;rw [List.mem_append,List.mem_filter] at ht;rcases ht with ⟨a,_⟩|ht
    ·exact att_lt hf a
    ·obtain ⟨hp,hk⟩:=pk_is hi e1;rw [hp,hk] at ht;by_cases e0:i=0
     ·rw [decide_eq_true e0,if_pos rfl,ah_list hf (hC.pw wh f hf (by rw [e1,e0];rfl))] at ht;have hr:=hC.pw wh f hf (by rw [e1,e0];rfl);rcases ht with ⟨a,_⟩|⟨a,c,_⟩
      ·rw [a];unfold fw;split<;>omega
      ·rw [c];unfold startR at a;unfold fw;cases wh<;>simp at a<;>simp<;>omega
     ·rw [decide_eq_false e0,if_neg (by simp)] at ht;by_cases e5:i=5
      ·subst e5;rw [decide_eq_true rfl,if_pos rfl] at ht;obtain ⟨h1,h2⟩:=king_home hC hf e1;rcases List.mem_append.1 ht with ht|ht
       ·unfold cgR at ht;split at ht
        ·rename_i hh;rw [Bool.and_eq_true] at hh;rw [List.mem_singleton.1 ht,h1 hh.1];cases wh<;>decide
        ·cases ht
       ·unfold cgM at ht;split at ht
        ·rw [List.mem_singleton.1 ht];omega
        ·cases ht
      ·rw [decide_eq_false e5,if_neg (by simp)] at ht;cases ht
   exact ⟨i,f,t,u,rfl,hi,hf,ht64,e1,ht,h⟩
  ·cases h
 ·rintro ⟨i,f,t,u,rfl,hi,hf,ht,hc,hm,hu⟩;refine ⟨f,List.mem_range.2 hf,?_⟩;rw [if_pos (by rw [man_co (lay_ok hC.ok hf)];exact decide_eq_true (coc_ix hi hc))];refine List.mem_flatMap.2 ⟨t,hm,?_⟩;unfold alF;rw [(pk_is hi hc).1];exact hu
theorem legal_same {z:Nat->UInt8} {wh:Bool} {fc:Nat->Bool} {b:Int} (hC:Can z wh fc b) (h0:-1<=b) (h1:b<=63) {i f t:Nat} {u:UInt8} (hi:i<6) (hf:f<64) (ht:t<64) (hc:ixc (z f)=((bg wh+i:Nat):Int)) (hm:t∈tgL z wh fc b f) (hu:(f,t,u)∈turnsB (decide (i=0)) f t) :
  (∃ y:Nat,y<64/\kingR (plZ z b (f,t,u)) wh=(y:Int))/\legalB (layS z 64) wh (behB b) i f t=letP z wh b (f,t,u):=by
 rcases classify hC hi hf ht hc hm hu with ⟨hP,kg⟩|⟨ci,hK',e1,e2,e3,e4⟩
 ·exact legal_plain hP kg hC.ok (hC.k1 wh) h0 h1
 ·subst e1 e2 e3 e4;obtain ⟨a1,a2⟩:=cas_letters hC (b:=b) hK';exact ⟨⟨casT ci,ht,a1⟩,by rw [a2,cas_sets hC h0 h1 hK']⟩
theorem letOk_of {z:Nat->UInt8} {wh:Bool} {fc:Nat->Bool} {b:Int} (hC:Can z wh fc b) (h0:-1<=b) (h1:b<=63):LetOk z wh fc b:=by
 have king:∀ f t u,(f,t,u)∈alU z wh fc b 64->kingB (z f)=true->(t=f+2\/t+2=f)->f=4\/f=60:=fun f t u hx hk he=>by
  obtain ⟨i,f',t',u',e,hi,hf,ht,hc,hm,hu⟩:=(alU_mem hC).1 hx;have e1:f=f':=by injection e
  have e2:t=t':=by injection e with _ e;injection e
  have e3:u=u':=by injection e with _ e;injection e
  subst e1 e2 e3;rcases classify hC hi hf ht hc hm hu with ⟨hP,kg⟩|⟨ci,hK',e1,_,_,_⟩
  ·rw [(pk_is hi hc).2,decide_eq_true_eq] at hk;have:=kg hk;omega
  ·rw [e1];unfold hK;split<;>omega
 refine ⟨fun f hf hm hk hfc=>?_,fun f t u hx hk he=>?_,fun f t u hx hk he=>?_,fun x hx=>?_⟩
 ·rw [man_co (lay_ok hC.ok hf),decide_eq_true_eq] at hm;obtain ⟨i,hi,e1,_⟩:=ix_of_co hm;rw [(pk_is hi e1).2,decide_eq_true_eq] at hk;subst hk;obtain ⟨h1,h2⟩:=king_home hC hf e1;rw [Bool.or_eq_true] at hfc;rcases hfc with e|e
  ·rw [h1 e];cases wh<;>decide
  ·rw [h2 e];cases wh<;>decide
 ·have:=king f t u hx hk (.inl he);omega
 ·have:=king f t u hx hk (.inr he);omega
 ·obtain ⟨i,f,t,u,rfl,hi,hf,ht,hc,hm,hu⟩:=(alU_mem hC).1 hx;exact (legal_same hC h0 h1 hi hf ht hc hm hu).1
theorem same_mem {z:Nat->UInt8} {wh:Bool} {fc:Nat->Bool} {b:Int} (hC:Can z wh fc b) (h0:-1<=b) (h1:b<=63) (x:Mv):x∈letL z wh fc b↔x∈movS z wh fc b:=by
 have hbg:=bg_two wh;unfold letL movS uptoS placeS fromS toS;rw [List.mem_filter,alU_mem hC];simp only [List.mem_flatMap,List.mem_range,sqs_mem];constructor
 ·rintro ⟨⟨i,f,t,u,rfl,hi,hf,ht,hc,hm,hu⟩,hl⟩;refine ⟨i,hi,f,⟨hf,by rw [lay64 z _ f hf];exact decide_eq_true hc⟩,t,⟨ht,(targ_same hC h0 h1 hi hf ht hc).1 hm⟩,?_⟩;rw [(legal_same hC h0 h1 hi hf ht hc hm hu).2,if_pos hl];exact hu
 ·rintro ⟨i,hi,f,⟨hf,hfb⟩,t,⟨ht,htb⟩,hx⟩;rw [lay64 z _ f hf,decide_eq_true_eq] at hfb;have hm:=(targ_same hC h0 h1 hi hf ht hfb).2 htb;split at hx
  ·rename_i hl;obtain ⟨u,rfl,_,_⟩:=turn_u hx;refine ⟨⟨i,f,t,u,rfl,hi,hf,ht,hfb,hm,hx⟩,?_⟩;rw [<-(legal_same hC h0 h1 hi hf ht hfb hm hx).2];exact hl
  ·cases hx
end Go.Proofs.YtnfakamfmkhlbabGreatDoor.C
