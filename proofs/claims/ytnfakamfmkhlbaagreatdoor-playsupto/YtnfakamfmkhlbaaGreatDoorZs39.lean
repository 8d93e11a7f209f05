import Derived.Test.YtnfakamfmkhlbaaGreatDoorZs37
import Derived.Test.YtnfakamfmkhlbaaGreatDoorZs38
import Derived.Test.YtnfakamfmkhlbaaGreatDoorZs32
import Derived.Test.YtnfakamfmkhlbaaGreatDoorZs21
import Derived.Test.YtnfakamfmkhlbaaGreatDoorKz2
set_option maxRecDepth 100000
set_option maxHeartbeats 4000000
set_option linter.unusedSimpArgs false
namespace Go.Proofs.YtnfakamfmkhlbaaGreatDoor.C
open Go.RowKit
open Go.Proofs.YtnfakamfmkhlbaaGreatDoor.P
theorem lastR_bit:∀ t,t<64->lastB.getLsbD t=lastR t:=by decide +kernel
theorem turns_iff {p:Bool} {f t:Nat} (ht:t<64) {u:UInt8} (hu:u∈U5):(f,t,u)∈turnsB p f t↔(decide (u≠0)==(p&&lastR t))=true:=by
 unfold turnsB;rw [lastR_bit t ht];unfold U5 at hu;simp only [List.mem_cons,List.not_mem_nil,or_false] at hu;cases p&&lastR t
 ·rw [if_neg (by simp)];rcases hu with rfl|rfl|rfl|rfl|rfl<;>simp
 ·rw [if_pos rfl];rcases hu with rfl|rfl|rfl|rfl|rfl<;>simp
theorem kd_ix {c:UInt8} {wh:Bool} {i:Nat} (hi:i<6) (h:ixc c=((bg wh+i:Nat):Int)):kdc c=(i:Int):=by
 unfold kdc;rw [h];unfold bg;cases wh
 ·simp only [Bool.false_eq_true,if_false];rw [if_pos (by omega)];omega
 ·simp only [if_true];rw [if_neg (by omega)];omega
theorem pawn_ah {z:Nat->UInt8} {wh:Bool} {f t:Nat} (hf:f<64) (_ht:t<64) (hr:¬ (f/8=0\/f/8=7)):(decide (f%8=t%8)&&decide (z t=46)&&pwU z wh f t)=true↔AhP z wh f t:=by
 unfold pwU upR AhP startR;simp only [Bool.and_eq_true,Bool.or_eq_true,decide_eq_true_eq];cases wh
 ·have e1:fw false f 1=f-8:=rfl;have e2:fw false f 2=f-16:=rfl;rw [e1,e2];simp only [sdb,Bool.false_eq_true,if_false];constructor
  ·rintro ⟨⟨h1,h2⟩,h3|⟨⟨h3,h4⟩,h5⟩⟩
   ·have:t=f-8:=by omega
    exact .inl ⟨this,by rw [<-this];exact h2⟩
   ·have:t=f-16:=by omega
    exact .inr ⟨h4,this,h5,by rw [<-this];exact h2⟩
  ·rintro (⟨h1,h2⟩|⟨h1,h2,h3,h4⟩)
   ·exact ⟨⟨by omega,by rw [h1];exact h2⟩,.inl (by omega)⟩
   ·exact ⟨⟨by omega,by rw [h2];exact h4⟩,.inr ⟨⟨by omega,h1⟩,h3⟩⟩
 ·have e1:fw true f 1=f+8:=rfl;have e2:fw true f 2=f+16:=rfl;rw [e1,e2];simp only [sdb,if_true];constructor
  ·rintro ⟨⟨h1,h2⟩,h3|⟨⟨h3,h4⟩,h5⟩⟩
   ·have:t=f+8:=by omega
    exact .inl ⟨this,by rw [<-this];exact h2⟩
   ·have:t=f+16:=by omega
    exact .inr ⟨h4,this,h5,by rw [<-this];exact h2⟩
  ·rintro (⟨h1,h2⟩|⟨h1,h2,h3,h4⟩)
   ·exact ⟨⟨by omega,by rw [h1];exact h2⟩,.inl (by omega)⟩
   ·exact ⟨⟨by omega,by rw [h2];exact h4⟩,.inr ⟨⟨by omega,h1⟩,h3⟩⟩
theorem ah_no {z:Nat->UInt8} {wh:Bool} {f t:Nat} (hr:¬ (f/8=0\/f/8=7)) (h:AhP z wh f t):z t=46/\attI (zI z) 0 (sdb wh) (f:Int) (t:Int)=false:=by
 have e:t%8=f%8:=by
  unfold AhP startR fw at h;cases wh<;>simp at h<;>omega
 refine ⟨?_,?_⟩
 ·rcases h with ⟨h1,h2⟩|⟨_,h1,_,h2⟩
  ·rw [h1];exact h2
  ·rw [h1];exact h2
 ·cases ha:attI (zI z) 0 (sdb wh) (f:Int) (t:Int) with
  | false=>rfl
  | true=>exact absurd (by omega) (pawn_file ha)
theorem home_hK:∀ i,i<4->homeK i=((hK i:Nat):Int)/\homeT i=((casT i:Nat):Int)/\homeR i=((hR i:Nat):Int):=by decide +kernel
theorem clr_same {z:Nat->UInt8} {i:Nat} (hi:i<4):clrH z i=mcE z (hK i) (hD i) (hN i):=by
 have z46:∀ n,(((z n).toNat:Int)=46)↔(z n==46)=true:=fun n=>by
  constructor
  ·intro h;have:z n=46:=u8_of h rfl;simp [this]
  ·intro h;have:z n=46:=by simpa using h
   rw [this];rfl
 unfold clrH freeI mcE;rw [Bool.eq_iff_iff,decide_eq_true_eq,List.all_eq_true];have hc:i=0\/i=1\/i=2\/i=3:=by omega
 constructor
 ·intro h j hj;have hj:=List.mem_range.1 hj;rw [<-z46]
  have e:sqK (hK i) (hD i) (j+1)=(wayP i (j+1)).toNat:=by
   unfold sqK wayP homeK hD hK;rcases hc with rfl|rfl|rfl|rfl<;>simp<;>omega
  rw [e];refine h (j+1) ?_ (by omega);unfold hN at hj;unfold wayL;rcases hc with rfl|rfl|rfl|rfl<;>simp at hj ⊢<;>omega
 ·intro h j hj h1
  have:=h (j-1) (List.mem_range.2 (by
   unfold wayL at hj;unfold hN;rcases hc with rfl|rfl|rfl|rfl<;>simp at hj ⊢<;>omega))
  rw [<-z46] at this;rw [<-this]
  have e:sqK (hK i) (hD i) (j-1+1)=(wayP i j).toNat:=by
   unfold sqK wayP homeK hD hK;rcases hc with rfl|rfl|rfl|rfl<;>simp<;>omega
  rw [e]
theorem qqg {z:Nat->UInt8} (hok:layOk z=true) {i:Nat} (hi:i<4):freeC z i=mcB z (decide (i<2)) (hK i) (hD i) (hN i):=by
 unfold freeC mcB;rw [clr_same hi];unfold mcA;have e3:∀ p:Nat->Bool,(List.range 3).all p=(p 0&&(p 1&&(p 2&&true))):=fun p=>rfl
 rw [e3];have key:∀ j,j<3->attLB z (sqK (hK i) (hD i) j) (!decide (i<2))=attR z (((sqK (hK i) (hD i) j:Nat)):Int) (!decide (i<2)):=fun j hj=>jb hok (wit_lt i hi j (by omega) (by unfold hN;split<;>omega)) _
 rw [key 0 (by omega),key 1 (by omega),key 2 (by omega)]
 have q:homeK i=((sqK (hK i) (hD i) 0:Nat):Int)/\(homeK i+homeT i).tdiv 2=((sqK (hK i) (hD i) 1:Nat):Int)/\homeT i=((sqK (hK i) (hD i) 2:Nat):Int):=by
  have hc:i=0\/i=1\/i=2\/i=3:=by omega
  rcases hc with rfl|rfl|rfl|rfl<;>decide
 rw [<-q.1,<-q.2.1,<-q.2.2];cases mcE z (hK i) (hD i) (hN i)<;>cases attR z (homeK i) (!decide (i<2))<;>cases attR z ((homeK i+homeT i).tdiv 2) (!decide (i<2))<;>cases attR z (homeT i) (!decide (i<2))<;>rfl
theorem qx8 {wh:Bool} {fc:Nat->Bool} {f t:Nat} {i:Nat} (hi:i<4):casB wh fc f t 0 i=true↔fc i=true/\wh=decide (i<2)/\f=hK i/\t=casT i:=by
 obtain ⟨e1,e2,_⟩:=home_hK i hi;unfold casB;rw [e1,e2];simp only [Bool.and_eq_true,beq_iff_eq];constructor
 ·rintro ⟨⟨⟨⟨h1,h2⟩,h3⟩,h4⟩,_⟩;refine ⟨h1,?_,by omega,by omega⟩
  revert h2
  cases wh<;>cases decide (i<2)<;>simp [sdb]
 ·rintro ⟨h1,h2,h3,h4⟩;exact ⟨⟨⟨⟨h1,by rw [h2]⟩,by omega⟩,by omega⟩,rfl⟩
theorem qx7 {z:Nat->UInt8} {wh:Bool} {fc:Nat->Bool} {f t:Nat}:(decide (0<=casR wh fc f t 0)&&freeC z (casR wh fc f t 0).toNat)=true↔∃ i,i<4/\wh=decide (i<2)/\fc i=true/\f=hK i/\t=casT i/\freeC z i=true/\casR wh fc f t 0=(i:Int):=by
 have hu:casR wh fc f t 0=if casB wh fc f t 0 0 then 0 else if casB wh fc f t 0 1 then 1 else if casB wh fc f t 0 2 then 2 else if casB wh fc f t 0 3 then 3 else -1:=rfl;constructor
 ·intro h;rw [Bool.and_eq_true,decide_eq_true_eq] at h;obtain ⟨h1,h2⟩:=h
  have go:∀ i,i<4->casB wh fc f t 0 i=true->casR wh fc f t 0=(i:Int)->∃ i,i<4/\wh=decide (i<2)/\fc i=true/\f=hK i/\t=casT i/\freeC z i=true/\casR wh fc f t 0=(i:Int):=fun i hi hc he=>by
   obtain ⟨a1,a2,a3,a4⟩:=(qx8 hi).1 hc;rw [he] at h2;exact ⟨i,hi,a2,a1,a3,a4,h2,he⟩
  by_cases c0:casB wh fc f t 0 0=true
  ·exact go 0 (by omega) c0 (by rw [hu,if_pos c0];rfl)
  ·by_cases c1:casB wh fc f t 0 1=true
   ·exact go 1 (by omega) c1 (by rw [hu,if_neg c0,if_pos c1];rfl)
   ·by_cases c2:casB wh fc f t 0 2=true
    ·exact go 2 (by omega) c2 (by rw [hu,if_neg c0,if_neg c1,if_pos c2];rfl)
    ·by_cases c3:casB wh fc f t 0 3=true
     ·exact go 3 (by omega) c3 (by rw [hu,if_neg c0,if_neg c1,if_neg c2,if_pos c3];rfl)
     ·rw [hu,if_neg c0,if_neg c1,if_neg c2,if_neg c3] at h1;omega
 ·rintro ⟨i,hi,a1,a2,a3,a4,a5,a6⟩;rw [a6,Bool.and_eq_true,decide_eq_true_eq];exact ⟨by omega,a5⟩
theorem casR_is {wh:Bool} {fc:Nat->Bool} {f t i:Nat} (hi:i<4) (h1:fc i=true) (h2:wh=decide (i<2)) (h3:f=hK i) (h4:t=casT i):casR wh fc f t 0=(i:Int):=by
 have hu:casR wh fc f t 0=if casB wh fc f t 0 0 then 0 else if casB wh fc f t 0 1 then 1 else if casB wh fc f t 0 2 then 2 else if casB wh fc f t 0 3 then 3 else -1:=rfl;have hp:casB wh fc f t 0 i=true:=(qx8 hi).2 ⟨h1,h2,h3,h4⟩
 have hn:∀ j,j<4->j≠i->¬ casB wh fc f t 0 j=true:=fun j hj hne h=>by
  have:=((qx8 hj).1 h).2.2.2;rw [h4] at this
  revert this
  unfold casT;have hc:i=0\/i=1\/i=2\/i=3:=by omega
  have hd:j=0\/j=1\/j=2\/j=3:=by omega
  rcases hc with rfl|rfl|rfl|rfl<;>rcases hd with rfl|rfl|rfl|rfl<;>simp at hne ⊢
 rw [hu];have hc:i=0\/i=1\/i=2\/i=3:=by omega
 rcases hc with rfl|rfl|rfl|rfl
 ·rw [if_pos hp];rfl
 ·rw [if_neg (hn 0 (by omega) (by omega)),if_pos hp];rfl
 ·rw [if_neg (hn 0 (by omega) (by omega)),if_neg (hn 1 (by omega) (by omega)),if_pos hp];rfl
 ·rw [if_neg (hn 0 (by omega) (by omega)),if_neg (hn 1 (by omega) (by omega)),if_neg (hn 2 (by omega) (by omega)),if_pos hp];rfl
theorem cg_iff {z:Nat->UInt8} {wh:Bool} {fc:Nat->Bool} {b:Int} (hC:Can z wh fc b) {f t:Nat} (hf:f<64) (hc:ixc (z f)=((bg wh+5:Nat):Int)):t∈cgR z wh fc f++cgM z wh fc f↔(decide (0<=casR wh fc f t 0)&&freeC z (casR wh fc f t 0).toNat)=true:=by
 obtain ⟨k1,k2⟩:=zh hC hf hc;rw [qx7,List.mem_append];have e:(hK (cgF wh)+2=casT (cgF wh)/\hD (cgF wh)=1/\hN (cgF wh)=2/\cgF wh<4/\decide (cgF wh<2)=wh)/\(hK (cgF wh+1)-2=casT (cgF wh+1)/\hD (cgF wh+1)=-1/\hN (cgF wh+1)=3/\cgF wh+1<4/\decide (cgF wh+1<2)=wh):=by cases wh<;>decide
 obtain ⟨⟨a1,a2,a3,a4,a5⟩,⟨b1,b2,b3,b4,b5⟩⟩:=e;constructor
 ·rintro (h|h)
  ·unfold cgR at h;split at h
   ·rename_i hh;rw [Bool.and_eq_true] at hh;have hfe:=k1 hh.1;have ht:t=casT (cgF wh):=by rw [List.mem_singleton.1 h,<-a1,<-hfe]
    exact ⟨cgF wh,a4,a5.symm,hh.1,hfe,ht,by rw [qqg hC.ok a4,a5,a2,a3,<-hfe];exact hh.2,casR_is a4 hh.1 a5.symm hfe ht⟩
   ·cases h
  ·unfold cgM at h;split at h
   ·rename_i hh;rw [Bool.and_eq_true] at hh;have hfe:=k2 hh.1;have ht:t=casT (cgF wh+1):=by rw [List.mem_singleton.1 h,<-b1,<-hfe]
    exact ⟨cgF wh+1,b4,b5.symm,hh.1,hfe,ht,by rw [qqg hC.ok b4,b5,b2,b3,<-hfe];exact hh.2,casR_is b4 hh.1 b5.symm hfe ht⟩
   ·cases h
 ·rintro ⟨i,hi,h1,h2,h3,h4,h5,_⟩;rw [qqg hC.ok hi,<-h1] at h5
  have:i=cgF wh\/i=cgF wh+1:=by
   have hh:i=0\/i=1\/i=2\/i=3:=by omega
   rcases hh with rfl|rfl|rfl|rfl<;>(subst h1;decide)
  rcases this with rfl|rfl
  ·left;unfold cgR;rw [a2,a3,<-h3] at h5;rw [if_pos (by rw [h2,h5];rfl),h4,<-a1,h3];exact List.mem_singleton.2 rfl
  ·right;unfold cgM;rw [b2,b3,<-h3] at h5;rw [if_pos (by rw [h2,h5];rfl),h4,<-b1,h3];exact List.mem_singleton.2 rfl
theorem qvt {z:Nat->UInt8} {wh:Bool} {fc:Nat->Bool} {b:Int} (hC:Can z wh fc b) {f t:Nat} {u:UInt8} (hf:f<64) (ht:t<64) (hu:u∈U5) :
  goesR z wh fc b f t u=true↔∃ i,i<6/\ixc (z f)=((bg wh+i:Nat):Int)/\t∈tgL z wh fc b f/\(f,t,u)∈turnsB (decide (i=0)) f t:=by
 have hokt:=ja hC.ok ht;by_cases hco:coc (z f)=sdb wh
 case neg =>
  constructor
  ·intro h;unfold goesR at h;rw [decide_eq_false hco] at h;simp at h
  ·rintro ⟨i,hi,hc,_⟩;exact absurd (qqi hi hc) hco
 obtain ⟨i,hi,hc,_⟩:=jy hco;have hk:=kd_ix hi hc;obtain ⟨hp,hkg⟩:=qqq hi hc
 have uniq:(∃ i,i<6/\ixc (z f)=((bg wh+i:Nat):Int)/\t∈tgL z wh fc b f/\(f,t,u)∈turnsB (decide (i=0)) f t)↔(t∈tgL z wh fc b f/\(f,t,u)∈turnsB (decide (i=0)) f t):=by
  constructor
  ·rintro ⟨j,hj,e,h⟩;have:j=i:=by rw [hc] at e;omega
   rw [this] at h;exact h
  ·intro h;exact ⟨i,hi,hc,h⟩
 rw [uniq,turns_iff ht hu];unfold goesR;rw [decide_eq_true hco,hk,Bool.true_and,Bool.and_eq_true,Bool.and_eq_true]
 have e0:decide ((i:Int)=0)=decide (i=0):=by
  by_cases h:i=0
  ·simp [h]
  ·rw [decide_eq_false h,decide_eq_false (by omega)]
 rw [e0]
 have key:∀ (hU:(decide (u≠0)==(decide (i=0)&&lastR t))=true),((!decide (coc (z t)=sdb wh))=true/\(if (i:Int)=0 then pwR z wh b f t else mnR z wh fc (i:Int).toNat f t u)=true)↔t∈tgL z wh fc b f:=by
  intro hU;rw [Bool.not_eq_true',decide_eq_false_iff_not];unfold tgL;rw [List.mem_append,List.mem_filter,qqw hf hi hc ht,hp,hkg];unfold mayB;rw [hp,qqd hokt,qqd hokt];by_cases i0:i=0
  ·subst i0;have hr:=hC.pw wh f hf hc;rw [decide_eq_true rfl,if_pos rfl,if_pos rfl,if_pos (show ((0:Nat):Int)=0 from rfl),qj9 hf hr];unfold pwR;rw [Bool.or_eq_true,beq_iff_eq,decide_eq_true_eq];cases ha:attI (zI z) 0 (sdb wh) (f:Int) (t:Int) with
   | true =>
    rw [if_pos rfl,Bool.or_eq_true,decide_eq_true_eq,decide_eq_true_eq];constructor
    ·rintro ⟨_,h|h⟩
     ·exact .inl ⟨rfl,.inr h⟩
     ·exact .inl ⟨rfl,.inl h⟩
    ·rintro (⟨_,h|h⟩|h)
     ·exact ⟨by rw [(beh_w hC.beh h).1];exact qqj _,.inr h⟩
     ·exact ⟨by rw [h];exact fun e=>co_ne wh e.symm,.inl h⟩
     ·rw [(ah_no hr h).2] at ha;cases ha
   | false =>
    rw [if_neg (by simp),pawn_ah hf ht hr];constructor
    ·rintro ⟨_,h⟩;exact .inr h
    ·rintro (⟨h,_⟩|h)
     ·cases h
     ·exact ⟨by rw [(ah_no hr h).1];exact qqj _,h⟩
  ·rw [decide_eq_false i0,if_neg (by omega),if_neg (by simp),if_neg (by simp),Int.toNat_natCast,Bool.not_eq_true',decide_eq_false_iff_not];unfold mnR;by_cases i5:i=5
   ·subst i5
    have u0:u=0:=by
     rw [beq_iff_eq] at hU;have:decide (u≠0)=false:=hU;simpa using this
    subst u0;rw [decide_eq_true rfl,if_pos rfl,cg_iff hC hf hc,Bool.true_and];cases ha:attI (zI z) 5 (sdb wh) (f:Int) (t:Int) with
    | true =>
     rw [if_pos rfl];constructor
     ·rintro ⟨h,_⟩;exact .inl ⟨rfl,h⟩
     ·rintro (⟨_,h⟩|h)
      ·exact ⟨h,rfl⟩
      ·obtain ⟨ci,hci,c1,c2,c3,c4,c5,_⟩:=qx7.1 h;rw [qqg hC.ok hci,<-c1] at c5;have hcas:=cas_of hC hci c1 c2 c5;refine ⟨?_,rfl⟩;rw [c4,hcas.dot (cas_in ci hci).1];exact qqj _
    | false =>
     rw [if_neg (by simp)];constructor
     ·rintro ⟨_,h⟩;exact .inr h
     ·rintro (⟨h,_⟩|h)
      ·cases h
      ·refine ⟨?_,h⟩;obtain ⟨ci,hci,c1,c2,c3,c4,c5,_⟩:=qx7.1 h;rw [qqg hC.ok hci,<-c1] at c5;have hcas:=cas_of hC hci c1 c2 c5;rw [c4,hcas.dot (cas_in ci hci).1];exact qqj _
   ·rw [decide_eq_false i5];cases ha:attI (zI z) i (sdb wh) (f:Int) (t:Int) with
    | true=>simp
    | false=>simp
 constructor
 ·rintro ⟨⟨h1,h2⟩,h3⟩;exact ⟨(key h2).1 ⟨h1,h3⟩,h2⟩
 ·rintro ⟨h1,h2⟩;have:=(key h2).2 h1;exact ⟨⟨this.1,h2⟩,this.2⟩
end Go.Proofs.YtnfakamfmkhlbaaGreatDoor.C
namespace Go.Proofs.YtnfakamfmkhlbaaGreatDoor.C
open Go.ChangeShapes Go.WideShapes Go.ChangeAt Go.RowKit
open Go.Proofs.YtnfakamfmkhlbaaGreatDoor.P
attribute [local go_sem] qd qi
def pasB (z:Nat->UInt8) (b:Int) (f t:Nat):Bool:=decide (kdc (z f)=0)&&decide ((t:Int)=b)&&decide (f%8≠t%8)
def plU (u:UInt8):Nat:=if u=110 then 1 else if u=98 then 2 else if u=114 then 3 else 4
def bz1 (z:Nat->UInt8) (b:Int) (f t:Nat):Nat->UInt8:=if pasB z b f t then upd z (f/8*8+t%8) 46 else z
def bz2 (z:Nat->UInt8) (b:Int) (f t:Nat):Nat->UInt8:=upd (upd (bz1 z b f t) t (z f)) f 46
def bz3 (z:Nat->UInt8) (wh:Bool) (b:Int) (f t:Nat) (u:UInt8):Nat->UInt8:=if u=0 then bz2 z b f t else upd (bz2 z b f t) t (manL (plU u) wh)
def kcB (z:Nat->UInt8) (wh:Bool) (fc:Nat->Bool) (f t:Nat) (u:UInt8):Bool:=decide (kdc (z f)=5)&&decide (0<=casR wh fc f t u)
def bz4 (z:Nat->UInt8) (wh:Bool) (fc:Nat->Bool) (b:Int) (f t:Nat) (u:UInt8):Nat->UInt8:=if kcB z wh fc f t u then upd (upd (bz3 z wh b f t u) (homeR (casR wh fc f t u).toNat).toNat 46) ((f+t)/2) (manL 3 wh) else bz3 z wh b f t u
def toB (f t k:Nat):Bool:=decide ((f:Int)=homeK k)||decide ((f:Int)=homeR k)||decide ((t:Int)=homeK k)||decide ((t:Int)=homeR k)
def bfc (fc:Nat->Bool) (f t:Nat) (n:Nat) (k:Nat):Bool:=fc k&&!(decide (k<n)&&toB f t k)
def twoB (z:Nat->UInt8) (f t:Nat):Bool:=decide (kdc (z f)=0)&&decide (upR f t=2\/upR f t=-2)
def bbI (z:Nat->UInt8) (wh:Bool) (f t:Nat):Int:=if twoB z f t then (f:Int)+8*sdb wh else -1
def zeroH (z:Nat->UInt8) (b:Int) (f t:Nat):Bool:=decide (kdc (z f)=0)||(!decide (z t=46)||pasB z b f t)
def bhI (z:Nat->UInt8) (b:Int) (f t:Nat) (h:Int):Int:=if zeroH z b f t then 0 else if h<65535 then h+1 else h
def bgI (wh:Bool) (g:Int):Int:=if !wh&&decide (g<65535) then g+1 else g
structure Bh (w:World) (PA:Array Value) (f t:Nat) (u:UInt8) (B:Nat) (Q:Array Value) (W:World):Prop where
 pm:Pm w PA f t u W
 rs:W.heap[w.heap.size+2]?=some (.cells Tryz.zeroCells25 25)
 q:W.heap[B]?=some (.cells Q 25)
 lo:w.heap.size+2<B
 hi:B<W.heap.size
theorem Bh.next {w W W':World} {PA Q:Array Value} {f t B:Nat} {u:UInt8} (h:Bh w PA f t u B Q W) (g:Gr W W'):Bh w PA f t u B Q W' :=
 ⟨h.pm.next g,(Below.block g _ (Nat.lt_trans h.lo h.hi)).trans h.rs,(Below.block g _ h.hi).trans h.q,h.lo,Nat.lt_of_lt_of_le h.hi (Below.size g)⟩
theorem Bh.set {w W:World} {PA Q:Array Value} {f t B:Nat} {u:UInt8} (h:Bh w PA f t u B Q W) (i:Nat) (v:Value):Bh w PA f t u B (Q.setIfInBounds i v) (W.setCell ⟨B,i,none⟩ v):=by
 have fs:Fr (fun k _=>k≠B) W (W.setCell ⟨B,i,none⟩ v):=(Fr.refl _ _).setCell _ (fun o _ q=>q rfl);have lo:=h.lo;have hs:(W.setCell ⟨B,i,none⟩ v).heap.size=W.heap.size:=World.size_setCell ..;refine ⟨⟨fs.same _ _ h.pm.pa (by omega),fs.same _ _ h.pm.mv (by omega),by rw [hs];exact h.pm.lt,Below.setCell h.pm.gr (show w.heap.size<=B by omega) _⟩,fs.same _ _ h.rs (by omega),qx h.q,lo,by rw [hs];exact h.hi⟩
theorem Bh.drew {w W:World} {PA Q:Array Value} {f t B:Nat} {u:UInt8} (h:Bh w PA f t u B Q W):Bh w PA f t u B Q W.drew:=⟨⟨h.pm.pa,h.pm.mv,h.pm.lt,h.pm.gr.drew⟩,h.rs,h.q,h.lo,h.hi⟩
theorem Bh.at {w W:World} {PA Q:Array Value} {f t B:Nat} {u:UInt8} (h:Bh w PA f t u B Q W) {k:Nat} {v:Value} (hv:Q[k]?=some v):W.cell? ⟨B,k,none⟩=some v:=by
 rw [qm h.q];exact hv
theorem Bh.op {w W:World} {PA Q:Array Value} {f t B:Nat} {u:UInt8} (h:Bh w PA f t u B Q W) (k:Nat):W.frozen? ⟨B,k,none⟩=false:=xp h.q
theorem plU_lt (u:UInt8):plU u<6:=by unfold plU;split;omega;split;omega;split<;>omega
theorem plU_ix:∀ u∈U5,u≠0->Lib.indexByte [112,110,98,114,113,107] u=((plU u:Nat):Int):=by decide +kernel
theorem placeU_any (u:UInt8) (hu:u∈U5) (h0:u≠0) (w:World):Calls Tryz.prog 118 #[.string ⟨#[112,110,98,114,113,107]⟩,.int .u8 (u.toNat:Int)] w fun e w'=>e=.returned (.int .i64 ((plU u:Nat):Int))/\w'=w:=by
 rw [<-plU_ix u hu h0];exact xb ⟨#[112,110,98,114,113,107]⟩ (by decide +kernel) u w
theorem man_k (k:Nat) (hk:k<6) (b:Bool) (w:World):Calls Tryz.prog 89 #[.int .i64 ((k:Nat):Int),.int .i64 (sdb b)] w fun e w'=>e=.returned (.int .u8 ((manL k b).toNat:Int))/\w'=w:=by
 have:k=0\/k=1\/k=2\/k=3\/k=4\/k=5:=by omega
 rcases this with rfl|rfl|rfl|rfl|rfl|rfl
 ·cases b
  ·show Calls Tryz.prog 89 #[.int .i64 0,.int .i64 (-1)] w _;go_enter Tryz.func89,Tryz.ntmps89;go_wp2;go_ret;exact ⟨rfl,rfl⟩
  ·show Calls Tryz.prog 89 #[.int .i64 0,.int .i64 1] w _;go_enter Tryz.func89,Tryz.ntmps89;go_wp2;go_ret;exact ⟨rfl,rfl⟩
 ·cases b
  ·show Calls Tryz.prog 89 #[.int .i64 1,.int .i64 (-1)] w _;go_enter Tryz.func89,Tryz.ntmps89;go_wp2;go_ret;exact ⟨rfl,rfl⟩
  ·show Calls Tryz.prog 89 #[.int .i64 1,.int .i64 1] w _;go_enter Tryz.func89,Tryz.ntmps89;go_wp2;go_ret;exact ⟨rfl,rfl⟩
 ·cases b
  ·show Calls Tryz.prog 89 #[.int .i64 2,.int .i64 (-1)] w _;go_enter Tryz.func89,Tryz.ntmps89;go_wp2;go_ret;exact ⟨rfl,rfl⟩
  ·show Calls Tryz.prog 89 #[.int .i64 2,.int .i64 1] w _;go_enter Tryz.func89,Tryz.ntmps89;go_wp2;go_ret;exact ⟨rfl,rfl⟩
 ·cases b
  ·show Calls Tryz.prog 89 #[.int .i64 3,.int .i64 (-1)] w _;go_enter Tryz.func89,Tryz.ntmps89;go_wp2;go_ret;exact ⟨rfl,rfl⟩
  ·show Calls Tryz.prog 89 #[.int .i64 3,.int .i64 1] w _;go_enter Tryz.func89,Tryz.ntmps89;go_wp2;go_ret;exact ⟨rfl,rfl⟩
 ·cases b
  ·show Calls Tryz.prog 89 #[.int .i64 4,.int .i64 (-1)] w _;go_enter Tryz.func89,Tryz.ntmps89;go_wp2;go_ret;exact ⟨rfl,rfl⟩
  ·show Calls Tryz.prog 89 #[.int .i64 4,.int .i64 1] w _;go_enter Tryz.func89,Tryz.ntmps89;go_wp2;go_ret;exact ⟨rfl,rfl⟩
 ·cases b
  ·show Calls Tryz.prog 89 #[.int .i64 5,.int .i64 (-1)] w _;go_enter Tryz.func89,Tryz.ntmps89;go_wp2;go_ret;exact ⟨rfl,rfl⟩
  ·show Calls Tryz.prog 89 #[.int .i64 5,.int .i64 1] w _;go_enter Tryz.func89,Tryz.ntmps89;go_wp2;go_ret;exact ⟨rfl,rfl⟩
theorem Row.castle {z:Nat->UInt8} {wh:Bool} {fc fc':Nat->Bool} {b h g:Int} {Q:Array Value} (r:Row z wh fc b h g Q) (e:∀ i,i<4->fc i=fc' i):Row z wh fc' b h g Q :=
 ⟨r.size,r.sq,r.wh,fun i hi=>by rw [<-e i hi];exact r.c i hi,r.b,r.h,r.g⟩
end Go.Proofs.YtnfakamfmkhlbaaGreatDoor.C
