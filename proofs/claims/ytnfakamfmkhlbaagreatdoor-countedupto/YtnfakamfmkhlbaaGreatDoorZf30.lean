import Derived.Test.YtnfakamfmkhlbaaGreatDoorZf29
import Derived.Test.YtnfakamfmkhlbaaGreatDoorZf27
import Derived.Test.YtnfakamfmkhlbaaGreatDoorZf18
import Derived.Test.YtnfakamfmkhlbaaGreatDoorZf25
import Derived.Test.YtnfakamfmkhlbaaGreatDoorZf17
import Derived.Test.YtnfakamfmkhlbaaGreatDoorKz2
set_option maxRecDepth 100000
set_option maxHeartbeats 4000000
set_option linter.unusedSimpArgs false
namespace Go.Proofs.YtnfakamfmkhlbaaGreatDoor.C
open Go.RowKit
open Go.Proofs.YtnfakamfmkhlbaaGreatDoor.P
def startE:List Mv:=[(1,18,0),(1,16,0),(6,23,0),(6,21,0),(8,16,0),(8,24,0),(9,17,0),(9,25,0),(10,18,0),(10,26,0),(11,19,0),(11,27,0),(12,20,0),(12,28,0),(13,21,0),(13,29,0),(14,22,0),(14,30,0),(15,23,0),(15,31,0)]
def startS:List Mv:=[(8,16,0),(8,24,0),(1,16,0),(1,18,0),(9,17,0),(9,25,0),(10,18,0),(10,26,0),(11,19,0),(11,27,0),(12,20,0),(12,28,0),(13,21,0),(13,29,0),(6,21,0),(6,23,0),(14,22,0),(14,30,0),(15,23,0),(15,31,0)]
theorem start_let:(readS firstB).map (fun p=>letL (posZ p) p.white p.castle p.behind)=some startE:=by decide +kernel
theorem start_rest:(readS firstB).map (fun p=>(posCan p,deadB (posZ p),attLB (posZ p) 4 false,kingR (posZ p) p.white,p.white))=some (true,false,false,4,true):=by decide +kernel
theorem start_rise:startS.Pairwise fun x y=>txt x<txt y:=by decide +kernel
theorem qj0:(startE.all fun x=>startS.contains x)=true/\(startS.all fun x=>startE.contains x)=true:=by decide +kernel
theorem qja {s:ByteArray} {p:Pos} (hr:readS s=some p) (hc:posCan p=true):Can (posZ p) p.white p.castle p.behind ∧ -1<=p.behind/\p.behind<=63:=⟨qxt hc,qxm hr⟩
theorem pos_twin {s:ByteArray} {p:Pos} (hr:readS s=some p) (hc:posCan p=true):sortM (waL p 1)=sortM (waL p 2)/\(sortM (waL p 2)).Pairwise fun x y=>txt x<txt y:=by
 obtain ⟨h,h0,h1⟩:=qja hr hc;exact twin h h0 h1
theorem pos_let {s:ByteArray} {p:Pos} (hr:readS s=some p) (hc:posCan p=true):LetOk (posZ p) p.white p.castle p.behind:=by
 obtain ⟨h,h0,h1⟩:=qja hr hc;exact zx h h0 h1
theorem start_is:∃ p,readS firstB=some p/\posCan p=true/\sortM (waL p 1)=startS/\sortM (waL p 2)=startS/\lookV (posZ p) p.white p.castle p.behind=stateA false 20 0:=by
 obtain ⟨p,h1,hl⟩:=Option.map_eq_some_iff.1 start_let;have h2:=start_rest;rw [h1] at h2;simp only [Option.map_some,Option.some.injEq,Prod.mk.injEq] at h2;obtain ⟨hc,hd,ha,hk,hw⟩:=h2;obtain ⟨hC,h0,hb1⟩:=qja h1 hc;obtain ⟨tw,tr⟩:=pos_twin h1 hc
 have hs:sortM (waL p 2)=startS:=by
  refine zr (fun a c h=>List.lt_asymm h) _ _ tr start_rise fun x=>?_
  rw [<-tw,(xn _).mem_iff];show x∈letL (posZ p) p.white p.castle p.behind↔_;rw [hl];constructor
  ·intro hx;have:=List.all_eq_true.1 qj0.1 x hx;simpa using this
  ·intro hx;have:=List.all_eq_true.1 qj0.2 x hx;simpa using this
 have hlen:(movS (posZ p) p.white p.castle p.behind).length=20:=by
  have:(sortM (movS (posZ p) p.white p.castle p.behind)).length=20:=by rw [show movS (posZ p) p.white p.castle p.behind=waL p 2 from rfl,hs];rfl
  rwa [jn] at this
 have hch:chkS (posZ p) p.white=false:=by
  unfold chkS;rw [hk,show ((4:Int))=((4:Nat):Int) from rfl,xb hC.ok _ 4 (by omega),<-xc hC.ok (by omega),hw];exact ha
 refine ⟨p,h1,hc,by rw [tw,hs],hs,?_⟩;unfold lookV;rw [hch,hlen];unfold overN;rw [hd];rfl
end Go.Proofs.YtnfakamfmkhlbaaGreatDoor.C
namespace Go.Proofs.YtnfakamfmkhlbaaGreatDoor.C
open Go.ChangeShapes Go.WideShapes Go.ChangeAt Go.RowKit Go.Shelf
open Go.Proofs.YtnfakamfmkhlbaaGreatDoor.P
attribute [local go_sem] qb qd Oper.semAt_some
theorem strs_form {w:World} {base:Nat} {v:Value} {xs:List ByteArray} (h:Strs base v xs w):∃ p cap,v=.slice p xs.length cap/\xs.length<=cap/\∀ i (hi:i<xs.length),∃ g,p=some ⟨g,0,none⟩/\w.cell? ⟨g,i,none⟩=some (.string xs[i]):=by
 rcases h.2 with ⟨rfl,hn⟩|⟨g,cap,cur,rfl,hb,hg,hn,hm,hcs,htk⟩
 ·have:xs=[]:=by simpa using hn
  subst this;exact ⟨none,0,rfl,Nat.le_refl _,fun i hi=>absurd hi (Nat.not_lt_zero i)⟩
 ·refine ⟨_,_,rfl,hn,fun i hi=>⟨g,rfl,?_⟩⟩;simp only [World.cell?];rw [hg];show cur[i]?=_;rw [<-Array.getElem?_toList,<-List.getElem?_take_of_lt (show i<xs.length*1 by omega),htk,List.getElem?_map,List.getElem?_eq_getElem hi];rfl
theorem el_gr {T:List ByteArray} {p:Option Addr} {W W':World} (h:∀ i (hi:i<T.length),∃ g,p=some ⟨g,0,none⟩/\W.cell? ⟨g,i,none⟩=some (.string T[i])) (hg:Gr W W'):∀ i (hi:i<T.length),∃ g,p=some ⟨g,0,none⟩/\W'.cell? ⟨g,i,none⟩=some (.string T[i]):=fun i hi=>by
 obtain ⟨g,e,hx⟩:=h i hi;exact ⟨g,e,(Below.cell hg (p:=⟨g,i,none⟩) (World.block_lt_of_cell? W _ hx)).trans hx⟩
def El (p:Option Addr) (T:List ByteArray) (W:World):Prop:=∀ i (hi:i<T.length),∃ g,p=some ⟨g,0,none⟩/\W.cell? ⟨g,i,none⟩=some (.string T[i])
theorem El.gr {T:List ByteArray} {p:Option Addr} {W W':World} (h:El p T W) (hg:Gr W W'):El p T W':=el_gr h hg
end Go.Proofs.YtnfakamfmkhlbaaGreatDoor.C
namespace Go.Proofs.YtnfakamfmkhlbaaGreatDoor.C
open Go.RowKit
open Go.Proofs.YtnfakamfmkhlbaaGreatDoor.P
def lastR (t:Nat):Bool:=decide (t/8=0)||decide (t/8=7)
def upR (f t:Nat):Int:=((t/8:Nat):Int)-((f/8:Nat):Int)
def pwU (z:Nat->UInt8) (wh:Bool) (f t:Nat):Bool:=decide (upR f t=sdb wh)||(decide (upR f t=2*sdb wh)&&decide (f/8=(if wh then 1 else 6))&&decide (z (if wh then f+8 else f-8)=46))
def pwR (z:Nat->UInt8) (wh:Bool) (b:Int) (f t:Nat):Bool :=
 if attI (zI z) 0 (sdb wh) (f:Int) (t:Int) then decide (coc (z t)=sdb (!wh))||decide ((t:Int)=b)
 else decide (f%8=t%8)&&decide (z t=46)&&pwU z wh f t
def mnR (z:Nat->UInt8) (wh:Bool) (fc:Nat->Bool) (k f t:Nat) (u:UInt8):Bool :=
 if attI (zI z) k (sdb wh) (f:Int) (t:Int) then true
 else decide (k=5)&&decide (0<=casR wh fc f t u)&&freeC z (casR wh fc f t u).toNat
def goesR (z:Nat->UInt8) (wh:Bool) (fc:Nat->Bool) (b:Int) (f t:Nat) (u:UInt8):Bool :=
 decide (coc (z f)=sdb wh)&&!decide (coc (z t)=sdb wh)&&(decide (u≠0)==(decide (kdc (z f)=0)&&lastR t))&&(if kdc (z f)=0 then pwR z wh b f t else mnR z wh fc (kdc (z f)).toNat f t u)
def U5:List UInt8:=[0,98,110,113,114]
theorem lastR_bit:∀ t,t<64->lastB.getLsbD t=lastR t:=by decide +kernel
theorem turns_iff {p:Bool} {f t:Nat} (ht:t<64) {u:UInt8} (hu:u∈U5):(f,t,u)∈turnsB p f t↔(decide (u≠0)==(p&&lastR t))=true:=by
 unfold turnsB;rw [lastR_bit t ht];unfold U5 at hu;simp only [List.mem_cons,List.not_mem_nil,or_false] at hu;cases p&&lastR t
 ·rw [if_neg (by simp)];rcases hu with rfl|rfl|rfl|rfl|rfl<;>simp
 ·rw [if_pos rfl];rcases hu with rfl|rfl|rfl|rfl|rfl<;>simp
theorem kd_ix {c:UInt8} {wh:Bool} {i:Nat} (hi:i<6) (h:ixc c=((bg wh+i:Nat):Int)):kdc c=(i:Int):=by
 unfold kdc;rw [h];unfold bg;cases wh
 ·simp only [Bool.false_eq_true,if_false];rw [if_pos (by omega)];omega
 ·simp only [if_true];rw [if_neg (by omega)];omega
theorem pawn_ah {z:Nat->UInt8} {wh:Bool} {f t:Nat} (hf:f<64) (_ht:t<64) (hr:¬ (f/8=0\/f/8=7)):(decide (f%8=t%8)&&decide (z t=46)&&pwU z wh f t)=true↔AhP z wh f t:=by
 unfold pwU upR AhP startR;simp only [Bool.and_eq_true,Bool.or_eq_true,decide_eq_true_eq];cases wh
 ·have e1:fw false f 1=f-8:=rfl;have e2:fw false f 2=f-16:=rfl;rw [e1,e2];simp only [sdb,Bool.false_eq_true,if_false];constructor
  ·rintro ⟨⟨h1,h2⟩,h3|⟨⟨h3,h4⟩,h5⟩⟩
   ·have:t=f-8:=by omega
    exact .inl ⟨this,by rw [<-this];exact h2⟩
   ·have:t=f-16:=by omega
    exact .inr ⟨h4,this,h5,by rw [<-this];exact h2⟩
  ·rintro (⟨h1,h2⟩|⟨h1,h2,h3,h4⟩)
   ·exact ⟨⟨by omega,by rw [h1];exact h2⟩,.inl (by omega)⟩
   ·exact ⟨⟨by omega,by rw [h2];exact h4⟩,.inr ⟨⟨by omega,h1⟩,h3⟩⟩
 ·have e1:fw true f 1=f+8:=rfl;have e2:fw true f 2=f+16:=rfl;rw [e1,e2];simp only [sdb,if_true];constructor
  ·rintro ⟨⟨h1,h2⟩,h3|⟨⟨h3,h4⟩,h5⟩⟩
   ·have:t=f+8:=by omega
    exact .inl ⟨this,by rw [<-this];exact h2⟩
   ·have:t=f+16:=by omega
    exact .inr ⟨h4,this,h5,by rw [<-this];exact h2⟩
  ·rintro (⟨h1,h2⟩|⟨h1,h2,h3,h4⟩)
   ·exact ⟨⟨by omega,by rw [h1];exact h2⟩,.inl (by omega)⟩
   ·exact ⟨⟨by omega,by rw [h2];exact h4⟩,.inr ⟨⟨by omega,h1⟩,h3⟩⟩
theorem ah_no {z:Nat->UInt8} {wh:Bool} {f t:Nat} (hr:¬ (f/8=0\/f/8=7)) (h:AhP z wh f t):z t=46/\attI (zI z) 0 (sdb wh) (f:Int) (t:Int)=false:=by
 have e:t%8=f%8:=by
  unfold AhP startR fw at h;cases wh<;>simp at h<;>omega
 refine ⟨?_,?_⟩
 ·rcases h with ⟨h1,h2⟩|⟨_,h1,_,h2⟩
  ·rw [h1];exact h2
  ·rw [h1];exact h2
 ·cases ha:attI (zI z) 0 (sdb wh) (f:Int) (t:Int) with
  | false=>rfl
  | true=>exact absurd (by omega) (pawn_file ha)
theorem home_hK:∀ i,i<4->homeK i=((hK i:Nat):Int)/\homeT i=((casT i:Nat):Int)/\homeR i=((hR i:Nat):Int):=by decide +kernel
theorem clr_same {z:Nat->UInt8} {i:Nat} (hi:i<4):clrH z i=mcE z (hK i) (hD i) (hN i):=by
 have z46:∀ n,(((z n).toNat:Int)=46)↔(z n==46)=true:=fun n=>by
  constructor
  ·intro h;have:z n=46:=u8_of h rfl;simp [this]
  ·intro h;have:z n=46:=by simpa using h
   rw [this];rfl
 unfold clrH freeI mcE;rw [Bool.eq_iff_iff,decide_eq_true_eq,List.all_eq_true];have hc:i=0\/i=1\/i=2\/i=3:=by omega
 constructor
 ·intro h j hj;have hj:=List.mem_range.1 hj;rw [<-z46]
  have e:sqK (hK i) (hD i) (j+1)=(wayP i (j+1)).toNat:=by
   unfold sqK wayP homeK hD hK;rcases hc with rfl|rfl|rfl|rfl<;>simp<;>omega
  rw [e];refine h (j+1) ?_ (by omega);unfold hN at hj;unfold wayL;rcases hc with rfl|rfl|rfl|rfl<;>simp at hj ⊢<;>omega
 ·intro h j hj h1
  have:=h (j-1) (List.mem_range.2 (by
   unfold wayL at hj;unfold hN;rcases hc with rfl|rfl|rfl|rfl<;>simp at hj ⊢<;>omega))
  rw [<-z46] at this;rw [<-this]
  have e:sqK (hK i) (hD i) (j-1+1)=(wayP i j).toNat:=by
   unfold sqK wayP homeK hD hK;rcases hc with rfl|rfl|rfl|rfl<;>simp<;>omega
  rw [e]
theorem zq {z:Nat->UInt8} (hok:layOk z=true) {i:Nat} (hi:i<4):freeC z i=mcB z (decide (i<2)) (hK i) (hD i) (hN i):=by
 unfold freeC mcB;rw [clr_same hi];unfold mcA;have e3:∀ p:Nat->Bool,(List.range 3).all p=(p 0&&(p 1&&(p 2&&true))):=fun p=>rfl
 rw [e3];have key:∀ j,j<3->attLB z (sqK (hK i) (hD i) j) (!decide (i<2))=attR z (((sqK (hK i) (hD i) j:Nat)):Int) (!decide (i<2)):=fun j hj=>xc hok (wit_lt i hi j (by omega) (by unfold hN;split<;>omega)) _
 rw [key 0 (by omega),key 1 (by omega),key 2 (by omega)]
 have q:homeK i=((sqK (hK i) (hD i) 0:Nat):Int)/\(homeK i+homeT i).tdiv 2=((sqK (hK i) (hD i) 1:Nat):Int)/\homeT i=((sqK (hK i) (hD i) 2:Nat):Int):=by
  have hc:i=0\/i=1\/i=2\/i=3:=by omega
  rcases hc with rfl|rfl|rfl|rfl<;>decide
 rw [<-q.1,<-q.2.1,<-q.2.2];cases mcE z (hK i) (hD i) (hN i)<;>cases attR z (homeK i) (!decide (i<2))<;>cases attR z ((homeK i+homeT i).tdiv 2) (!decide (i<2))<;>cases attR z (homeT i) (!decide (i<2))<;>rfl
theorem qxs {wh:Bool} {fc:Nat->Bool} {f t:Nat} {i:Nat} (hi:i<4):casB wh fc f t 0 i=true↔fc i=true/\wh=decide (i<2)/\f=hK i/\t=casT i:=by
 obtain ⟨e1,e2,_⟩:=home_hK i hi;unfold casB;rw [e1,e2];simp only [Bool.and_eq_true,beq_iff_eq];constructor
 ·rintro ⟨⟨⟨⟨h1,h2⟩,h3⟩,h4⟩,_⟩;refine ⟨h1,?_,by omega,by omega⟩
  revert h2
  cases wh<;>cases decide (i<2)<;>simp [sdb]
 ·rintro ⟨h1,h2,h3,h4⟩;exact ⟨⟨⟨⟨h1,by rw [h2]⟩,by omega⟩,by omega⟩,rfl⟩
theorem qq1 {z:Nat->UInt8} {wh:Bool} {fc:Nat->Bool} {f t:Nat}:(decide (0<=casR wh fc f t 0)&&freeC z (casR wh fc f t 0).toNat)=true↔∃ i,i<4/\wh=decide (i<2)/\fc i=true/\f=hK i/\t=casT i/\freeC z i=true/\casR wh fc f t 0=(i:Int):=by
 have hu:casR wh fc f t 0=if casB wh fc f t 0 0 then 0 else if casB wh fc f t 0 1 then 1 else if casB wh fc f t 0 2 then 2 else if casB wh fc f t 0 3 then 3 else -1:=rfl;constructor
 ·intro h;rw [Bool.and_eq_true,decide_eq_true_eq] at h;obtain ⟨h1,h2⟩:=h
  have go:∀ i,i<4->casB wh fc f t 0 i=true->casR wh fc f t 0=(i:Int)->∃ i,i<4/\wh=decide (i<2)/\fc i=true/\f=hK i/\t=casT i/\freeC z i=true/\casR wh fc f t 0=(i:Int):=fun i hi hc he=>by
   obtain ⟨a1,a2,a3,a4⟩:=(qxs hi).1 hc;rw [he] at h2;exact ⟨i,hi,a2,a1,a3,a4,h2,he⟩
  by_cases c0:casB wh fc f t 0 0=true
  ·exact go 0 (by omega) c0 (by rw [hu,if_pos c0];rfl)
  ·by_cases c1:casB wh fc f t 0 1=true
   ·exact go 1 (by omega) c1 (by rw [hu,if_neg c0,if_pos c1];rfl)
   ·by_cases c2:casB wh fc f t 0 2=true
    ·exact go 2 (by omega) c2 (by rw [hu,if_neg c0,if_neg c1,if_pos c2];rfl)
    ·by_cases c3:casB wh fc f t 0 3=true
     ·exact go 3 (by omega) c3 (by rw [hu,if_neg c0,if_neg c1,if_neg c2,if_pos c3];rfl)
     ·rw [hu,if_neg c0,if_neg c1,if_neg c2,if_neg c3] at h1;omega
 ·rintro ⟨i,hi,a1,a2,a3,a4,a5,a6⟩;rw [a6,Bool.and_eq_true,decide_eq_true_eq];exact ⟨by omega,a5⟩
theorem casR_is {wh:Bool} {fc:Nat->Bool} {f t i:Nat} (hi:i<4) (h1:fc i=true) (h2:wh=decide (i<2)) (h3:f=hK i) (h4:t=casT i):casR wh fc f t 0=(i:Int):=by
 have hu:casR wh fc f t 0=if casB wh fc f t 0 0 then 0 else if casB wh fc f t 0 1 then 1 else if casB wh fc f t 0 2 then 2 else if casB wh fc f t 0 3 then 3 else -1:=rfl;have hp:casB wh fc f t 0 i=true:=(qxs hi).2 ⟨h1,h2,h3,h4⟩
 have hn:∀ j,j<4->j≠i->¬ casB wh fc f t 0 j=true:=fun j hj hne h=>by
  have:=((qxs hj).1 h).2.2.2;rw [h4] at this
  revert this
  unfold casT;have hc:i=0\/i=1\/i=2\/i=3:=by omega
  have hd:j=0\/j=1\/j=2\/j=3:=by omega
  rcases hc with rfl|rfl|rfl|rfl<;>rcases hd with rfl|rfl|rfl|rfl<;>simp at hne ⊢
 rw [hu];have hc:i=0\/i=1\/i=2\/i=3:=by omega
 rcases hc with rfl|rfl|rfl|rfl
 ·rw [if_pos hp];rfl
 ·rw [if_neg (hn 0 (by omega) (by omega)),if_pos hp];rfl
 ·rw [if_neg (hn 0 (by omega) (by omega)),if_neg (hn 1 (by omega) (by omega)),if_pos hp];rfl
 ·rw [if_neg (hn 0 (by omega) (by omega)),if_neg (hn 1 (by omega) (by omega)),if_neg (hn 2 (by omega) (by omega)),if_pos hp];rfl
theorem cg_iff {z:Nat->UInt8} {wh:Bool} {fc:Nat->Bool} {b:Int} (hC:Can z wh fc b) {f t:Nat} (hf:f<64) (hc:ixc (z f)=((bg wh+5:Nat):Int)):t∈cgR z wh fc f++cgM z wh fc f↔(decide (0<=casR wh fc f t 0)&&freeC z (casR wh fc f t 0).toNat)=true:=by
 obtain ⟨k1,k2⟩:=jr hC hf hc;rw [qq1,List.mem_append];have e:(hK (cgF wh)+2=casT (cgF wh)/\hD (cgF wh)=1/\hN (cgF wh)=2/\cgF wh<4/\decide (cgF wh<2)=wh)/\(hK (cgF wh+1)-2=casT (cgF wh+1)/\hD (cgF wh+1)=-1/\hN (cgF wh+1)=3/\cgF wh+1<4/\decide (cgF wh+1<2)=wh):=by cases wh<;>decide
 obtain ⟨⟨a1,a2,a3,a4,a5⟩,⟨b1,b2,b3,b4,b5⟩⟩:=e;constructor
 ·rintro (h|h)
  ·unfold cgR at h;split at h
   ·rename_i hh;rw [Bool.and_eq_true] at hh;have hfe:=k1 hh.1;have ht:t=casT (cgF wh):=by rw [List.mem_singleton.1 h,<-a1,<-hfe]
    exact ⟨cgF wh,a4,a5.symm,hh.1,hfe,ht,by rw [zq hC.ok a4,a5,a2,a3,<-hfe];exact hh.2,casR_is a4 hh.1 a5.symm hfe ht⟩
   ·cases h
  ·unfold cgM at h;split at h
   ·rename_i hh;rw [Bool.and_eq_true] at hh;have hfe:=k2 hh.1;have ht:t=casT (cgF wh+1):=by rw [List.mem_singleton.1 h,<-b1,<-hfe]
    exact ⟨cgF wh+1,b4,b5.symm,hh.1,hfe,ht,by rw [zq hC.ok b4,b5,b2,b3,<-hfe];exact hh.2,casR_is b4 hh.1 b5.symm hfe ht⟩
   ·cases h
 ·rintro ⟨i,hi,h1,h2,h3,h4,h5,_⟩;rw [zq hC.ok hi,<-h1] at h5
  have:i=cgF wh\/i=cgF wh+1:=by
   have hh:i=0\/i=1\/i=2\/i=3:=by omega
   rcases hh with rfl|rfl|rfl|rfl<;>(subst h1;decide)
  rcases this with rfl|rfl
  ·left;unfold cgR;rw [a2,a3,<-h3] at h5;rw [if_pos (by rw [h2,h5];rfl),h4,<-a1,h3];exact List.mem_singleton.2 rfl
  ·right;unfold cgM;rw [b2,b3,<-h3] at h5;rw [if_pos (by rw [h2,h5];rfl),h4,<-b1,h3];exact List.mem_singleton.2 rfl
theorem goes_iff {z:Nat->UInt8} {wh:Bool} {fc:Nat->Bool} {b:Int} (hC:Can z wh fc b) {f t:Nat} {u:UInt8} (hf:f<64) (ht:t<64) (hu:u∈U5) :
  goesR z wh fc b f t u=true↔∃ i,i<6/\ixc (z f)=((bg wh+i:Nat):Int)/\t∈tgL z wh fc b f/\(f,t,u)∈turnsB (decide (i=0)) f t:=by
 have hokt:=xw hC.ok ht;by_cases hco:coc (z f)=sdb wh
 case neg =>
  constructor
  ·intro h;unfold goesR at h;rw [decide_eq_false hco] at h;simp at h
  ·rintro ⟨i,hi,hc,_⟩;exact absurd (xk hi hc) hco
 obtain ⟨i,hi,hc,_⟩:=zd hco;have hk:=kd_ix hi hc;obtain ⟨hp,hkg⟩:=jo hi hc
 have uniq:(∃ i,i<6/\ixc (z f)=((bg wh+i:Nat):Int)/\t∈tgL z wh fc b f/\(f,t,u)∈turnsB (decide (i=0)) f t)↔(t∈tgL z wh fc b f/\(f,t,u)∈turnsB (decide (i=0)) f t):=by
  constructor
  ·rintro ⟨j,hj,e,h⟩;have:j=i:=by rw [hc] at e;omega
   rw [this] at h;exact h
  ·intro h;exact ⟨i,hi,hc,h⟩
 rw [uniq,turns_iff ht hu];unfold goesR;rw [decide_eq_true hco,hk,Bool.true_and,Bool.and_eq_true,Bool.and_eq_true]
 have e0:decide ((i:Int)=0)=decide (i=0):=by
  by_cases h:i=0
  ·simp [h]
  ·rw [decide_eq_false h,decide_eq_false (by omega)]
 rw [e0]
 have key:∀ (hU:(decide (u≠0)==(decide (i=0)&&lastR t))=true),((!decide (coc (z t)=sdb wh))=true/\(if (i:Int)=0 then pwR z wh b f t else mnR z wh fc (i:Int).toNat f t u)=true)↔t∈tgL z wh fc b f:=by
  intro hU;rw [Bool.not_eq_true',decide_eq_false_iff_not];unfold tgL;rw [List.mem_append,List.mem_filter,qqh hf hi hc ht,hp,hkg];unfold mayB;rw [hp,zn hokt,zn hokt];by_cases i0:i=0
  ·subst i0;have hr:=hC.pw wh f hf hc;rw [decide_eq_true rfl,if_pos rfl,if_pos rfl,if_pos (show ((0:Nat):Int)=0 from rfl),qjs hf hr];unfold pwR;rw [Bool.or_eq_true,beq_iff_eq,decide_eq_true_eq];cases ha:attI (zI z) 0 (sdb wh) (f:Int) (t:Int) with
   | true =>
    rw [if_pos rfl,Bool.or_eq_true,decide_eq_true_eq,decide_eq_true_eq];constructor
    ·rintro ⟨_,h|h⟩
     ·exact .inl ⟨rfl,.inr h⟩
     ·exact .inl ⟨rfl,.inl h⟩
    ·rintro (⟨_,h|h⟩|h)
     ·exact ⟨by rw [(beh_w hC.beh h).1];exact zu _,.inr h⟩
     ·exact ⟨by rw [h];exact fun e=>qz9 wh e.symm,.inl h⟩
     ·rw [(ah_no hr h).2] at ha;cases ha
   | false =>
    rw [if_neg (by simp),pawn_ah hf ht hr];constructor
    ·rintro ⟨_,h⟩;exact .inr h
    ·rintro (⟨h,_⟩|h)
     ·cases h
     ·exact ⟨by rw [(ah_no hr h).1];exact zu _,h⟩
  ·rw [decide_eq_false i0,if_neg (by omega),if_neg (by simp),if_neg (by simp),Int.toNat_natCast,Bool.not_eq_true',decide_eq_false_iff_not];unfold mnR;by_cases i5:i=5
   ·subst i5
    have u0:u=0:=by
     rw [beq_iff_eq] at hU;have:decide (u≠0)=false:=hU;simpa using this
    subst u0;rw [decide_eq_true rfl,if_pos rfl,cg_iff hC hf hc,Bool.true_and];cases ha:attI (zI z) 5 (sdb wh) (f:Int) (t:Int) with
    | true =>
     rw [if_pos rfl];constructor
     ·rintro ⟨h,_⟩;exact .inl ⟨rfl,h⟩
     ·rintro (⟨_,h⟩|h)
      ·exact ⟨h,rfl⟩
      ·obtain ⟨ci,hci,c1,c2,c3,c4,c5,_⟩:=qq1.1 h;rw [zq hC.ok hci,<-c1] at c5;have hcas:=cas_of hC hci c1 c2 c5;refine ⟨?_,rfl⟩;rw [c4,hcas.dot (cas_in ci hci).1];exact zu _
    | false =>
     rw [if_neg (by simp)];constructor
     ·rintro ⟨_,h⟩;exact .inr h
     ·rintro (⟨h,_⟩|h)
      ·cases h
      ·refine ⟨?_,h⟩;obtain ⟨ci,hci,c1,c2,c3,c4,c5,_⟩:=qq1.1 h;rw [zq hC.ok hci,<-c1] at c5;have hcas:=cas_of hC hci c1 c2 c5;rw [c4,hcas.dot (cas_in ci hci).1];exact zu _
   ·rw [decide_eq_false i5];cases ha:attI (zI z) i (sdb wh) (f:Int) (t:Int) with
    | true=>simp
    | false=>simp
 constructor
 ·rintro ⟨⟨h1,h2⟩,h3⟩;exact ⟨(key h2).1 ⟨h1,h3⟩,h2⟩
 ·rintro ⟨h1,h2⟩;have:=(key h2).2 h1;exact ⟨⟨this.1,h2⟩,this.2⟩
end Go.Proofs.YtnfakamfmkhlbaaGreatDoor.C
namespace Go.Proofs.YtnfakamfmkhlbaaGreatDoor.C
open Go.ChangeShapes Go.WideShapes Go.ChangeAt Go.RowKit
open Go.Proofs.YtnfakamfmkhlbaaGreatDoor.P
attribute [local go_sem] qb qd
def pasB (z:Nat->UInt8) (b:Int) (f t:Nat):Bool:=decide (kdc (z f)=0)&&decide ((t:Int)=b)&&decide (f%8≠t%8)
def plU (u:UInt8):Nat:=if u=110 then 1 else if u=98 then 2 else if u=114 then 3 else 4
def bz1 (z:Nat->UInt8) (b:Int) (f t:Nat):Nat->UInt8:=if pasB z b f t then upd z (f/8*8+t%8) 46 else z
def bz2 (z:Nat->UInt8) (b:Int) (f t:Nat):Nat->UInt8:=upd (upd (bz1 z b f t) t (z f)) f 46
def bz3 (z:Nat->UInt8) (wh:Bool) (b:Int) (f t:Nat) (u:UInt8):Nat->UInt8:=if u=0 then bz2 z b f t else upd (bz2 z b f t) t (manL (plU u) wh)
def kcB (z:Nat->UInt8) (wh:Bool) (fc:Nat->Bool) (f t:Nat) (u:UInt8):Bool:=decide (kdc (z f)=5)&&decide (0<=casR wh fc f t u)
def bz4 (z:Nat->UInt8) (wh:Bool) (fc:Nat->Bool) (b:Int) (f t:Nat) (u:UInt8):Nat->UInt8:=if kcB z wh fc f t u then upd (upd (bz3 z wh b f t u) (homeR (casR wh fc f t u).toNat).toNat 46) ((f+t)/2) (manL 3 wh) else bz3 z wh b f t u
theorem Row.castle {z:Nat->UInt8} {wh:Bool} {fc fc':Nat->Bool} {b h g:Int} {Q:Array Value} (r:Row z wh fc b h g Q) (e:∀ i,i<4->fc i=fc' i):Row z wh fc' b h g Q :=
 ⟨r.size,r.sq,r.wh,fun i hi=>by rw [<-e i hi];exact r.c i hi,r.b,r.h,r.g⟩
end Go.Proofs.YtnfakamfmkhlbaaGreatDoor.C
namespace Go.Proofs.YtnfakamfmkhlbaaGreatDoor.C
open Go.RowKit
open Go.Proofs.YtnfakamfmkhlbaaGreatDoor.P
theorem prom_is:∀ wh:Bool,∀ u∈[98,110,113,114],manL (plU u) wh=trn (letr (bg wh)) u:=by decide +kernel
theorem cas_two:∀ i,i<4->casT i=hK i+2\/casT i+2=hK i:=by decide +kernel
theorem bz1_no {z:Nat->UInt8} {b:Int} {f t:Nat} (h:pasB z b f t=false):bz1 z b f t=z:=by
 unfold bz1;rw [h];rfl
theorem bz4_pl {z:Nat->UInt8} {wh:Bool} {fc:Nat->Bool} {b:Int} (hC:Can z wh fc b) {i f t:Nat} {u:UInt8} (hi:i<6) (hf:f<64) (ht:t<64) (hc:ixc (z f)=((bg wh+i:Nat):Int)) (hm:t∈tgL z wh fc b f) (hu:(f,t,u)∈turnsB (decide (i=0)) f t):bz4 z wh fc b f t u=plZ z b (f,t,u):=by
 have hkd:=kd_ix hi hc;obtain ⟨u',e,u0,u1⟩:=qxz hu;have:u=u':=by injection e with _ e;injection e
 subst this;rcases classify hC hi hf ht hc hm hu with ⟨hP,kg⟩|⟨ci,hK',e1,e2,e3,e4⟩
 ·have hkc:kcB z wh fc f t u=false:=by
   cases hx:kcB z wh fc f t u with
   | false=>rfl
   | true =>
    unfold kcB at hx;rw [Bool.and_eq_true,decide_eq_true_eq,decide_eq_true_eq,hkd] at hx;have i5:i=5:=by omega
    have hu0:=u0 (decide_eq_false (by omega));subst hu0;have hx2:=hx.2
    have hall:∀ j,j<4->casB wh fc f t 0 j=true->False:=fun j hj h=>by
     obtain ⟨_,_,a3,a4⟩:=(qxs hj).1 h;have:=kg i5;have:=cas_two j hj;omega
    have hun:casR wh fc f t 0=if casB wh fc f t 0 0 then 0 else if casB wh fc f t 0 1 then 1 else if casB wh fc f t 0 2 then 2 else if casB wh fc f t 0 3 then 3 else -1:=rfl;rw [hun,if_neg (hall 0 (by omega)),if_neg (hall 1 (by omega)),if_neg (hall 2 (by omega)),if_neg (hall 3 (by omega))] at hx2;omega
  have hB:=pl_at hP kg;funext n;rw [hB n];unfold bz4;rw [hkc,if_neg (by simp)];have hft:=hP.ft
  have h2:bz2 z b f t n=if n=t then z f else if n=f then 46 else if n=csN wh b i t then 46 else z n:=by
   unfold bz2 upd;by_cases c1:n=f
   ·rw [if_pos c1,if_neg (fun e=>hft (c1.symm.trans e)),if_pos c1]
   ·rw [if_neg c1,if_neg c1];by_cases c2:n=t
    ·rw [if_pos c2,if_pos c2]
    ·rw [if_neg c2,if_neg c2];by_cases hep:i=0/\(t:Int)=b
     ·obtain ⟨q1,q2⟩:=hep;obtain ⟨_,_,e3,_,_⟩:=hP.ep q1 q2;have hcf:=hP.cf
      have hpas:pasB z b f t=true:=by
       unfold pasB;rw [hkd,q1,decide_eq_true q2,decide_eq_true (show f%8≠t%8 from fun e=>hcf (by rw [e3,<-e];omega))];rfl
      unfold bz1;rw [hpas,if_pos rfl,<-e3];rfl
     ·have hpas:pasB z b f t=false:=by
       cases hx:pasB z b f t with
       | false=>rfl
       | true =>
        unfold pasB at hx;rw [Bool.and_eq_true,Bool.and_eq_true,decide_eq_true_eq,decide_eq_true_eq,hkd] at hx;exact absurd ⟨by omega,hx.1.2⟩ hep
      rw [bz1_no hpas,hP.nep hep,if_neg c2]
  unfold bz3;by_cases hu0:u=0
  ·rw [if_pos hu0,h2,hu0];rfl
  ·rw [if_neg hu0];unfold upd
   have i0:i=0:=by
    by_cases k:i=0
    ·exact k
    ·exact absurd (u0 (decide_eq_false k)) hu0
   have hz:=zc (by cases wh<;>decide) (show ixc (z f)=((bg wh:Nat):Int) by rw [hc,i0];rfl)
   by_cases c2:n=t
   ·rw [if_pos c2,if_pos c2,hz];refine prom_is wh u ?_;rcases u1 with e|e|e|e|e
    ·exact absurd e hu0
    ·rw [e];simp
    ·rw [e];simp
    ·rw [e];simp
    ·rw [e];simp
   ·rw [if_neg c2,h2,if_neg c2,if_neg c2]
 ·subst e3 e4;have hkg:=jo hi hc
  have hmem:t∈cgR z wh fc f++cgM z wh fc f:=by
   unfold tgL at hm;rw [List.mem_append,List.mem_filter,hkg.1,hkg.2] at hm;rcases hm with ⟨hm,_⟩|hm
   ·rw [qqh hf hi hc ht] at hm;have:=(qq4 hm).1;rw [jv _ 5 (by omega) _ 1] at this;have:=qji f hf t ht this;have:=cas_two ci hK'.hi;omega
   ·rw [decide_eq_false (show ¬ (5:Nat)=0 by omega),if_neg (by simp),decide_eq_true rfl,if_pos rfl] at hm;exact hm
  obtain ⟨cj,hj,j1,j2,j3,j4,j5,j6⟩:=qq1.1 ((cg_iff hC hf hc).1 hmem);obtain ⟨hp,hk⟩:=jo hi hc
  have hkc:kcB z wh fc f t 0=true:=by
   unfold kcB;rw [hkd,j6,decide_eq_true (show (0:Int)<=(cj:Int) by omega)];rfl
  have hpas:pasB z b f t=false:=by
   unfold pasB;rw [hkd];rfl
  have hrook:manL 3 wh=z (hR cj):=by
   have hcc:cj=0\/cj=1\/cj=2\/cj=3:=by omega
   subst j1;rcases hcc with rfl|rfl|rfl|rfl
   ·rw [show z (hR 0)=82 from (hC.c0 j2).2];rfl
   ·rw [show z (hR 1)=82 from (hC.c1 j2).2];rfl
   ·rw [show z (hR 2)=114 from (hC.c2 j2).2];rfl
   ·rw [show z (hR 3)=114 from (hC.c3 j2).2];rfl
  obtain ⟨f1,f2,f3,f4,f5,f6,f7,f8,f9,f10,f11,f12,f13,f14,f15,f16,f17⟩:=js cj hj
  have hmid:(f+t)/2=rN cj:=by
   have hcc:cj=0\/cj=1\/cj=2\/cj=3:=by omega
   rw [j3,j4];rcases hcc with rfl|rfl|rfl|rfl<;>rfl
  have hhr:(homeR cj).toNat=hR cj:=by rw [(home_hK cj hj).2.2];rfl
  funext n;have hat:=qzh (z:=z) (b:=b) hj (by rw [<-j3,hp];rfl) (by rw [<-j3,hk];rfl) n;rw [<-j3,<-j4] at hat;rw [hat];unfold bz4;rw [hkc,if_pos rfl,j6,Int.toNat_natCast,hhr,hmid,hrook];unfold bz3 bz2;rw [if_pos rfl,bz1_no hpas];unfold upd;by_cases c1:n=hR cj
  ·rw [if_neg (fun e=>f17 (e.symm.trans c1)),if_pos c1,if_pos c1]
  ·rw [if_neg c1,if_neg c1];by_cases c2:n=rN cj
   ·rw [if_pos c2,if_pos c2]
   ·rw [if_neg c2,if_neg c2];by_cases c3:n=t
    ·rw [if_pos c3,if_pos c3,if_neg (fun e=>f12 (by rw [<-j4,<-j3];exact c3.symm.trans e))]
    ·rw [if_neg c3,if_neg c3]
theorem pl_ok {z:Nat->UInt8} {wh:Bool} {fc:Nat->Bool} {b:Int} (hC:Can z wh fc b) {i f t:Nat} {u:UInt8} (hi:i<6) (hf:f<64) (ht:t<64) (hc:ixc (z f)=((bg wh+i:Nat):Int)) (hm:t∈tgL z wh fc b f) (hu:(f,t,u)∈turnsB (decide (i=0)) f t):layOk (plZ z b (f,t,u))=true:=by
 rcases classify hC hi hf ht hc hm hu with ⟨hP,kg⟩|⟨ci,hK',e1,e2,e3,e4⟩
 ·exact okZ hP (pl_at hP kg) hC.ok
 ·subst e1 e2 e3 e4;obtain ⟨hp,hk⟩:=jo hi hc;obtain ⟨f1,f2,f3,f4,_⟩:=js ci hK'.hi;refine zp fun n hn=>?_
  rw [qzh hK'.hi (by rw [hp];rfl) (by rw [hk];rfl)];split
  ·rfl
  ·split
   ·exact xw hC.ok f3
   ·split
    ·exact xw hC.ok f1
    ·split
     ·rfl
     ·exact xw hC.ok hn
def legR (z:Nat->UInt8) (wh:Bool) (fc:Nat->Bool) (b:Int) (f t:Nat) (u:UInt8):Bool:=goesR z wh fc b f t u&&!(attR (bz4 z wh fc b f t u) (kingR (bz4 z wh fc b f t u) wh) (!wh))
theorem leg_iff {z:Nat->UInt8} {wh:Bool} {fc:Nat->Bool} {b:Int} (hC:Can z wh fc b) (h0:-1<=b) (h1:b<=63) {f t:Nat} {u:UInt8} (hf:f<64) (ht:t<64) (hu:u∈U5):legR z wh fc b f t u=true↔(f,t,u)∈letL z wh fc b:=by
 unfold legR letL;rw [Bool.and_eq_true,goes_iff hC hf ht hu,List.mem_filter,qqi hC]
 have key:∀ i,i<6->ixc (z f)=((bg wh+i:Nat):Int)->t∈tgL z wh fc b f->(f,t,u)∈turnsB (decide (i=0)) f t->(!(attR (bz4 z wh fc b f t u) (kingR (bz4 z wh fc b f t u) wh) (!wh)))=letP z wh b (f,t,u):=fun i hi hc hm htu=>by
  obtain ⟨y,hy,e⟩:=(jp hC h0 h1 hi hf ht hc hm htu).1;unfold letP;rw [bz4_pl hC hi hf ht hc hm htu,e,Int.toNat_natCast,xc (pl_ok hC hi hf ht hc hm htu) hy]
 constructor
 ·rintro ⟨⟨i,hi,hc,hm,htu⟩,h⟩;rw [key i hi hc hm htu] at h;exact ⟨⟨i,f,t,u,rfl,hi,hf,ht,hc,hm,htu⟩,h⟩
 ·rintro ⟨⟨i,f',t',u',e,hi,_,_,hc,hm,htu⟩,h⟩;have e1:f=f':=by injection e
  have e2:t=t':=by injection e with _ e;injection e
  have e3:u=u':=by injection e with _ e;injection e
  subst e1 e2 e3;exact ⟨⟨i,hi,hc,hm,htu⟩,by rw [key i hi hc hm htu];exact h⟩
def sqF (i:Nat):Nat:=i%8*8+i/8
def moR (z:Nat->UInt8) (f t:Nat):Nat:=if kdc (z f)=0/\lastR t=true then 5 else 1
def upT5 (z:Nat->UInt8) (wh:Bool) (fc:Nat->Bool) (b:Int) (f t n:Nat):List Mv:=((U5.take n).filter fun u=>legR z wh fc b f t u).map fun u=>(f,t,u)
def upK (z:Nat->UInt8) (wh:Bool) (fc:Nat->Bool) (b:Int) (f n:Nat):List Mv:=(List.range n).flatMap fun k=>upT5 z wh fc b f (sqF k) (moR z f (sqF k))
def upI (z:Nat->UInt8) (wh:Bool) (fc:Nat->Bool) (b:Int) (n:Nat):List Mv:=(List.range n).flatMap fun i=>if coc (z (sqF i))=sdb wh then upK z wh fc b (sqF i) 64 else []
end Go.Proofs.YtnfakamfmkhlbaaGreatDoor.C
