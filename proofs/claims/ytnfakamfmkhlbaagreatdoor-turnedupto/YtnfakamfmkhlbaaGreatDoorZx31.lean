import Derived.Test.YtnfakamfmkhlbaaGreatDoorZx30
import Derived.Test.YtnfakamfmkhlbaaGreatDoorZx18
import Derived.Test.YtnfakamfmkhlbaaGreatDoorZx25
import Derived.Test.YtnfakamfmkhlbaaGreatDoorZx17
import Derived.Test.YtnfakamfmkhlbaaGreatDoorKz2
set_option maxRecDepth 100000
set_option maxHeartbeats 4000000
set_option linter.unusedSimpArgs false
namespace Go.Proofs.YtnfakamfmkhlbaaGreatDoor.C
open Go.ChangeShapes Go.WideShapes Go.ChangeAt Go.RowKit Go.Shelf
open Go.Proofs.YtnfakamfmkhlbaaGreatDoor.P
attribute [local go_sem] qb qd Oper.semAt_some
theorem strs_form {w:World} {base:Nat} {v:Value} {xs:List ByteArray} (h:Strs base v xs w):∃ p cap,v=.slice p xs.length cap/\xs.length<=cap/\∀ i (hi:i<xs.length),∃ g,p=some ⟨g,0,none⟩/\w.cell? ⟨g,i,none⟩=some (.string xs[i]):=by
 rcases h.2 with ⟨rfl,hn⟩|⟨g,cap,cur,rfl,hb,hg,hn,hm,hcs,htk⟩
 ·have:xs=[]:=by simpa using hn
  subst this;exact ⟨none,0,rfl,Nat.le_refl _,fun i hi=>absurd hi (Nat.not_lt_zero i)⟩
 ·refine ⟨_,_,rfl,hn,fun i hi=>⟨g,rfl,?_⟩⟩;simp only [World.cell?];rw [hg];show cur[i]?=_;rw [<-Array.getElem?_toList,<-List.getElem?_take_of_lt (show i<xs.length*1 by omega),htk,List.getElem?_map,List.getElem?_eq_getElem hi];rfl
def tA:ByteArray:=⟨#[97,50,97,51]⟩
def tB:ByteArray:=⟨#[104,50,104,52]⟩
theorem start_txt:txts startS=tA :: ((txts startS).drop 1).take 18++[tB]/\(txts startS).length=20:=by decide +kernel
def StEnd (e:Ending) (w':World):Prop:=∃ g cap,e=.returned (.tuple #[.slice (some ⟨g,0,none⟩) 20 cap,.int .i64 0])/\20<=cap/\w'.cell? ⟨g,0,none⟩=some (.string tA)/\w'.cell? ⟨g,19,none⟩=some (.string tB)
theorem startMoves (n:Int) (hn:n=1\/n=2) (m:Int) (w:World) (hc:Ct m w) (ht:Tabs w):Calls Tryz.prog 20 #[.string firstB,.int .i64 n] w fun e w'=>StEnd e w'/\Gr w w':=by
 obtain ⟨p,h1,h2,h3,h4,_⟩:=start_is;refine (qqa firstB (by decide +kernel) n (fun q a b=>pos_let a b) m w hc ht).mono fun e w' h=>⟨?_,h.2⟩
 have hs:sortM (waL p n)=startS:=by rcases hn with rfl|rfl;exact h3;exact h4
 rcases h.1 with ⟨a,_⟩|⟨q,a,b,_⟩|⟨q,_,_,a,_⟩|⟨q,v,a,_,_,rfl,hv⟩
 ·rw [h1] at a;cases a
 ·rw [h1] at a;rw [<-Option.some.inj a,h2] at b;cases b
 ·exact absurd hn a
 ·rw [h1] at a;rw [<-Option.some.inj a,hs] at hv;obtain ⟨pp,cap,rfl,hcap,hel⟩:=strs_form hv;have hl:=start_txt.2;obtain ⟨g,rfl,e0⟩:=hel 0 (by rw [hl];omega);obtain ⟨g',eg,e19⟩:=hel 19 (by rw [hl];omega);cases eg;refine ⟨g,cap,by rw [hl],by rw [<-hl];exact hcap,?_,?_⟩
  ·rw [e0];rfl
  ·rw [e19];rfl
theorem startLook (m:Int) (w:World) (hc:Ct m w) (ht:Tabs w):Calls Tryz.prog 21 #[.string firstB] w fun e w'=>e=.returned (.tuple #[.agg (stateA false 20 0),.int .i64 0])/\Gr w w':=by
 obtain ⟨p,h1,h2,_,_,h5⟩:=start_is;refine (qq5 firstB (by decide +kernel) (fun q a b=>qj3 a b) m w hc ht).mono fun e w' h=>⟨?_,h.2⟩
 rcases h.1 with ⟨k,hb,_⟩|⟨q,a,_,rfl⟩
 ·rcases hb with ⟨_,a⟩|⟨_,q,a,b⟩
  ·rw [h1] at a;cases a
  ·rw [h1] at a;rw [<-Option.some.inj a,h2] at b;cases b
 ·rw [h1] at a;rw [<-Option.some.inj a,h5]
theorem state_cells {W:World} {b:Nat} {c:Bool} {n o:Int} (h:W.heap[b]?=some (.cells (stateA c n o) 44)):W.cell? ⟨b,0,none⟩=some (.bool c)/\W.cell? ⟨b,1,none⟩=some (.int .i64 n)/\W.cell? ⟨b,2,none⟩=some (.int .i64 o):=by
 refine ⟨?_,?_,?_⟩<;>(rw [cell_of_row _ _ _ _ _ _ h];rfl)
theorem begin_tw (m:Int) (w:World) (hc:Ct m w) (ht:Tabs w):Calls Tryz.prog 19 #[] w fun e w'=>e=.returned (.bool true)/\Gr w w':=by
 have h1:Hid (∀ n:Int,(n=1\/n=2)->∀ W,Gr w W->Calls Tryz.prog 20 #[.string firstB,.int .i64 n] W fun e w'=>StEnd e w'/\Gr W w'):=hide fun n hn W hg=>startMoves n hn m W (hc.gr hg) (ht.gr hg)
 have h2:Hid (∀ W,Gr w W->Calls Tryz.prog 21 #[.string firstB] W fun e w'=>e=.returned (.tuple #[.agg (stateA false 20 0),.int .i64 0])/\Gr W w'):=hide fun W hg=>startLook m W (hc.gr hg) (ht.gr hg)
 clear hc ht;go_enter Tryz.func19,Tryz.ntmps19;generalize hF:(⟨#[114,110,98,113,107,98,110,114,47,112,112,112,112,112,112,112,112,47,56,47,56,47,56,47,56,47,80,80,80,80,80,80,80,80,47,82,78,66,81,75,66,78,82,32,119,32,75,81,107,113,32,45,32,48,32,49]⟩:ByteArray)=F;rw [show firstB=F from hF] at h1 h2;clear hF;go_upto_region 2 with (go_at_call 20;refine (qa h1 1 (.inl rfl) _ (Gr.refl _)).mono ?_;rintro e w1 ⟨⟨g1,cap1,rfl,hcap1,a0,a19⟩,hg1⟩);go_upto_region 3 with (go_at_call 20;refine (qa h1 2 (.inr rfl) _ hg1).mono ?_;rintro e w2 ⟨⟨g2,cap2,rfl,hcap2,b0,b19⟩,hg2⟩);have hg12:=Gr.trans hg1 hg2;have la:g1<w1.heap.size:=World.block_lt_of_cell? w1 _ a0;have lb:g2<w2.heap.size:=World.block_lt_of_cell? w2 _ b0;have a0:=(Below.cell hg2 (p:=⟨g1,0,none⟩) la).trans a0;have a19:=(Below.cell hg2 (p:=⟨g1,19,none⟩) la).trans a19;have la2:g1<w2.heap.size:=Nat.lt_of_lt_of_le la (Below.size hg2);clear hg1 hg2 h1 la
 go_upto_region 4 with (first
  | (go_at_call 21;refine (qa h2 _ hg12).mono ?_;rintro e w3 ⟨rfl,hg3⟩)
  | (refine wpList_store_row rfl 44 _ _ rfl w3.heap.size (stateA false 20 0) rfl rfl 44 (stateA false 0 0) (heap_alloc_new _ _) infoSt rfl (jo _ _ _) ?_))
 show Code.wp _ _ _ _ ((w3.alloc (.cells (stateA false 0 0) 44)).setRow w3.heap.size (stateA false 20 0));have hg34:Gr w3 ((w3.alloc (.cells (stateA false 0 0) 44)).setRow w3.heap.size (stateA false 20 0)):=((Gr.refl w3).alloc _ _).setRow _ (Nat.le_refl _) _;have hst:((w3.alloc (.cells (stateA false 0 0) 44)).setRow w3.heap.size (stateA false 20 0)).heap[w3.heap.size]?=some (.cells (stateA false 20 0) 44):=setRow_heap _ _ _ _ _ _ (heap_alloc_new w3 _);have hg24:=Gr.trans hg3 hg34;have hgw:=Gr.trans hg12 hg24;generalize ((w3.alloc (.cells (stateA false 0 0) 44)).setRow w3.heap.size (stateA false 20 0))=w4 at hst hg24 hgw ⊢;generalize w3.heap.size=b4 at hst ⊢;have a0:=(Below.cell hg24 (p:=⟨g1,0,none⟩) la2).trans a0;have a19:=(Below.cell hg24 (p:=⟨g1,19,none⟩) la2).trans a19;have b0:=(Below.cell hg24 (p:=⟨g2,0,none⟩) lb).trans b0;have b19:=(Below.cell hg24 (p:=⟨g2,19,none⟩) lb).trans b19;obtain ⟨s0,s1,s2⟩:=state_cells hst;have hgw':=hide hgw;clear hg24 hgw hg12 hst hg34 hg3 h2 la2 lb;simp only [tA,tB] at a0 a19 b0 b19;go_upto_region 6 with fail;go_wp2
 all_goals
  go_ret;exact ⟨rfl,qa hgw'⟩
def MoEnd (T:List ByteArray) (k:Int) (e:Ending) (w':World):Prop:=∃ p cap,e=.returned (.tuple #[.slice p T.length cap,.int .i64 k])/\T.length<=cap/\∀ i (hi:i<T.length),∃ g,p=some ⟨g,0,none⟩/\w'.cell? ⟨g,i,none⟩=some (.string T[i])
theorem el_gr {T:List ByteArray} {p:Option Addr} {W W':World} (h:∀ i (hi:i<T.length),∃ g,p=some ⟨g,0,none⟩/\W.cell? ⟨g,i,none⟩=some (.string T[i])) (hg:Gr W W'):∀ i (hi:i<T.length),∃ g,p=some ⟨g,0,none⟩/\W'.cell? ⟨g,i,none⟩=some (.string T[i]):=fun i hi=>by
 obtain ⟨g,e,hx⟩:=h i hi;exact ⟨g,e,(Below.cell hg (p:=⟨g,i,none⟩) (World.block_lt_of_cell? W _ hx)).trans hx⟩
def El (p:Option Addr) (T:List ByteArray) (W:World):Prop:=∀ i (hi:i<T.length),∃ g,p=some ⟨g,0,none⟩/\W.cell? ⟨g,i,none⟩=some (.string T[i])
theorem El.gr {T:List ByteArray} {p:Option Addr} {W W':World} (h:El p T W) (hg:Gr W W'):El p T W':=el_gr h hg
end Go.Proofs.YtnfakamfmkhlbaaGreatDoor.C
namespace Go.Proofs.YtnfakamfmkhlbaaGreatDoor.C
open Go.RowKit
open Go.Proofs.YtnfakamfmkhlbaaGreatDoor.P
def lastR (t:Nat):Bool:=decide (t/8=0)||decide (t/8=7)
def upR (f t:Nat):Int:=((t/8:Nat):Int)-((f/8:Nat):Int)
def pwU (z:Nat->UInt8) (wh:Bool) (f t:Nat):Bool:=decide (upR f t=sdb wh)||(decide (upR f t=2*sdb wh)&&decide (f/8=(if wh then 1 else 6))&&decide (z (if wh then f+8 else f-8)=46))
def pwR (z:Nat->UInt8) (wh:Bool) (b:Int) (f t:Nat):Bool :=
 if attI (zI z) 0 (sdb wh) (f:Int) (t:Int) then decide (coc (z t)=sdb (!wh))||decide ((t:Int)=b)
 else decide (f%8=t%8)&&decide (z t=46)&&pwU z wh f t
def mnR (z:Nat->UInt8) (wh:Bool) (fc:Nat->Bool) (k f t:Nat) (u:UInt8):Bool :=
 if attI (zI z) k (sdb wh) (f:Int) (t:Int) then true
 else decide (k=5)&&decide (0<=casR wh fc f t u)&&freeC z (casR wh fc f t u).toNat
def goesR (z:Nat->UInt8) (wh:Bool) (fc:Nat->Bool) (b:Int) (f t:Nat) (u:UInt8):Bool :=
 decide (coc (z f)=sdb wh)&&!decide (coc (z t)=sdb wh)&&(decide (u≠0)==(decide (kdc (z f)=0)&&lastR t))&&(if kdc (z f)=0 then pwR z wh b f t else mnR z wh fc (kdc (z f)).toNat f t u)
def U5:List UInt8:=[0,98,110,113,114]
theorem lastR_bit:∀ t,t<64->lastB.getLsbD t=lastR t:=by decide +kernel
theorem turns_iff {p:Bool} {f t:Nat} (ht:t<64) {u:UInt8} (hu:u∈U5):(f,t,u)∈turnsB p f t↔(decide (u≠0)==(p&&lastR t))=true:=by
 unfold turnsB;rw [lastR_bit t ht];unfold U5 at hu;simp only [List.mem_cons,List.not_mem_nil,or_false] at hu;cases p&&lastR t
 ·rw [if_neg (by simp)];rcases hu with rfl|rfl|rfl|rfl|rfl<;>simp
 ·rw [if_pos rfl];rcases hu with rfl|rfl|rfl|rfl|rfl<;>simp
theorem kd_ix {c:UInt8} {wh:Bool} {i:Nat} (hi:i<6) (h:ixc c=((bg wh+i:Nat):Int)):kdc c=(i:Int):=by
 unfold kdc;rw [h];unfold bg;cases wh
 ·simp only [Bool.false_eq_true,if_false];rw [if_pos (by omega)];omega
 ·simp only [if_true];rw [if_neg (by omega)];omega
theorem pawn_ah {z:Nat->UInt8} {wh:Bool} {f t:Nat} (hf:f<64) (_ht:t<64) (hr:¬ (f/8=0\/f/8=7)):(decide (f%8=t%8)&&decide (z t=46)&&pwU z wh f t)=true↔AhP z wh f t:=by
 unfold pwU upR AhP startR;simp only [Bool.and_eq_true,Bool.or_eq_true,decide_eq_true_eq];cases wh
 ·have e1:fw false f 1=f-8:=rfl;have e2:fw false f 2=f-16:=rfl;rw [e1,e2];simp only [sdb,Bool.false_eq_true,if_false];constructor
  ·rintro ⟨⟨h1,h2⟩,h3|⟨⟨h3,h4⟩,h5⟩⟩
   ·have:t=f-8:=by omega
    exact .inl ⟨this,by rw [<-this];exact h2⟩
   ·have:t=f-16:=by omega
    exact .inr ⟨h4,this,h5,by rw [<-this];exact h2⟩
  ·rintro (⟨h1,h2⟩|⟨h1,h2,h3,h4⟩)
   ·exact ⟨⟨by omega,by rw [h1];exact h2⟩,.inl (by omega)⟩
   ·exact ⟨⟨by omega,by rw [h2];exact h4⟩,.inr ⟨⟨by omega,h1⟩,h3⟩⟩
 ·have e1:fw true f 1=f+8:=rfl;have e2:fw true f 2=f+16:=rfl;rw [e1,e2];simp only [sdb,if_true];constructor
  ·rintro ⟨⟨h1,h2⟩,h3|⟨⟨h3,h4⟩,h5⟩⟩
   ·have:t=f+8:=by omega
    exact .inl ⟨this,by rw [<-this];exact h2⟩
   ·have:t=f+16:=by omega
    exact .inr ⟨h4,this,h5,by rw [<-this];exact h2⟩
  ·rintro (⟨h1,h2⟩|⟨h1,h2,h3,h4⟩)
   ·exact ⟨⟨by omega,by rw [h1];exact h2⟩,.inl (by omega)⟩
   ·exact ⟨⟨by omega,by rw [h2];exact h4⟩,.inr ⟨⟨by omega,h1⟩,h3⟩⟩
theorem ah_no {z:Nat->UInt8} {wh:Bool} {f t:Nat} (hr:¬ (f/8=0\/f/8=7)) (h:AhP z wh f t):z t=46/\attI (zI z) 0 (sdb wh) (f:Int) (t:Int)=false:=by
 have e:t%8=f%8:=by
  unfold AhP startR fw at h;cases wh<;>simp at h<;>omega
 refine ⟨?_,?_⟩
 ·rcases h with ⟨h1,h2⟩|⟨_,h1,_,h2⟩
  ·rw [h1];exact h2
  ·rw [h1];exact h2
 ·cases ha:attI (zI z) 0 (sdb wh) (f:Int) (t:Int) with
  | false=>rfl
  | true=>exact absurd (by omega) (pawn_file ha)
theorem home_hK:∀ i,i<4->homeK i=((hK i:Nat):Int)/\homeT i=((casT i:Nat):Int)/\homeR i=((hR i:Nat):Int):=by decide +kernel
theorem clr_same {z:Nat->UInt8} {i:Nat} (hi:i<4):clrH z i=mcE z (hK i) (hD i) (hN i):=by
 have z46:∀ n,(((z n).toNat:Int)=46)↔(z n==46)=true:=fun n=>by
  constructor
  ·intro h;have:z n=46:=u8_of h rfl;simp [this]
  ·intro h;have:z n=46:=by simpa using h
   rw [this];rfl
 unfold clrH freeI mcE;rw [Bool.eq_iff_iff,decide_eq_true_eq,List.all_eq_true];have hc:i=0\/i=1\/i=2\/i=3:=by omega
 constructor
 ·intro h j hj;have hj:=List.mem_range.1 hj;rw [<-z46]
  have e:sqK (hK i) (hD i) (j+1)=(wayP i (j+1)).toNat:=by
   unfold sqK wayP homeK hD hK;rcases hc with rfl|rfl|rfl|rfl<;>simp<;>omega
  rw [e];refine h (j+1) ?_ (by omega);unfold hN at hj;unfold wayL;rcases hc with rfl|rfl|rfl|rfl<;>simp at hj ⊢<;>omega
 ·intro h j hj h1
  have:=h (j-1) (List.mem_range.2 (by
   unfold wayL at hj;unfold hN;rcases hc with rfl|rfl|rfl|rfl<;>simp at hj ⊢<;>omega))
  rw [<-z46] at this;rw [<-this]
  have e:sqK (hK i) (hD i) (j-1+1)=(wayP i j).toNat:=by
   unfold sqK wayP homeK hD hK;rcases hc with rfl|rfl|rfl|rfl<;>simp<;>omega
  rw [e]
theorem zc {z:Nat->UInt8} (hok:layOk z=true) {i:Nat} (hi:i<4):freeC z i=mcB z (decide (i<2)) (hK i) (hD i) (hN i):=by
 unfold freeC mcB;rw [clr_same hi];unfold mcA;have e3:∀ p:Nat->Bool,(List.range 3).all p=(p 0&&(p 1&&(p 2&&true))):=fun p=>rfl
 rw [e3];have key:∀ j,j<3->attLB z (sqK (hK i) (hD i) j) (!decide (i<2))=attR z (((sqK (hK i) (hD i) j:Nat)):Int) (!decide (i<2)):=fun j hj=>qz hok (wit_lt i hi j (by omega) (by unfold hN;split<;>omega)) _
 rw [key 0 (by omega),key 1 (by omega),key 2 (by omega)]
 have q:homeK i=((sqK (hK i) (hD i) 0:Nat):Int)/\(homeK i+homeT i).tdiv 2=((sqK (hK i) (hD i) 1:Nat):Int)/\homeT i=((sqK (hK i) (hD i) 2:Nat):Int):=by
  have hc:i=0\/i=1\/i=2\/i=3:=by omega
  rcases hc with rfl|rfl|rfl|rfl<;>decide
 rw [<-q.1,<-q.2.1,<-q.2.2];cases mcE z (hK i) (hD i) (hN i)<;>cases attR z (homeK i) (!decide (i<2))<;>cases attR z ((homeK i+homeT i).tdiv 2) (!decide (i<2))<;>cases attR z (homeT i) (!decide (i<2))<;>rfl
theorem qxi {wh:Bool} {fc:Nat->Bool} {f t:Nat} {i:Nat} (hi:i<4):casB wh fc f t 0 i=true↔fc i=true/\wh=decide (i<2)/\f=hK i/\t=casT i:=by
 obtain ⟨e1,e2,_⟩:=home_hK i hi;unfold casB;rw [e1,e2];simp only [Bool.and_eq_true,beq_iff_eq];constructor
 ·rintro ⟨⟨⟨⟨h1,h2⟩,h3⟩,h4⟩,_⟩;refine ⟨h1,?_,by omega,by omega⟩
  revert h2
  cases wh<;>cases decide (i<2)<;>simp [sdb]
 ·rintro ⟨h1,h2,h3,h4⟩;exact ⟨⟨⟨⟨h1,by rw [h2]⟩,by omega⟩,by omega⟩,rfl⟩
theorem qqr {z:Nat->UInt8} {wh:Bool} {fc:Nat->Bool} {f t:Nat}:(decide (0<=casR wh fc f t 0)&&freeC z (casR wh fc f t 0).toNat)=true↔∃ i,i<4/\wh=decide (i<2)/\fc i=true/\f=hK i/\t=casT i/\freeC z i=true/\casR wh fc f t 0=(i:Int):=by
 have hu:casR wh fc f t 0=if casB wh fc f t 0 0 then 0 else if casB wh fc f t 0 1 then 1 else if casB wh fc f t 0 2 then 2 else if casB wh fc f t 0 3 then 3 else -1:=rfl;constructor
 ·intro h;rw [Bool.and_eq_true,decide_eq_true_eq] at h;obtain ⟨h1,h2⟩:=h
  have go:∀ i,i<4->casB wh fc f t 0 i=true->casR wh fc f t 0=(i:Int)->∃ i,i<4/\wh=decide (i<2)/\fc i=true/\f=hK i/\t=casT i/\freeC z i=true/\casR wh fc f t 0=(i:Int):=fun i hi hc he=>by
   obtain ⟨a1,a2,a3,a4⟩:=(qxi hi).1 hc;rw [he] at h2;exact ⟨i,hi,a2,a1,a3,a4,h2,he⟩
  by_cases c0:casB wh fc f t 0 0=true
  ·exact go 0 (by omega) c0 (by rw [hu,if_pos c0];rfl)
  ·by_cases c1:casB wh fc f t 0 1=true
   ·exact go 1 (by omega) c1 (by rw [hu,if_neg c0,if_pos c1];rfl)
   ·by_cases c2:casB wh fc f t 0 2=true
    ·exact go 2 (by omega) c2 (by rw [hu,if_neg c0,if_neg c1,if_pos c2];rfl)
    ·by_cases c3:casB wh fc f t 0 3=true
     ·exact go 3 (by omega) c3 (by rw [hu,if_neg c0,if_neg c1,if_neg c2,if_pos c3];rfl)
     ·rw [hu,if_neg c0,if_neg c1,if_neg c2,if_neg c3] at h1;omega
 ·rintro ⟨i,hi,a1,a2,a3,a4,a5,a6⟩;rw [a6,Bool.and_eq_true,decide_eq_true_eq];exact ⟨by omega,a5⟩
theorem casR_is {wh:Bool} {fc:Nat->Bool} {f t i:Nat} (hi:i<4) (h1:fc i=true) (h2:wh=decide (i<2)) (h3:f=hK i) (h4:t=casT i):casR wh fc f t 0=(i:Int):=by
 have hu:casR wh fc f t 0=if casB wh fc f t 0 0 then 0 else if casB wh fc f t 0 1 then 1 else if casB wh fc f t 0 2 then 2 else if casB wh fc f t 0 3 then 3 else -1:=rfl;have hp:casB wh fc f t 0 i=true:=(qxi hi).2 ⟨h1,h2,h3,h4⟩
 have hn:∀ j,j<4->j≠i->¬ casB wh fc f t 0 j=true:=fun j hj hne h=>by
  have:=((qxi hj).1 h).2.2.2;rw [h4] at this
  revert this
  unfold casT;have hc:i=0\/i=1\/i=2\/i=3:=by omega
  have hd:j=0\/j=1\/j=2\/j=3:=by omega
  rcases hc with rfl|rfl|rfl|rfl<;>rcases hd with rfl|rfl|rfl|rfl<;>simp at hne ⊢
 rw [hu];have hc:i=0\/i=1\/i=2\/i=3:=by omega
 rcases hc with rfl|rfl|rfl|rfl
 ·rw [if_pos hp];rfl
 ·rw [if_neg (hn 0 (by omega) (by omega)),if_pos hp];rfl
 ·rw [if_neg (hn 0 (by omega) (by omega)),if_neg (hn 1 (by omega) (by omega)),if_pos hp];rfl
 ·rw [if_neg (hn 0 (by omega) (by omega)),if_neg (hn 1 (by omega) (by omega)),if_neg (hn 2 (by omega) (by omega)),if_pos hp];rfl
theorem cg_iff {z:Nat->UInt8} {wh:Bool} {fc:Nat->Bool} {b:Int} (hC:Can z wh fc b) {f t:Nat} (hf:f<64) (hc:ixc (z f)=((bg wh+5:Nat):Int)):t∈cgR z wh fc f++cgM z wh fc f↔(decide (0<=casR wh fc f t 0)&&freeC z (casR wh fc f t 0).toNat)=true:=by
 obtain ⟨k1,k2⟩:=ji hC hf hc;rw [qqr,List.mem_append];have e:(hK (cgF wh)+2=casT (cgF wh)/\hD (cgF wh)=1/\hN (cgF wh)=2/\cgF wh<4/\decide (cgF wh<2)=wh)/\(hK (cgF wh+1)-2=casT (cgF wh+1)/\hD (cgF wh+1)=-1/\hN (cgF wh+1)=3/\cgF wh+1<4/\decide (cgF wh+1<2)=wh):=by cases wh<;>decide
 obtain ⟨⟨a1,a2,a3,a4,a5⟩,⟨b1,b2,b3,b4,b5⟩⟩:=e;constructor
 ·rintro (h|h)
  ·unfold cgR at h;split at h
   ·rename_i hh;rw [Bool.and_eq_true] at hh;have hfe:=k1 hh.1;have ht:t=casT (cgF wh):=by rw [List.mem_singleton.1 h,<-a1,<-hfe]
    exact ⟨cgF wh,a4,a5.symm,hh.1,hfe,ht,by rw [zc hC.ok a4,a5,a2,a3,<-hfe];exact hh.2,casR_is a4 hh.1 a5.symm hfe ht⟩
   ·cases h
  ·unfold cgM at h;split at h
   ·rename_i hh;rw [Bool.and_eq_true] at hh;have hfe:=k2 hh.1;have ht:t=casT (cgF wh+1):=by rw [List.mem_singleton.1 h,<-b1,<-hfe]
    exact ⟨cgF wh+1,b4,b5.symm,hh.1,hfe,ht,by rw [zc hC.ok b4,b5,b2,b3,<-hfe];exact hh.2,casR_is b4 hh.1 b5.symm hfe ht⟩
   ·cases h
 ·rintro ⟨i,hi,h1,h2,h3,h4,h5,_⟩;rw [zc hC.ok hi,<-h1] at h5
  have:i=cgF wh\/i=cgF wh+1:=by
   have hh:i=0\/i=1\/i=2\/i=3:=by omega
   rcases hh with rfl|rfl|rfl|rfl<;>(subst h1;decide)
  rcases this with rfl|rfl
  ·left;unfold cgR;rw [a2,a3,<-h3] at h5;rw [if_pos (by rw [h2,h5];rfl),h4,<-a1,h3];exact List.mem_singleton.2 rfl
  ·right;unfold cgM;rw [b2,b3,<-h3] at h5;rw [if_pos (by rw [h2,h5];rfl),h4,<-b1,h3];exact List.mem_singleton.2 rfl
theorem goes_iff {z:Nat->UInt8} {wh:Bool} {fc:Nat->Bool} {b:Int} (hC:Can z wh fc b) {f t:Nat} {u:UInt8} (hf:f<64) (ht:t<64) (hu:u∈U5) :
  goesR z wh fc b f t u=true↔∃ i,i<6/\ixc (z f)=((bg wh+i:Nat):Int)/\t∈tgL z wh fc b f/\(f,t,u)∈turnsB (decide (i=0)) f t:=by
 have hokt:=xe hC.ok ht;by_cases hco:coc (z f)=sdb wh
 case neg =>
  constructor
  ·intro h;unfold goesR at h;rw [decide_eq_false hco] at h;simp at h
  ·rintro ⟨i,hi,hc,_⟩;exact absurd (qy hi hc) hco
 obtain ⟨i,hi,hc,_⟩:=jv hco;have hk:=kd_ix hi hc;obtain ⟨hp,hkg⟩:=jf hi hc
 have uniq:(∃ i,i<6/\ixc (z f)=((bg wh+i:Nat):Int)/\t∈tgL z wh fc b f/\(f,t,u)∈turnsB (decide (i=0)) f t)↔(t∈tgL z wh fc b f/\(f,t,u)∈turnsB (decide (i=0)) f t):=by
  constructor
  ·rintro ⟨j,hj,e,h⟩;have:j=i:=by rw [hc] at e;omega
   rw [this] at h;exact h
  ·intro h;exact ⟨i,hi,hc,h⟩
 rw [uniq,turns_iff ht hu];unfold goesR;rw [decide_eq_true hco,hk,Bool.true_and,Bool.and_eq_true,Bool.and_eq_true]
 have e0:decide ((i:Int)=0)=decide (i=0):=by
  by_cases h:i=0
  ·simp [h]
  ·rw [decide_eq_false h,decide_eq_false (by omega)]
 rw [e0]
 have key:∀ (hU:(decide (u≠0)==(decide (i=0)&&lastR t))=true),((!decide (coc (z t)=sdb wh))=true/\(if (i:Int)=0 then pwR z wh b f t else mnR z wh fc (i:Int).toNat f t u)=true)↔t∈tgL z wh fc b f:=by
  intro hU;rw [Bool.not_eq_true',decide_eq_false_iff_not];unfold tgL;rw [List.mem_append,List.mem_filter,zw hf hi hc ht,hp,hkg];unfold mayB;rw [hp,za hokt,za hokt];by_cases i0:i=0
  ·subst i0;have hr:=hC.pw wh f hf hc;rw [decide_eq_true rfl,if_pos rfl,if_pos rfl,if_pos (show ((0:Nat):Int)=0 from rfl),qja hf hr];unfold pwR;rw [Bool.or_eq_true,beq_iff_eq,decide_eq_true_eq];cases ha:attI (zI z) 0 (sdb wh) (f:Int) (t:Int) with
   | true =>
    rw [if_pos rfl,Bool.or_eq_true,decide_eq_true_eq,decide_eq_true_eq];constructor
    ·rintro ⟨_,h|h⟩
     ·exact .inl ⟨rfl,.inr h⟩
     ·exact .inl ⟨rfl,.inl h⟩
    ·rintro (⟨_,h|h⟩|h)
     ·exact ⟨by rw [(beh_w hC.beh h).1];exact zd _,.inr h⟩
     ·exact ⟨by rw [h];exact fun e=>qzj wh e.symm,.inl h⟩
     ·rw [(ah_no hr h).2] at ha;cases ha
   | false =>
    rw [if_neg (by simp),pawn_ah hf ht hr];constructor
    ·rintro ⟨_,h⟩;exact .inr h
    ·rintro (⟨h,_⟩|h)
     ·cases h
     ·exact ⟨by rw [(ah_no hr h).1];exact zd _,h⟩
  ·rw [decide_eq_false i0,if_neg (by omega),if_neg (by simp),if_neg (by simp),Int.toNat_natCast,Bool.not_eq_true',decide_eq_false_iff_not];unfold mnR;by_cases i5:i=5
   ·subst i5
    have u0:u=0:=by
     rw [beq_iff_eq] at hU;have:decide (u≠0)=false:=hU;simpa using this
    subst u0;rw [decide_eq_true rfl,if_pos rfl,cg_iff hC hf hc,Bool.true_and];cases ha:attI (zI z) 5 (sdb wh) (f:Int) (t:Int) with
    | true =>
     rw [if_pos rfl];constructor
     ·rintro ⟨h,_⟩;exact .inl ⟨rfl,h⟩
     ·rintro (⟨_,h⟩|h)
      ·exact ⟨h,rfl⟩
      ·obtain ⟨ci,hci,c1,c2,c3,c4,c5,_⟩:=qqr.1 h;rw [zc hC.ok hci,<-c1] at c5;have hcas:=cas_of hC hci c1 c2 c5;refine ⟨?_,rfl⟩;rw [c4,hcas.dot (cas_in ci hci).1];exact zd _
    | false =>
     rw [if_neg (by simp)];constructor
     ·rintro ⟨_,h⟩;exact .inr h
     ·rintro (⟨h,_⟩|h)
      ·cases h
      ·refine ⟨?_,h⟩;obtain ⟨ci,hci,c1,c2,c3,c4,c5,_⟩:=qqr.1 h;rw [zc hC.ok hci,<-c1] at c5;have hcas:=cas_of hC hci c1 c2 c5;rw [c4,hcas.dot (cas_in ci hci).1];exact zd _
   ·rw [decide_eq_false i5];cases ha:attI (zI z) i (sdb wh) (f:Int) (t:Int) with
    | true=>simp
    | false=>simp
 constructor
 ·rintro ⟨⟨h1,h2⟩,h3⟩;exact ⟨(key h2).1 ⟨h1,h3⟩,h2⟩
 ·rintro ⟨h1,h2⟩;have:=(key h2).2 h1;exact ⟨⟨this.1,h2⟩,this.2⟩
end Go.Proofs.YtnfakamfmkhlbaaGreatDoor.C
namespace Go.Proofs.YtnfakamfmkhlbaaGreatDoor.C
open Go.ChangeShapes Go.WideShapes Go.ChangeAt Go.RowKit
open Go.Proofs.YtnfakamfmkhlbaaGreatDoor.P
attribute [local go_sem] qb qd
def pasB (z:Nat->UInt8) (b:Int) (f t:Nat):Bool:=decide (kdc (z f)=0)&&decide ((t:Int)=b)&&decide (f%8≠t%8)
def plU (u:UInt8):Nat:=if u=110 then 1 else if u=98 then 2 else if u=114 then 3 else 4
def bz1 (z:Nat->UInt8) (b:Int) (f t:Nat):Nat->UInt8:=if pasB z b f t then upd z (f/8*8+t%8) 46 else z
def bz2 (z:Nat->UInt8) (b:Int) (f t:Nat):Nat->UInt8:=upd (upd (bz1 z b f t) t (z f)) f 46
def bz3 (z:Nat->UInt8) (wh:Bool) (b:Int) (f t:Nat) (u:UInt8):Nat->UInt8:=if u=0 then bz2 z b f t else upd (bz2 z b f t) t (manL (plU u) wh)
def kcB (z:Nat->UInt8) (wh:Bool) (fc:Nat->Bool) (f t:Nat) (u:UInt8):Bool:=decide (kdc (z f)=5)&&decide (0<=casR wh fc f t u)
def bz4 (z:Nat->UInt8) (wh:Bool) (fc:Nat->Bool) (b:Int) (f t:Nat) (u:UInt8):Nat->UInt8:=if kcB z wh fc f t u then upd (upd (bz3 z wh b f t u) (homeR (casR wh fc f t u).toNat).toNat 46) ((f+t)/2) (manL 3 wh) else bz3 z wh b f t u
theorem Row.castle {z:Nat->UInt8} {wh:Bool} {fc fc':Nat->Bool} {b h g:Int} {Q:Array Value} (r:Row z wh fc b h g Q) (e:∀ i,i<4->fc i=fc' i):Row z wh fc' b h g Q :=
 ⟨r.size,r.sq,r.wh,fun i hi=>by rw [<-e i hi];exact r.c i hi,r.b,r.h,r.g⟩
end Go.Proofs.YtnfakamfmkhlbaaGreatDoor.C
namespace Go.Proofs.YtnfakamfmkhlbaaGreatDoor.C
open Go.RowKit
open Go.Proofs.YtnfakamfmkhlbaaGreatDoor.P
theorem prom_is:∀ wh:Bool,∀ u∈[98,110,113,114],manL (plU u) wh=trn (letr (bg wh)) u:=by decide +kernel
theorem cas_two:∀ i,i<4->casT i=hK i+2\/casT i+2=hK i:=by decide +kernel
theorem bz1_no {z:Nat->UInt8} {b:Int} {f t:Nat} (h:pasB z b f t=false):bz1 z b f t=z:=by
 unfold bz1;rw [h];rfl
theorem bz4_pl {z:Nat->UInt8} {wh:Bool} {fc:Nat->Bool} {b:Int} (hC:Can z wh fc b) {i f t:Nat} {u:UInt8} (hi:i<6) (hf:f<64) (ht:t<64) (hc:ixc (z f)=((bg wh+i:Nat):Int)) (hm:t∈tgL z wh fc b f) (hu:(f,t,u)∈turnsB (decide (i=0)) f t):bz4 z wh fc b f t u=plZ z b (f,t,u):=by
 have hkd:=kd_ix hi hc;obtain ⟨u',e,u0,u1⟩:=qq2 hu;have:u=u':=by injection e with _ e;injection e
 subst this;rcases classify hC hi hf ht hc hm hu with ⟨hP,kg⟩|⟨ci,hK',e1,e2,e3,e4⟩
 ·have hkc:kcB z wh fc f t u=false:=by
   cases hx:kcB z wh fc f t u with
   | false=>rfl
   | true =>
    unfold kcB at hx;rw [Bool.and_eq_true,decide_eq_true_eq,decide_eq_true_eq,hkd] at hx;have i5:i=5:=by omega
    have hu0:=u0 (decide_eq_false (by omega));subst hu0;have hx2:=hx.2
    have hall:∀ j,j<4->casB wh fc f t 0 j=true->False:=fun j hj h=>by
     obtain ⟨_,_,a3,a4⟩:=(qxi hj).1 h;have:=kg i5;have:=cas_two j hj;omega
    have hun:casR wh fc f t 0=if casB wh fc f t 0 0 then 0 else if casB wh fc f t 0 1 then 1 else if casB wh fc f t 0 2 then 2 else if casB wh fc f t 0 3 then 3 else -1:=rfl;rw [hun,if_neg (hall 0 (by omega)),if_neg (hall 1 (by omega)),if_neg (hall 2 (by omega)),if_neg (hall 3 (by omega))] at hx2;omega
  have hB:=pl_at hP kg;funext n;rw [hB n];unfold bz4;rw [hkc,if_neg (by simp)];have hft:=hP.ft
  have h2:bz2 z b f t n=if n=t then z f else if n=f then 46 else if n=csN wh b i t then 46 else z n:=by
   unfold bz2 upd;by_cases c1:n=f
   ·rw [if_pos c1,if_neg (fun e=>hft (c1.symm.trans e)),if_pos c1]
   ·rw [if_neg c1,if_neg c1];by_cases c2:n=t
    ·rw [if_pos c2,if_pos c2]
    ·rw [if_neg c2,if_neg c2];by_cases hep:i=0/\(t:Int)=b
     ·obtain ⟨q1,q2⟩:=hep;obtain ⟨_,_,e3,_,_⟩:=hP.ep q1 q2;have hcf:=hP.cf
      have hpas:pasB z b f t=true:=by
       unfold pasB;rw [hkd,q1,decide_eq_true q2,decide_eq_true (show f%8≠t%8 from fun e=>hcf (by rw [e3,<-e];omega))];rfl
      unfold bz1;rw [hpas,if_pos rfl,<-e3];rfl
     ·have hpas:pasB z b f t=false:=by
       cases hx:pasB z b f t with
       | false=>rfl
       | true =>
        unfold pasB at hx;rw [Bool.and_eq_true,Bool.and_eq_true,decide_eq_true_eq,decide_eq_true_eq,hkd] at hx;exact absurd ⟨by omega,hx.1.2⟩ hep
      rw [bz1_no hpas,hP.nep hep,if_neg c2]
  unfold bz3;by_cases hu0:u=0
  ·rw [if_pos hu0,h2,hu0];rfl
  ·rw [if_neg hu0];unfold upd
   have i0:i=0:=by
    by_cases k:i=0
    ·exact k
    ·exact absurd (u0 (decide_eq_false k)) hu0
   have hz:=jb (by cases wh<;>decide) (show ixc (z f)=((bg wh:Nat):Int) by rw [hc,i0];rfl)
   by_cases c2:n=t
   ·rw [if_pos c2,if_pos c2,hz];refine prom_is wh u ?_;rcases u1 with e|e|e|e|e
    ·exact absurd e hu0
    ·rw [e];simp
    ·rw [e];simp
    ·rw [e];simp
    ·rw [e];simp
   ·rw [if_neg c2,h2,if_neg c2,if_neg c2]
 ·subst e3 e4;have hkg:=jf hi hc
  have hmem:t∈cgR z wh fc f++cgM z wh fc f:=by
   unfold tgL at hm;rw [List.mem_append,List.mem_filter,hkg.1,hkg.2] at hm;rcases hm with ⟨hm,_⟩|hm
   ·rw [zw hf hi hc ht] at hm;have:=(qqv hm).1;rw [jm _ 5 (by omega) _ 1] at this;have:=qx2 f hf t ht this;have:=cas_two ci hK'.hi;omega
   ·rw [decide_eq_false (show ¬ (5:Nat)=0 by omega),if_neg (by simp),decide_eq_true rfl,if_pos rfl] at hm;exact hm
  obtain ⟨cj,hj,j1,j2,j3,j4,j5,j6⟩:=qqr.1 ((cg_iff hC hf hc).1 hmem);obtain ⟨hp,hk⟩:=jf hi hc
  have hkc:kcB z wh fc f t 0=true:=by
   unfold kcB;rw [hkd,j6,decide_eq_true (show (0:Int)<=(cj:Int) by omega)];rfl
  have hpas:pasB z b f t=false:=by
   unfold pasB;rw [hkd];rfl
  have hrook:manL 3 wh=z (hR cj):=by
   have hcc:cj=0\/cj=1\/cj=2\/cj=3:=by omega
   subst j1;rcases hcc with rfl|rfl|rfl|rfl
   ·rw [show z (hR 0)=82 from (hC.c0 j2).2];rfl
   ·rw [show z (hR 1)=82 from (hC.c1 j2).2];rfl
   ·rw [show z (hR 2)=114 from (hC.c2 j2).2];rfl
   ·rw [show z (hR 3)=114 from (hC.c3 j2).2];rfl
  obtain ⟨f1,f2,f3,f4,f5,f6,f7,f8,f9,f10,f11,f12,f13,f14,f15,f16,f17⟩:=jk cj hj
  have hmid:(f+t)/2=rN cj:=by
   have hcc:cj=0\/cj=1\/cj=2\/cj=3:=by omega
   rw [j3,j4];rcases hcc with rfl|rfl|rfl|rfl<;>rfl
  have hhr:(homeR cj).toNat=hR cj:=by rw [(home_hK cj hj).2.2];rfl
  funext n;have hat:=qju (z:=z) (b:=b) hj (by rw [<-j3,hp];rfl) (by rw [<-j3,hk];rfl) n;rw [<-j3,<-j4] at hat;rw [hat];unfold bz4;rw [hkc,if_pos rfl,j6,Int.toNat_natCast,hhr,hmid,hrook];unfold bz3 bz2;rw [if_pos rfl,bz1_no hpas];unfold upd;by_cases c1:n=hR cj
  ·rw [if_neg (fun e=>f17 (e.symm.trans c1)),if_pos c1,if_pos c1]
  ·rw [if_neg c1,if_neg c1];by_cases c2:n=rN cj
   ·rw [if_pos c2,if_pos c2]
   ·rw [if_neg c2,if_neg c2];by_cases c3:n=t
    ·rw [if_pos c3,if_pos c3,if_neg (fun e=>f12 (by rw [<-j4,<-j3];exact c3.symm.trans e))]
    ·rw [if_neg c3,if_neg c3]
theorem pl_ok {z:Nat->UInt8} {wh:Bool} {fc:Nat->Bool} {b:Int} (hC:Can z wh fc b) {i f t:Nat} {u:UInt8} (hi:i<6) (hf:f<64) (ht:t<64) (hc:ixc (z f)=((bg wh+i:Nat):Int)) (hm:t∈tgL z wh fc b f) (hu:(f,t,u)∈turnsB (decide (i=0)) f t):layOk (plZ z b (f,t,u))=true:=by
 rcases classify hC hi hf ht hc hm hu with ⟨hP,kg⟩|⟨ci,hK',e1,e2,e3,e4⟩
 ·exact okZ hP (pl_at hP kg) hC.ok
 ·subst e1 e2 e3 e4;obtain ⟨hp,hk⟩:=jf hi hc;obtain ⟨f1,f2,f3,f4,_⟩:=jk ci hK'.hi;refine zb fun n hn=>?_
  rw [qju hK'.hi (by rw [hp];rfl) (by rw [hk];rfl)];split
  ·rfl
  ·split
   ·exact xe hC.ok f3
   ·split
    ·exact xe hC.ok f1
    ·split
     ·rfl
     ·exact xe hC.ok hn
def legR (z:Nat->UInt8) (wh:Bool) (fc:Nat->Bool) (b:Int) (f t:Nat) (u:UInt8):Bool:=goesR z wh fc b f t u&&!(attR (bz4 z wh fc b f t u) (kingR (bz4 z wh fc b f t u) wh) (!wh))
theorem qzb {z:Nat->UInt8} {wh:Bool} {fc:Nat->Bool} {b:Int} (hC:Can z wh fc b) (h0:-1<=b) (h1:b<=63) {f t:Nat} {u:UInt8} (hf:f<64) (ht:t<64) (hu:u∈U5):legR z wh fc b f t u=true↔(f,t,u)∈letL z wh fc b:=by
 unfold legR letL;rw [Bool.and_eq_true,goes_iff hC hf ht hu,List.mem_filter,zg hC]
 have key:∀ i,i<6->ixc (z f)=((bg wh+i:Nat):Int)->t∈tgL z wh fc b f->(f,t,u)∈turnsB (decide (i=0)) f t->(!(attR (bz4 z wh fc b f t u) (kingR (bz4 z wh fc b f t u) wh) (!wh)))=letP z wh b (f,t,u):=fun i hi hc hm htu=>by
  obtain ⟨y,hy,e⟩:=(jg hC h0 h1 hi hf ht hc hm htu).1;unfold letP;rw [bz4_pl hC hi hf ht hc hm htu,e,Int.toNat_natCast,qz (pl_ok hC hi hf ht hc hm htu) hy]
 constructor
 ·rintro ⟨⟨i,hi,hc,hm,htu⟩,h⟩;rw [key i hi hc hm htu] at h;exact ⟨⟨i,f,t,u,rfl,hi,hf,ht,hc,hm,htu⟩,h⟩
 ·rintro ⟨⟨i,f',t',u',e,hi,_,_,hc,hm,htu⟩,h⟩;have e1:f=f':=by injection e
  have e2:t=t':=by injection e with _ e;injection e
  have e3:u=u':=by injection e with _ e;injection e
  subst e1 e2 e3;exact ⟨⟨i,hi,hc,hm,htu⟩,by rw [key i hi hc hm htu];exact h⟩
def sqF (i:Nat):Nat:=i%8*8+i/8
def moR (z:Nat->UInt8) (f t:Nat):Nat:=if kdc (z f)=0/\lastR t=true then 5 else 1
def upT5 (z:Nat->UInt8) (wh:Bool) (fc:Nat->Bool) (b:Int) (f t n:Nat):List Mv:=((U5.take n).filter fun u=>legR z wh fc b f t u).map fun u=>(f,t,u)
def upK (z:Nat->UInt8) (wh:Bool) (fc:Nat->Bool) (b:Int) (f n:Nat):List Mv:=(List.range n).flatMap fun k=>upT5 z wh fc b f (sqF k) (moR z f (sqF k))
def upI (z:Nat->UInt8) (wh:Bool) (fc:Nat->Bool) (b:Int) (n:Nat):List Mv:=(List.range n).flatMap fun i=>if coc (z (sqF i))=sdb wh then upK z wh fc b (sqF i) 64 else []
def allR (z:Nat->UInt8) (wh:Bool) (fc:Nat->Bool) (b:Int):List Mv:=upI z wh fc b 64
theorem sqF_lt:∀ i,i<64->sqF i<64:=by decide +kernel
theorem sqF_onto:∀ f,f<64->sqF (sqF f)=f:=by decide +kernel
theorem name_rise:∀ i,i<64->∀ j,j<64->i<j->nameS (sqF i)<nameS (sqF j):=by decide +kernel
theorem app_lt {a b c d:List UInt8} (hl:a.length=b.length) (h:a<b):a++c<b++d:=by
 induction a generalizing b with
 | nil =>
  cases b with
  | nil=>exact absurd h (List.lt_irrefl _)
  | cons _ _=>cases hl
 | cons x r ih =>
  cases b with
  | nil=>cases hl
  | cons y s =>
   rw [List.cons_append,List.cons_append,List.cons_lt_cons_iff];rw [List.cons_lt_cons_iff] at h;rcases h with h|⟨h1,h2⟩
   ·exact .inl h
   ·exact .inr ⟨h1,ih (by simpa using hl) h2⟩
theorem app_lt2 {a c d:List UInt8} (h:c<d):a++c<a++d:=by
 induction a with
 | nil=>exact h
 | cons x r ih=>rw [List.cons_append,List.cons_append,List.cons_lt_cons_iff];exact .inr ⟨rfl,ih⟩
theorem mem_all {z:Nat->UInt8} {wh:Bool} {fc:Nat->Bool} {b:Int} (hC:Can z wh fc b) (h0:-1<=b) (h1:b<=63) (x:Mv):x∈allR z wh fc b↔x∈letL z wh fc b:=by
 unfold allR upI upK upT5;simp only [List.mem_flatMap,List.mem_range];constructor
 ·rintro ⟨i,hi,hx⟩;split at hx
  ·obtain ⟨k,hk,hx⟩:=List.mem_flatMap.1 hx;obtain ⟨u,hu,rfl⟩:=List.mem_map.1 hx;obtain ⟨hu,hl⟩:=List.mem_filter.1 hu;exact (qzb hC h0 h1 (sqF_lt i hi) (sqF_lt k (List.mem_range.1 hk)) (List.mem_of_mem_take hu)).1 hl
  ·cases hx
 ·intro hx;obtain ⟨i,f,t,u,rfl,hi,hf,ht,hc,hm,htu⟩:=(zg hC).1 (List.mem_filter.1 hx).1;obtain ⟨u',e,u0,u1⟩:=qq2 htu;have:u=u':=by injection e with _ e;injection e
  subst this
  have hu5:u∈U5:=by
   unfold U5;rcases u1 with e|e|e|e|e<;>(rw [e];simp)
  refine ⟨sqF f,sqF_lt f hf,?_⟩;rw [sqF_onto f hf,if_pos (qy hi hc)];refine List.mem_flatMap.2 ⟨sqF t,List.mem_range.2 (sqF_lt t ht),?_⟩;rw [sqF_onto t ht];refine List.mem_map.2 ⟨u,List.mem_filter.2 ⟨?_,(qzb hC h0 h1 hf ht hu5).2 hx⟩,rfl⟩;have htt:=(turns_iff ht hu5).1 htu;rw [beq_iff_eq] at htt;unfold moR;rw [kd_ix hi hc];by_cases k:(i:Int)=0/\lastR t=true
  ·rw [if_pos k];exact hu5
  ·rw [if_neg k]
   have:decide (u≠0)=false:=by
    rw [htt];cases hl:lastR t with
    | false=>simp
    | true =>
     rw [decide_eq_false (fun e=>k ⟨by omega,hl⟩)];rfl
   have:u=0:=by simpa using this
   rw [this];simp [U5]
theorem all_rise (z:Nat->UInt8) (wh:Bool) (fc:Nat->Bool) (b:Int):(allR z wh fc b).Pairwise fun x y=>txt x<txt y:=by
 have kt:∀ f t n,∀ x∈upT5 z wh fc b f t n,x.1=f/\x.2.1=t:=fun f t n x hx=>by
  obtain ⟨u,_,rfl⟩:=List.mem_map.1 hx;exact ⟨rfl,rfl⟩
 have kf:∀ f n,∀ x∈upK z wh fc b f n,x.1=f:=fun f n x hx=>by
  obtain ⟨k,_,hx⟩:=List.mem_flatMap.1 hx;exact (kt _ _ _ x hx).1
 unfold allR upI;rw [List.pairwise_flatMap];constructor
 ·intro i _;split
  ·unfold upK;rw [List.pairwise_flatMap];constructor
   ·intro k _;unfold upT5;rw [List.pairwise_map];refine List.Pairwise.filter _ (List.Pairwise.sublist (List.take_sublist _ _) ?_);unfold U5;unfold txt mvS;simp only;have e:∀ i,i<5->∀ j,j<5->i<j->nameS (sqF i)=nameS (sqF i):=fun _ _ _ _ _=>rfl
    clear e;refine List.Pairwise.imp (R:=fun u v:UInt8=>(if u=0 then [] else [u])<(if v=0 then ([]:List UInt8) else [v])) (fun {a c} h=>app_lt2 h) ?_;decide
   ·refine (List.pairwise_lt_range (n:=64)).imp_of_mem fun {a c} ha hc hlt x hx y hy=>?_
    obtain ⟨x1,x2⟩:=kt _ _ _ x hx;obtain ⟨y1,y2⟩:=kt _ _ _ y hy;unfold txt mvS;rw [x1,x2,y1,y2,List.append_assoc,List.append_assoc];exact app_lt2 (app_lt rfl (name_rise a (List.mem_range.1 ha) c (List.mem_range.1 hc) hlt))
  ·exact List.Pairwise.nil
 ·refine (List.pairwise_lt_range (n:=64)).imp_of_mem fun {a c} ha hc hlt x hx y hy=>?_
  split at hx
  ·split at hy
   ·have x1:=kf _ _ x hx;have y1:=kf _ _ y hy;unfold txt mvS;rw [x1,y1,List.append_assoc,List.append_assoc];exact app_lt rfl (name_rise a (List.mem_range.1 ha) c (List.mem_range.1 hc) hlt)
   ·cases hy
  ·cases hx
theorem all_same {z:Nat->UInt8} {wh:Bool} {fc:Nat->Bool} {b:Int} (hC:Can z wh fc b) (h0:-1<=b) (h1:b<=63):allR z wh fc b=sortM (movS z wh fc b):=by
 obtain ⟨t1,t2⟩:=twin hC h0 h1;refine xz (fun a c h=>List.lt_asymm h) _ _ (all_rise z wh fc b) t2 fun x=>?_
 rw [mem_all hC h0 h1,zi hC h0 h1,(qp _).mem_iff]
end Go.Proofs.YtnfakamfmkhlbaaGreatDoor.C
