import Derived.Test.YtnfakamfmkhlbabGreatDoorUm26
import Derived.Deep.QuietTactic
import Derived.BigQuiet
import Derived.Deep.RegionHeld3
set_option maxRecDepth 100000
set_option maxHeartbeats 4000000
set_option linter.unusedSimpArgs false
namespace Go.Proofs.YtnfakamfmkhlbabGreatDoor.C
open Go.ChangeShapes Go.WideShapes Go.ChangeAt Go.RowKit Go.Proofs.YtnfakamfmkhlbabGreatDoor.P
def ixd(c:UInt8):Int:=Lib.indexByte [48,49,50,51,52,53,54,55,56,57] c
def ixf(c:UInt8):Int:=Lib.indexByte [97,98,99,100,101,102,103,104] c
def ixr(c:UInt8):Int:=Lib.indexByte [49,50,51,52,53,54,55,56] c
theorem EY:∀c:UInt8,ixd c=if dg c then(c.toNat:Int)-48 else -1:=vg (by decide +kernel)
theorem EX:∀c:UInt8,ixf c=if 97<=c.toNat/\c.toNat<=104 then(c.toNat:Int)-97 else -1:=vg (by decide +kernel)
theorem EV:∀c:UInt8,ixr c=if 49<=c.toNat/\c.toNat<=56 then(c.toNat:Int)-49 else -1:=vg (by decide +kernel)
def kV(l:List UInt8):Int:=match vR l with|some n=>(n:Int)|none=>-1
def dJ(s:ByteArray):Int:=match uX s with|some n=>(n:Int)|none=>-1
theorem zb(s:ByteArray)(w:World):Calls Tryz.prog 104 #[.string s] w fun e w'=>e=.returned (.int .i64 (dJ s))/\w'=w:=by
 by_cases h2:s.size=2
 ·have hsq:Hid (dJ s=if 97<=s[0].toNat/\s[0].toNat<=104/\49<=s[1].toNat/\s[1].toNat<=56 then((s[0].toNat-97+8*(s[1].toNat-49):Nat):Int)else -1):=qC (by
   unfold dJ uX;rw[dif_pos h2];by_cases h:97<=s[0].toNat/\s[0].toNat<=104/\49<=s[1].toNat/\s[1].toNat<=56
   ·rw[qI h,qI h]
   ·rw[qF h,qF h])
  have e1:=EX s[0];have e2:=EV s[1];obtain⟨x,hx⟩:∃x,Hid (Lib.indexByte (ByteArray.mk #[97,98,99,100,101,102,103,104]).data.toList s[0]=x):=⟨_,qC rfl⟩;obtain⟨y,hy⟩:∃x,Hid (Lib.indexByte (ByteArray.mk #[49,50,51,52,53,54,55,56]).data.toList s[1]=x):=⟨_,qC rfl⟩;rw[show ixf s[0]=x from qa hx]at e1;rw[show ixr s[1]=y from qa hy]at e2;have hb0:=s[0].toNat_lt;have hb1:=s[1].toNat_lt;generalize dJ s=V at hsq ⊢;by_cases c1:97<=s[0].toNat/\s[0].toNat<=104
  ·rw[qI c1]at e1;by_cases c2:49<=s[1].toNat/\s[1].toNat<=56
   ·rw[qI c2]at e2;have hV:Hid (V=8*y+x):=qC (by rw[qa hsq,qI ⟨c1.1,c1.2,c2.1,c2.2⟩,e1,e2];omega);have hx0:0<=x/\x<=7:=by omega
    have hy0:0<=y/\y<=7:=by omega
    clear e1 e2 c1 c2 hsq hb0 hb1;go_enter Tryz.func104,Tryz.ntmps104;go_wp2_with(go_at_call 111;refine(xa _ (by decide) _ _).mono ?_;rintro e w' ⟨rfl,rfl⟩;(first|rw[qa hx]|rw[qa hy]));go_ret;exact⟨xo (qa hV).symm,rfl⟩
   ·rw[qF c2]at e2;have hV:Hid (V=-1):=qC (by rw[qa hsq,qF (fun h=>c2 ⟨h.2.2.1,h.2.2.2⟩)]);have hx0:0<=x/\x<=7:=by omega
    subst e2;clear e1 c1 c2 hsq hb0 hb1;go_enter Tryz.func104,Tryz.ntmps104;go_wp2_with(go_at_call 111;refine(xa _ (by decide) _ _).mono ?_;rintro e w' ⟨rfl,rfl⟩;(first|rw[qa hx]|rw[qa hy]));go_ret;exact⟨xo (qa hV).symm,rfl⟩
  ·rw[qF c1]at e1;have hV:Hid (V=-1):=qC (by rw[qa hsq,qF (fun h=>c1 ⟨h.1,h.2.1⟩)]);subst e1;clear e2 c1 hsq hb0 hb1;go_enter Tryz.func104,Tryz.ntmps104;go_wp2_with(go_at_call 111;refine(xa _ (by decide) _ _).mono ?_;rintro e w' ⟨rfl,rfl⟩;(first|rw[qa hx]|rw[qa hy]));go_ret;exact⟨xo (qa hV).symm,rfl⟩
 ·have hsq:dJ s=-1:=by unfold dJ uX;rw[dif_neg h2]
  rw[hsq];go_enter Tryz.func104,Tryz.ntmps104;go_wp2;go_ret;exact⟨rfl,rfl⟩
theorem dX(s:ByteArray)(hs:s.size<=maxLen)(h:s.size<1\/5<s.size\/(1<s.size/\s.data.toList.head?=some 48))(w:World):Calls Tryz.prog 199 #[.string s,.int .i64 5,.int .i64 65535] w fun e w'=>e=.returned (.int .i64 (kV s.data.toList))/\w'=w:=by
 have hno:kV s.data.toList=-1:=by
  have:vR s.data.toList=none:=by
   unfold vR;rw[qF];rintro⟨g1,g2,g3,_⟩;simp only[Array.length_toList,ByteArray.size_data]at g1 g2 g3;rcases h with h|h|h
   ·omega
   ·omega
   ·exact g3 h.1 h.2
  unfold kV;rw[this]
 rw[hno];clear hno;unfold maxLen at hs;by_cases c1:s.size=0
 ·go_enter Tryz.func199,Tryz.ntmps199;go_wp2;go_ret;exact⟨rfl,rfl⟩
 ·by_cases c2:5<s.size
  ·go_enter Tryz.func199,Tryz.ntmps199;go_wp2;go_ret;exact⟨rfl,rfl⟩
  ·have c3:1<s.size:=by omega
   have c4:s[0]=48:=by
    rcases h with h|h|h
    ·omega
    ·omega
    ·have:=dt s (by omega);rw[h.2]at this;simpa using this.symm
   have c5:s[0].toNat=48:=by rw[c4];rfl
   clear h c4;go_enter Tryz.func199,Tryz.ntmps199;go_wp2;go_ret;exact⟨rfl,rfl⟩
theorem dW(s:ByteArray)(h1:1<=s.size)(h5:s.size<=5)(h0:s.size<=1\/s.data.toList.head?≠some 48)(w:World):Calls Tryz.prog 199 #[.string s,.int .i64 5,.int .i64 65535] w fun e w'=>e=.returned (.int .i64 (kV s.data.toList))/\w'=w:=by
 have hbad:Hid (∀k (h:k<s.size),dg s[k]=false->kV s.data.toList=-1):=by
  intro k h hd
  have:vR s.data.toList=none:=by
   unfold vR;rw[qF];rintro⟨_,_,_,g,_⟩;rw[iy s k h hd]at g;exact absurd g (by decide)
  unfold kV;rw[this]
 have hgood:Hid (s.data.toList.all dg=true->kV s.data.toList=if dv s.data.toList<=65535 then(dv s.data.toList:Int)else -1):=by
  intro hall
  have hz:1<=s.data.toList.length/\s.data.toList.length<=5/\(1<s.data.toList.length->s.data.toList.head?≠some 48):=by
   simp only[Array.length_toList,ByteArray.size_data];exact⟨h1,h5,fun h=>h0.resolve_left (by omega)⟩
  unfold kV vR;by_cases hd:dv s.data.toList<=65535
  ·rw[qI ⟨hz.1,hz.2.1,hz.2.2,hall,hd⟩,qI hd]
  ·rw[qF (fun g=>hd g.2.2.2.2),qF hd]
 have hz:s.size<=1\/((s[0].toNat:Int)==48)=false:=by
  rcases h0 with h0|h0
  ·exact Or.inl h0
  ·right;have:=dt s (by omega);rw[this]at h0;have:s[0]≠48:=fun e=>h0 (by rw[e])
   simp only[qM];intro e;exact this (q6.mp (by simp;omega))
 clear h0;generalize kV s.data.toList=V at hbad hgood ⊢;by_cases hz1:s.size<=1
 all_goals
  have hz2:1<s.size->((s[0].toNat:Int)==48)=false:=fun h=>hz.resolve_left (by omega)
  clear hz
  try have hz3:=hz2 (by omega)
  clear hz2;have hne0:((s.size:Int)==0)=false:=by rw[qM];omega
  have hne1:¬ s.size=0:=by omega
  have hne2:¬ s=ByteArray.empty:=fun e=>by rw[e]at h1;exact absurd h1 (by decide)
  go_enter Tryz.func199,Tryz.ntmps199;go_wp2;go_loopg [7,8] s.size (fun g n i wr=>∃k:Nat,k+g=s.size/\i=.int .i64 k/\n=.int .i64 (dv (s.data.toList.take k))/\(s.data.toList.take k).all dg=true/\wr=w)
  case atStart=>exact⟨0,by omega,rfl,rfl,rfl,rfl⟩
  case round =>
   obtain⟨k,k1,rfl,rfl,hall,rfl⟩:=hrel;have hb:=tP k (s.data.toList.take k) (by simp;omega) hall;have hall':=qC hall;clear hall;by_cases hlt:k<s.size
   ·have hb':10 ^ k<=10 ^ 4:=Nat.pow_le_pow_right (by omega) (by omega);have hbb:dv (s.data.toList.take k)<=9999:=by omega
    clear hb hb';have hts:=qC (xi s k hlt);generalize hd:dv (s.data.toList.take k)=d at hbb;have hd':=qC hd;clear hd;have e1:=EY s[k];obtain⟨x,hx⟩:∃x,Hid (Lib.indexByte (ByteArray.mk #[48,49,50,51,52,53,54,55,56,57]).data.toList s[k]=x):=⟨_,qC rfl⟩;rw[show ixd s[k]=x from qa hx]at e1;cases hdg:dg s[k]with
    | false =>
     rw[hdg,qF (by decide)]at e1;have hend:=qC (qa hbad k hlt hdg);subst e1;clear hdg;go_wp2_with(go_at_call 111;refine(xa _ (by decide) _ _).mono ?_;rintro e w' ⟨rfl,rfl⟩;rw[qa hx]);go_ret;exact⟨xo (qa hend).symm,rfl⟩
    | true =>
     rw[hdg,qI rfl]at e1;have hx9:48<=s[k].toNat/\s[k].toNat<=57:=by unfold dg at hdg;simpa using hdg
     have hx0:0<=x/\x<=9:=by omega
     have hnx:Hid (((10*d+(s[k].toNat-48):Nat):Int)=10*(d:Int)+x):=qC (by omega);have hdg':=qC hdg;clear hdg e1 hx9;go_wp2_with(go_at_call 111;refine(xa _ (by decide) _ _).mono ?_;rintro e w' ⟨rfl,rfl⟩;rw[qa hx]);go_roundg (gk-1)
     case measure=>omega
     case rel =>
      refine⟨k+1,by omega,by go_num,?_,?_,rfl⟩
      ·rw[qa hts,yz,qa hd',qa hnx]
      ·rw[qa hts,List.all_append,qa hall'];simp[qa hdg']
   ·have ek:k=s.size:=by omega
    subst ek;have hfull:s.data.toList.take s.size=s.data.toList:=List.take_of_length_le (by simp);rw[hfull]at hall' hb ⊢;clear hfull;have hend:=qC (qa hgood (qa hall'));clear hgood hall' hbad;generalize dv s.data.toList=d at hend hb ⊢;have hb5:d<100000:=by have:10 ^ s.size<=10 ^ 5:=Nat.pow_le_pow_right (by omega) (by omega);omega
    clear hb;by_cases h6:d<=65535
    ·rw[qI h6]at hend;go_wp2;go_ret;exact⟨xo (qa hend).symm,rfl⟩
    ·rw[qF h6]at hend;go_wp2;go_ret;exact⟨xo (qa hend).symm,rfl⟩
theorem qzj(s:ByteArray)(hs:s.size<=maxLen)(w:World):Calls Tryz.prog 199 #[.string s,.int .i64 5,.int .i64 65535] w fun e w'=>e=.returned (.int .i64 (kV s.data.toList))/\w'=w:=by
 by_cases h:s.size<1\/5<s.size\/(1<s.size/\s.data.toList.head?=some 48)
 ·exact dX s hs h w
 ·exact dW s (by omega) (by omega) (by
   by_cases g:s.size<=1
   ·exact Or.inl g
   ·exact Or.inr fun e=>h (Or.inr (Or.inr ⟨by omega,e⟩))) w
section
attribute [local go_sem] qd qe
theorem qxo(n:Nat)(h:n<64)(w:World):Calls Tryz.prog 110 #[.int .i64 n] w fun e w'=>e=.returned (.string ⟨(xQ n).toArray⟩)/\Gr w w':=by
 obtain⟨q,hq0⟩:∃q:Nat,n/8=q:=⟨_,rfl⟩;obtain⟨r,hr0⟩:∃q:Nat,n%8=q:=⟨_,rfl⟩;have hq:(n:Int).tdiv 8=(q:Int):=by rw[Int.tdiv_eq_ediv_of_nonneg (by omega)];omega
 have hr:(n:Int).tmod 8=(r:Int):=by rw[Int.tmod_eq_emod_of_nonneg (by omega)];omega
 have hq8:q<8:=by omega
 have hr8:r<8:=by omega
 have hwq:IntKind.i64.wrap ((q:Int)+1)=(q:Int)+1:=by rw[IntKind.wrap_i64];omega
 have hwr:IntKind.i64.wrap ((r:Int)+1)=(r:Int)+1:=by rw[IntKind.wrap_i64];omega
 have s1:∀W:World,(Instr.sliceAt 9 (.string ⟨#[97,98,99,100,101,102,103,104]⟩) (some (.int .i64 (r:Int))) (some (.int .i64 ((r:Int)+1))) none).run Tryz.prog W=.ok (.string ⟨#[UInt8.ofNat (97+r)]⟩) W:=fun W=>by
  have:r=0\/r=1\/r=2\/r=3\/r=4\/r=5\/r=6\/r=7:=by omega
  rcases this with rfl|rfl|rfl|rfl|rfl|rfl|rfl|rfl<;>rfl
 have s2:∀W:World,(Instr.sliceAt 9 (.string ⟨#[49,50,51,52,53,54,55,56]⟩) (some (.int .i64 (q:Int))) (some (.int .i64 ((q:Int)+1))) none).run Tryz.prog W=.ok (.string ⟨#[UInt8.ofNat (49+q)]⟩) W:=fun W=>by
  have:q=0\/q=1\/q=2\/q=3\/q=4\/q=5\/q=6\/q=7:=by omega
  rcases this with rfl|rfl|rfl|rfl|rfl|rfl|rfl|rfl<;>rfl
 go_enter Tryz.func110,Tryz.ntmps110;go_wp2;go_quiet(fail);go_wp2;go_ret;refine⟨?_,(Gr.refl w).drewN _⟩;have hn:xQ n=[UInt8.ofNat (97+r),UInt8.ofNat (49+q)]:=by unfold xQ;rw[hq0,hr0]
 rw[hn];have hr':r=0\/r=1\/r=2\/r=3\/r=4\/r=5\/r=6\/r=7:=by omega
 have hq':q=0\/q=1\/q=2\/q=3\/q=4\/q=5\/q=6\/q=7:=by omega
 have e:((⟨#[97+UInt8.ofNat r]⟩:ByteArray)++⟨#[49+UInt8.ofNat q]⟩)=⟨[UInt8.ofNat (97+r),UInt8.ofNat (49+q)].toArray⟩:=by
  rcases hr' with rfl|rfl|rfl|rfl|rfl|rfl|rfl|rfl<;>rcases hq' with rfl|rfl|rfl|rfl|rfl|rfl|rfl|rfl<;>decide
 show Ending.returned (.string ((⟨#[97+UInt8.ofNat r]⟩:ByteArray)++⟨#[49+UInt8.ofNat q]⟩))=_;rw[e]
end
section
attribute [local go_sem] qd qe
theorem CW{z:Nat->UInt8}{wh:Bool}{f:Nat->Bool}{b h g:Int}{PA:Array Value}(r:jE z wh f b h g PA)(w:World):Calls Tryz.prog 114 #[.agg PA] w fun e w'=>e=.returned (.bool (k6 z wh f b h g))/\Gr w w':=by
 rw[<-aY];exact tz r w
end
end Go.Proofs.YtnfakamfmkhlbabGreatDoor.C
