import Derived.WalkKit
import Derived.ProofKit
import Derived.Below
import Derived.Laws.Bits64
import Derived.Test.YtnfakamfmkhlbabGreatDoorProg
import Derived.OpenShut
import Derived.Outline
import Derived.WalkLawsBesides
import Derived.Lib.TrailingZeros
import Derived.Laws.Bits128
set_option maxRecDepth 100000
set_option maxHeartbeats 4000000
set_option linter.unusedSimpArgs false
namespace Go.Proofs.YtnfakamfmkhlbabGreatDoor
theorem qB:type_of% @Array.getElem?_eq_some_iff:=@Array.getElem?_eq_some_iff
theorem qE:type_of% @decide_eq_false:=@decide_eq_false
theorem qF:type_of% @if_neg:=@if_neg
theorem qI:type_of% @if_pos:=@if_pos
theorem qG:type_of% @decide_eq_true_eq:=@decide_eq_true_eq
theorem qH:type_of% @Bool.and_eq_true:=@Bool.and_eq_true
theorem qJ:type_of% @decide_eq_true:=@decide_eq_true
theorem qK:type_of% @List.mem_range:=@List.mem_range
theorem qL:type_of% @Nat.le_refl:=@Nat.le_refl
theorem qN:type_of% @Nat.lt_of_lt_of_le:=@Nat.lt_of_lt_of_le
theorem qM:type_of% @beq_eq_false_iff_ne:=@beq_eq_false_iff_ne
theorem qO:type_of% @Array.getElem?_toList:=@Array.getElem?_toList
theorem qP:type_of% @Option.some.inj:=@Option.some.inj
theorem qQ:type_of% @Array.getElem?_eq_getElem:=@Array.getElem?_eq_getElem
theorem qR:type_of% @Bool.false_eq_true:=@Bool.false_eq_true
theorem qS:type_of% @List.append_assoc:=@List.append_assoc
theorem qT:type_of% @List.mem_singleton:=@List.mem_singleton
theorem qU:type_of% @bne_iff_ne:=@bne_iff_ne
theorem qV:type_of% @List.mem_filter:=@List.mem_filter
theorem qW:type_of% @List.all_eq_true:=@List.all_eq_true
theorem qX:type_of% @decide_eq_false_iff_not:=@decide_eq_false_iff_not
theorem qY:type_of% @List.any_eq_true:=@List.any_eq_true
theorem qZ:type_of% @List.length_append:=@List.length_append
theorem q7:type_of% @Nat.le_trans:=@Nat.le_trans
theorem q8:type_of% @of_decide_eq_true:=@of_decide_eq_true
theorem q6:type_of% @UInt8.toNat_inj:=@UInt8.toNat_inj
end Go.Proofs.YtnfakamfmkhlbabGreatDoor
namespace Go.Proofs.YtnfakamfmkhlbabGreatDoor.C
open Go.RowKit
theorem xo{k:IntKind}{a b:Int}(h:a=b):Ending.returned (.int k a)=.returned (.int k b):=by rw[h]
def Gr(w w':World):Prop:=Below w.heap.size w w'
theorem Gr.refl(w:World):Gr w w:=Below.refl _ _
theorem Gr.trans{a b c:World}(h:Gr a b)(k:Gr b c):Gr a c:=Below.trans h (Below.mono k (Below.size h))
theorem Gr.alloc{a b:World}(h:Gr a b)(c:Array Value)(t:TypeId):Gr a (b.alloc (.cells c t)):=Below.alloc h (Below.size h) _
theorem Gr.drew{a b:World}(h:Gr a b):Gr a b.drew:=Below.drew h
theorem Gr.below{a b:World}(h:Gr a b):Below a.heap.size a b:=h
theorem qC{p:Prop}(h:p):Hid p:=h
theorem qa{p:Prop}(h:Hid p):p:=h
end Go.Proofs.YtnfakamfmkhlbabGreatDoor.C
namespace Go.Proofs.YtnfakamfmkhlbabGreatDoor.P
def v6(x:Int):Int:=IntKind.u64.wrap (2 ^ x.toNat)
def uR(x:Int):Int:=bits .andNot .u64 (x/2) 9259542123273814144
def uN(x:Int):Int:=bits .andNot .u64 (IntKind.u64.wrap (x*2)) 72340172838076673
def yE(x r:Int):Int:=if r<0 then x/2 ^ (-8*r).toNat else IntKind.u64.wrap (x*2 ^ (8*r).toNat)
def rv1(x:Int):Int:=bits .or .u64 (bits .and .u64 (x/2) 6148914691236517205) (IntKind.u64.wrap (bits .and .u64 x 6148914691236517205*2))
def rv2(x:Int):Int:=bits .or .u64 (bits .and .u64 (x/4) 3689348814741910323) (IntKind.u64.wrap (bits .and .u64 x 3689348814741910323*4))
def rv4(x:Int):Int:=bits .or .u64 (bits .and .u64 (x/16) 1085102592571150095) (IntKind.u64.wrap (bits .and .u64 x 1085102592571150095*16))
def rv8(x:Int):Int:=bits .or .u64 (bits .and .u64 (x/256) 71777214294589695) (IntKind.u64.wrap (bits .and .u64 x 71777214294589695*256))
def Dg(x:Int):Int:=bits .or .u64 (bits .and .u64 (x/65536) 281470681808895) (IntKind.u64.wrap (bits .and .u64 x 281470681808895*65536))
def Df(x:Int):Int:=bits .or .u64 (x/4294967296) (IntKind.u64.wrap (x*4294967296))
def eT(x:Int):Int:=Df (Dg (rv8 (rv4 (rv2 (rv1 x)))))
def pT(a b:Int):Int:=bits .or .u64 a b
def EG(l x t:Int):Int:=bits .and .u64 (bits .andNot .u64 l (v6 x)) t
def yr(l x t:Int):Int:=bits .and .u64 (bits .xor .u64 (IntKind.u64.wrap (EG l x t-v6 x)) (eT (IntKind.u64.wrap (eT (EG l x t)-eT (v6 x))))) (bits .andNot .u64 l (v6 x))
def uZ(x:Int):Int:=pT (pT (pT (yE (pT (uR x) (uN x)) 2) (yE (pT (uR x) (uN x)) (-2))) (yE (pT (uR (uR x)) (uN (uN x))) 1)) (yE (pT (uR (uR x)) (uN (uN x))) (-1))
def Di(x:Int):Int:=pT (pT (uR x) x) (uN x)
def lG(x:Int):Int:=bits .andNot .u64 (pT (pT (yE (Di x) 1) (Di x)) (yE (Di x) (-1))) x
def DK(x:Int):Int:=IntKind.u64.wrap (72340172838076673*2 ^ (x%8).toNat)
def C7(x:Int):Int:=yE 255 (x/8)
def Fj(x:Int):Int:=yE 9241421688590303745 (x/8-x%8)
def G7(x:Int):Int:=yE 72624976668147840 (x/8+x%8-7)
def kA(x t:Int):Int:=pT (yr (DK x) x t) (yr (C7 x) x t)
def uC(x t:Int):Int:=pT (yr (Fj x) x t) (yr (G7 x) x t)
def yL(k x t:Int):Int :=
 if k=1 then yE (pT (uR (v6 x)) (uN (v6 x))) 1
 else if k=2 then yE (pT (uR (v6 x)) (uN (v6 x))) (-1)
 else if k=3 then uZ (v6 x)
 else if k=4 then uC x t
 else if k=5 then kA x t
 else if k=6 then pT (uC x t) (kA x t)
 else if k=7 then lG (v6 x)
 else 0
def U(b:BitVec 64):Int:=(b.toNat:Int)
theorem aq(b:BitVec 64):0<=U b:=Int.natCast_nonneg _
theorem HE(b:BitVec 64):U b<18446744073709551616:=by
 unfold U;have:=b.isLt;omega
theorem pE{a b:BitVec 64}(h:U a=U b):a=b:=by
 apply BitVec.eq_of_toNat_eq;unfold U at h;omega
theorem U_of(x:Int)(h0:0<=x)(h1:x<18446744073709551616):U (BitVec.ofInt 64 x)=x:=by
 unfold U;rw[BitVec.toNat_ofInt];have:x%((2 ^ 64:Nat):Int)=x:=Int.emod_eq_of_lt h0 (by simpa using h1);rw[this];omega
theorem jh(b:BitVec 64):BitVec.ofInt 64 (U b)=b:=by
 apply pE;exact U_of _ (aq b) (HE b)
theorem gv(b:BitVec 64):IntKind.u64.wrap (U b)=U b:=by
 rw[IntKind.wrap_u64];exact Int.emod_eq_of_lt (aq b) (HE b)
theorem im(a b:BitVec 64):bits .and .u64 (U a) (U b)=U (a &&& b):=by
 show IntKind.u64.wrap ((BitVec.ofInt 64 (U a) &&& BitVec.ofInt 64 (U b)).toNat:Int)=_;rw[jh,jh];exact gv _
theorem uQ(a b:BitVec 64):bits .or .u64 (U a) (U b)=U (a ||| b):=by
 show IntKind.u64.wrap ((BitVec.ofInt 64 (U a) ||| BitVec.ofInt 64 (U b)).toNat:Int)=_;rw[jh,jh];exact gv _
theorem oF(a b:BitVec 64):bits .xor .u64 (U a) (U b)=U (a ^^^ b):=by
 show IntKind.u64.wrap ((BitVec.ofInt 64 (U a) ^^^ BitVec.ofInt 64 (U b)).toNat:Int)=_;rw[jh,jh];exact gv _
theorem qk1(a b:BitVec 64):bits .andNot .u64 (U a) (U b)=U (a &&& ~~~b):=by
 show IntKind.u64.wrap ((BitVec.ofInt 64 (U a) &&& ~~~BitVec.ofInt 64 (U b)).toNat:Int)=_;rw[jh,jh];exact gv _
theorem bJ(a b:BitVec 64):IntKind.u64.wrap (U a-U b)=U (a-b):=by
 rw[IntKind.wrap_u64];unfold U;rw[BitVec.toNat_sub];have:=b.isLt;omega
theorem rE(a:BitVec 64)(k:Nat):U a/((2 ^ k:Nat):Int)=U (a >>> k):=by
 unfold U;rw[BitVec.toNat_ushiftRight,Nat.shiftRight_eq_div_pow];exact(Int.natCast_ediv _ _).symm
theorem ib(a:BitVec 64)(k:Nat):IntKind.u64.wrap (U a*((2 ^ k:Nat):Int))=U (a <<< k):=by
 rw[IntKind.wrap_u64];unfold U;rw[BitVec.toNat_shiftLeft,Nat.shiftLeft_eq];omega
def yK(m:BitVec 64)(k:Nat)(x:BitVec 64):BitVec 64:=(x >>> k &&& m) ||| ((x &&& m) <<< k)
def pV(k i:Nat):Nat:=if i/k%2=0 then i+k else i-k
theorem zz(m:BitVec 64)(k:Nat)(hk:k=1\/k=2\/k=4\/k=8\/k=16\/k=32)(hm:∀i,i<64->m.getLsbD i=decide (i/k%2=0))(x:BitVec 64)(i:Nat)(hi:i<64) :
  (yK m k x).getLsbD i=x.getLsbD (pV k i):=by
 have h1:=hm i hi;have h2:=hm (i-k) (by omega);have h3:i/k%2=0->i<k\/(i-k)/k%2≠0:=by rcases hk with rfl|rfl|rfl|rfl|rfl|rfl<;>omega
 have h4:i/k%2≠0->¬ i<k/\(i-k)/k%2=0:=by rcases hk with rfl|rfl|rfl|rfl|rfl|rfl<;>omega
 unfold yK pV;simp only[BitVec.getLsbD_or,BitVec.getLsbD_and,BitVec.getLsbD_ushiftRight,BitVec.getLsbD_shiftLeft,h1,h2];by_cases e:i/k%2=0
 ·rw[qI e];rcases h3 e with g|g
  ·simp[e,g,Nat.add_comm]
  ·simp[e,g,Nat.add_comm]
 ·rw[qF e];obtain⟨g1,g2⟩:=h4 e;simp[e,g1,g2,hi]
theorem rG(c:Int)(m:BitVec 64)(hc:c=U m)(k:Nat)(p:Int)(hp:p=((2 ^ k:Nat):Int))(x:BitVec 64) :
  bits .or .u64 (bits .and .u64 (U x/p) c) (IntKind.u64.wrap (bits .and .u64 (U x) c*p))=U (yK m k x):=by
 rw[hc,hp,rE,im,im,ib,uQ];rfl
def pS(x:BitVec 64):BitVec 64:=yK 4294967295#64 32 (yK 281470681808895#64 16 (yK 71777214294589695#64 8 (yK 1085102592571150095#64 4 (yK 3689348814741910323#64 2 (yK 6148914691236517205#64 1 x)))))
theorem mD(x:BitVec 64):(x >>> 32) ||| (x <<< 32)=yK 4294967295#64 32 x:=by
 apply BitVec.eq_of_getLsbD_eq;intro i hi;have hm:∀i,i<64->(4294967295#64).getLsbD i=decide (i/32%2=0):=by decide +kernel
 unfold yK;have h1:=hm i hi;have h2:=hm (i-32) (by omega);simp only[BitVec.getLsbD_or,BitVec.getLsbD_and,BitVec.getLsbD_ushiftRight,BitVec.getLsbD_shiftLeft,h1,h2];by_cases e:i<32
 ·have:i/32%2=0:=by omega
  simp[e,this]
 ·have e1:i/32%2=1:=by omega
  have e2:(i-32)/32%2=0:=by omega
  simp[e,e1,e2,BitVec.getLsbD_of_ge x (32+i) (by omega)]
theorem rR(x:BitVec 64):eT (U x)=U (pS x):=by
 unfold eT pS rv1 rv2 rv4 rv8 Dg Df;rw[rG 6148914691236517205 6148914691236517205#64 (by decide +kernel) 1 2 (by decide)];rw[rG 3689348814741910323 3689348814741910323#64 (by decide +kernel) 2 4 (by decide)];rw[rG 1085102592571150095 1085102592571150095#64 (by decide +kernel) 4 16 (by decide)];rw[rG 71777214294589695 71777214294589695#64 (by decide +kernel) 8 256 (by decide)];rw[rG 281470681808895 281470681808895#64 (by decide +kernel) 16 65536 (by decide)];rw[show(4294967296:Int)=((2 ^ 32:Nat):Int)from by decide,rE,ib,uQ,mD]
theorem G5:∀i,i<64->pV 1 (pV 2 (pV 4 (pV 8 (pV 16 (pV 32 i)))))=63-i:=by decide +kernel
theorem Fk(k i:Nat)(hk:k=1\/k=2\/k=4\/k=8\/k=16\/k=32)(hi:i<64):pV k i<64:=by
 unfold pV;rcases hk with rfl|rfl|rfl|rfl|rfl|rfl<;>split<;>omega
theorem qju(x:BitVec 64)(i:Nat)(hi:i<64):(pS x).getLsbD i=x.getLsbD (63-i):=by
 rw[<-G5 i hi];have a5:=Fk 32 i (by omega) hi;have a4:=Fk 16 _ (by omega) a5;have a3:=Fk 8 _ (by omega) a4;have a2:=Fk 4 _ (by omega) a3;have a1:=Fk 2 _ (by omega) a2;unfold pS
 rw[zz _ 32 (by omega) (by decide +kernel) _ _ hi,zz _ 16 (by omega) (by decide +kernel) _ _ a5,zz _ 8 (by omega) (by decide +kernel) _ _ a4,
  zz _ 4 (by omega) (by decide +kernel) _ _ a3,zz _ 2 (by omega) (by decide +kernel) _ _ a2,zz _ 1 (by omega) (by decide +kernel) _ _ a1]
theorem qzl:∀x,x<64->∀j,j<64->(-(1#64 <<< x)).getLsbD j=decide (x<=j):=by decide +kernel
theorem qx6(m:BitVec 64)(x:Nat)(hx:x<64):∀i,i<=64->(BitVec.carry i m (-(1#64 <<< x)) false=true↔∃z,x<=z/\z<i/\m.getLsbD z=true)
 | 0,_=>by
   simp[BitVec.carry_zero]
 | i+1,hi=>by
   have ih:=qx6 m x hx i (by omega);rw[BitVec.carry_succ,qzl x hx i (by omega)];by_cases g:x<=i
   ·simp only[g,decide_true,Bool.atLeastTwo_true_mid,Bool.or_eq_true,ih];constructor
    ·rintro(h|⟨z,h1,h2,h3⟩)
     ·exact⟨i,g,by omega,h⟩
     ·exact⟨z,h1,by omega,h3⟩
    ·rintro⟨z,h1,h2,h3⟩;by_cases e:z=i
     ·subst e;exact Or.inl h3
     ·exact Or.inr ⟨z,h1,by omega,h3⟩
   ·have:BitVec.carry i m (-(1#64 <<< x)) false=false:=by
     cases hc:BitVec.carry i m (-(1#64 <<< x)) false with
     | false=>rfl
     | true=>obtain⟨z,h1,h2,h3⟩:=ih.mp hc;omega
    simp only[g,decide_false,this,Bool.atLeastTwo_false_mid,Bool.and_false,qR,false_iff,not_exists];rintro z ⟨h1,h2,h3⟩;omega
theorem dE(m:BitVec 64)(x:Nat)(hx:x<64)(j:Nat)(hj:j<64) :
  (m-1#64 <<< x).getLsbD j=(m.getLsbD j ^^ (decide (x<=j) ^^ BitVec.carry j m (-(1#64 <<< x)) false)):=by
 rw[BitVec.sub_eq_add_neg,BitVec.getLsbD_add hj,qzl x hx j hj]
def vt(l:BitVec 64)(x:Nat)(t:BitVec 64):BitVec 64 :=
 (((l &&& ~~~(1#64 <<< x)) &&& t)-1#64 <<< x ^^^ pS (pS ((l &&& ~~~(1#64 <<< x)) &&& t)-pS (1#64 <<< x))) &&& (l &&& ~~~(1#64 <<< x))
theorem rp:∀x,x<64->v6 ((x:Nat):Int)=U (1#64 <<< x):=by decide +kernel
theorem Au:∀x,x<64->pS (1#64 <<< x)=1#64 <<< (63-x):=by decide +kernel
theorem ze:∀x,x<64->∀j,j<64->(1#64 <<< x).getLsbD j=decide (j=x):=by decide +kernel
theorem qk2(l:BitVec 64)(x:Nat)(hx:x<64)(t:BitVec 64):yr (U l) (x:Int) (U t)=U (vt l x t):=by
 unfold yr EG;rw[rp x hx,qk1,im,bJ,rR,rR,bJ,rR,oF,im];rfl
theorem qz0(l:BitVec 64)(x:Nat)(hx:x<64)(t:BitVec 64)(y:Nat)(hy:y<64) :
  (vt l x t).getLsbD y=true↔l.getLsbD y=true/\y≠x/\∀z,(x<z/\z<y\/y<z/\z<x)->l.getLsbD z=true->t.getLsbD z=false:=by
 have men:∀z,z<64->((l &&& ~~~(1#64 <<< x)) &&& t).getLsbD z=(l.getLsbD z&&!decide (z=x)&&t.getLsbD z):=by
  intro z hz;simp only[BitVec.getLsbD_and,BitVec.getLsbD_not,ze x hx z hz,hz,decide_true,Bool.true_and]
 unfold vt;rw[BitVec.getLsbD_and,BitVec.getLsbD_xor,qju _ y hy,Au x hx,dE _ x hx y hy,dE _ (63-x) (by omega) (63-y) (by omega),qju _ (63-y) (by omega)];rw[show 63-(63-y)=y from by omega];have c1:=qx6 ((l &&& ~~~(1#64 <<< x)) &&& t) x hx y (by omega);have c2:=qx6 (pS ((l &&& ~~~(1#64 <<< x)) &&& t)) (63-x) (by omega) (63-y) (by omega);generalize BitVec.carry y ((l &&& ~~~(1#64 <<< x)) &&& t) (-(1#64 <<< x)) false=b1 at c1 ⊢;generalize BitVec.carry (63-y) (pS ((l &&& ~~~(1#64 <<< x)) &&& t)) (-(1#64 <<< (63-x))) false=b2 at c2 ⊢
 have c1':b1=true↔∃z,x<z/\z<y/\l.getLsbD z=true/\t.getLsbD z=true:=by
  rw[c1];constructor
  ·rintro⟨z,h1,h2,h3⟩;rw[men z (by omega)]at h3;simp only[qH,Bool.not_eq_true',qX]at h3;exact⟨z,by omega,h2,h3.1.1,h3.2⟩
  ·rintro⟨z,h1,h2,h3,h4⟩;refine⟨z,by omega,h2,?_⟩;rw[men z (by omega),h3,h4];simp;omega
 have c2':b2=true↔∃z,y<z/\z<x/\l.getLsbD z=true/\t.getLsbD z=true:=by
  rw[c2];constructor
  ·rintro⟨z,h1,h2,h3⟩;rw[qju _ z (by omega),men (63-z) (by omega)]at h3;simp only[qH,Bool.not_eq_true',qX]at h3;exact⟨63-z,by omega,by omega,h3.1.1,h3.2⟩
  ·rintro⟨z,h1,h2,h3,h4⟩;refine⟨63-z,by omega,by omega,?_⟩;rw[qju _ (63-z) (by omega),show 63-(63-z)=z from by omega,men z (by omega),h3,h4];simp;omega
 simp only[BitVec.getLsbD_and,BitVec.getLsbD_not,ze x hx y hy,hy,decide_true,Bool.true_and];rcases Nat.lt_trichotomy x y with h|h|h
 ·have e1:decide (x<=y)=true:=by simp;omega
  have e2:decide (63-x<=63-y)=false:=by simp;omega
  have e3:decide (y=x)=false:=by simp;omega
  have e4:b2=false:=by
   cases hb:b2 with
   | false=>rfl
   | true=>obtain⟨z,h1,h2,_⟩:=c2'.mp hb;omega
  rw[e1,e2,e3,e4];cases hb:b1 with
  | true =>
   obtain⟨z,h1,h2,h3,h4⟩:=c1'.mp hb;simp only[Bool.xor_false,qR,Bool.xor_self,Bool.false_and,false_iff];rintro⟨_,_,g⟩;have:=g z (Or.inl ⟨h1,h2⟩) h3;simp[h4]at this
  | false =>
   have:¬ ∃z,x<z/\z<y/\l.getLsbD z=true/\t.getLsbD z=true:=fun g=>by simp[c1'.mpr g]at hb
   simp only[Bool.not_false,Bool.and_true];constructor
   ·intro g;refine⟨by simp at g;exact g.2,by omega,?_⟩;intro z hz hl;cases ht:t.getLsbD z with
    | false=>rfl
    | true=>exact absurd ⟨z,by omega,by omega,hl,ht⟩ this
   ·rintro⟨g,_,_⟩;rw[g];cases ((l &&& ~~~(1#64 <<< x)) &&& t).getLsbD y<;>simp
 ·subst h;have e3:decide (x=x)=true:=by simp
  rw[e3];simp
 ·have e1:decide (x<=y)=false:=by simp;omega
  have e2:decide (63-x<=63-y)=true:=by simp;omega
  have e3:decide (y=x)=false:=by simp;omega
  have e4:b1=false:=by
   cases hb:b1 with
   | false=>rfl
   | true=>obtain⟨z,h1,h2,_⟩:=c1'.mp hb;omega
  rw[e1,e2,e3,e4];cases hb:b2 with
  | true =>
   obtain⟨z,h1,h2,h3,h4⟩:=c2'.mp hb;simp only[Bool.xor_false,qR,Bool.xor_self,Bool.false_and,false_iff];rintro⟨_,_,g⟩;have:=g z (Or.inr ⟨h1,h2⟩) h3;simp[h4]at this
  | false =>
   have:¬ ∃z,y<z/\z<x/\l.getLsbD z=true/\t.getLsbD z=true:=fun g=>by simp[c2'.mpr g]at hb
   simp only[Bool.not_false,Bool.and_true];constructor
   ·intro g;refine⟨by simp at g;exact g.2,by omega,?_⟩;intro z hz hl;cases ht:t.getLsbD z with
    | false=>rfl
    | true=>exact absurd ⟨z,by omega,by omega,hl,ht⟩ this
   ·rintro⟨g,_,_⟩;rw[g];cases ((l &&& ~~~(1#64 <<< x)) &&& t).getLsbD y<;>simp
end Go.Proofs.YtnfakamfmkhlbabGreatDoor.P
namespace Go.Proofs.YtnfakamfmkhlbabGreatDoor.C
open Go.ChangeShapes Go.WideShapes Go.ChangeAt Go.RowKit Go.Proofs.YtnfakamfmkhlbabGreatDoor.P
theorem A9(x:Int)(h0:0<=x)(h1:x<=63)(w:World):Calls Tryz.prog 204 #[.int .i64 x] w fun e w'=>e=.returned (.int .u64 (v6 x))/\w'=w:=by
 go_enter Tryz.func204,Tryz.ntmps204;go_wp2;go_ret;exact⟨rfl,rfl⟩
theorem qkl(x:Int)(w:World):Calls Tryz.prog 251 #[.int .u64 x] w fun e w'=>e=.returned (.int .u64 (uR x))/\w'=w:=by
 go_enter Tryz.func251,Tryz.ntmps251;go_wp2;go_ret;exact⟨rfl,rfl⟩
theorem qj9(x:Int)(w:World):Calls Tryz.prog 252 #[.int .u64 x] w fun e w'=>e=.returned (.int .u64 (uN x))/\w'=w:=by
 go_enter Tryz.func252,Tryz.ntmps252;go_wp2;go_ret;exact⟨rfl,rfl⟩
theorem Dw(x r:Int)(w:World)(h0:-7<=r)(h1:r<=7):Calls Tryz.prog 253 #[.int .u64 x,.int .i64 r] w fun e w'=>e=.returned (.int .u64 (yE x r))/\w'=w:=by
 by_cases h:r<0
 ·go_enter Tryz.func253,Tryz.ntmps253;go_wp2;go_ret;exact⟨xo (by unfold yE;rw[qI h]),rfl⟩
 ·have h2:0<=r:=by omega
  have h3:=h;go_enter Tryz.func253,Tryz.ntmps253;go_wp2;go_ret;exact⟨xo (by unfold yE;rw[qF (by omega)]),rfl⟩
theorem rP(x:Int)(w:World):Calls Tryz.prog 372 #[.int .u64 x] w fun e w'=>e=.returned (.int .u64 (Df (Dg (rv8 x))))/\w'=w:=by
 go_enter Tryz.func372,Tryz.ntmps372;go_wp2;go_ret;exact⟨rfl,rfl⟩
theorem Av(x:Int)(w:World):Calls Tryz.prog 365 #[.int .u64 x] w fun e w'=>e=.returned (.int .u64 (eT x))/\w'=w:=by
 go_enter Tryz.func365,Tryz.ntmps365;go_wp2_with(go_at_call 372;refine(rP _ _).mono ?_;rintro e w' ⟨rfl,rfl⟩);go_ret;exact⟨rfl,rfl⟩
theorem eJ(x:Int)(w:World):Calls Tryz.prog 346 #[.int .u64 x] w fun e w'=>e=.returned (.int .u64 (eT x))/\w'=w:=by
 go_enter Tryz.func346,Tryz.ntmps346;go_wp2_with(go_at_call 365;refine(Av _ _).mono ?_;rintro e w' ⟨rfl,rfl⟩);go_ret;exact⟨rfl,rfl⟩
theorem gp(l x t:Int)(h0:0<=x)(h1:x<=63)(w:World):Calls Tryz.prog 307 #[.int .u64 l,.int .i64 x,.int .u64 t] w fun e w'=>e=.returned (.int .u64 (yr l x t))/\w'=w:=by
 go_enter Tryz.func307,Tryz.ntmps307;go_wp2_with(first|(go_at_call 204;refine(A9 _ h0 h1 _).mono ?_;rintro e w' ⟨rfl,rfl⟩)|(go_at_call 346;refine(eJ _ _).mono ?_;rintro e w' ⟨rfl,rfl⟩));go_ret;exact⟨rfl,rfl⟩
theorem fG(x:Int)(w:World):Calls Tryz.prog 254 #[.int .u64 x] w fun e w'=>e=.returned (.int .u64 (uZ x))/\w'=w:=by
 go_enter Tryz.func254,Tryz.ntmps254;go_wp2_with(first|(go_at_call 251;refine(qkl _ _).mono ?_;rintro e w' ⟨rfl,rfl⟩)|(go_at_call 252;refine(qj9 _ _).mono ?_;rintro e w' ⟨rfl,rfl⟩)|(go_at_call 253;refine(Dw _ _ _ (by decide) (by decide)).mono ?_;rintro e w' ⟨rfl,rfl⟩));go_ret;exact⟨rfl,rfl⟩
theorem sl(x:Int)(w:World):Calls Tryz.prog 257 #[.int .u64 x] w fun e w'=>e=.returned (.int .u64 (lG x))/\w'=w:=by
 go_enter Tryz.func257,Tryz.ntmps257;go_wp2_with(first|(go_at_call 251;refine(qkl _ _).mono ?_;rintro e w' ⟨rfl,rfl⟩)|(go_at_call 252;refine(qj9 _ _).mono ?_;rintro e w' ⟨rfl,rfl⟩)|(go_at_call 253;refine(Dw _ _ _ (by decide) (by decide)).mono ?_;rintro e w' ⟨rfl,rfl⟩));go_ret;exact⟨rfl,rfl⟩
theorem dF(x t:Int)(h0:0<=x)(h1:x<=63)(w:World):Calls Tryz.prog 256 #[.int .i64 x,.int .u64 t] w fun e w'=>e=.returned (.int .u64 (kA x t))/\w'=w:=by
 go_enter Tryz.func256,Tryz.ntmps256;go_wp2_with(first|(go_at_call 307;refine(gp _ _ _ h0 h1 _).mono ?_;rintro e w' ⟨rfl,rfl⟩)|(go_at_call 253;refine(Dw _ _ _ (by omega) (by omega)).mono ?_;rintro e w' ⟨rfl,rfl⟩));go_ret;exact⟨rfl,rfl⟩
theorem l9(x t:Int)(h0:0<=x)(h1:x<=63)(w:World):Calls Tryz.prog 255 #[.int .i64 x,.int .u64 t] w fun e w'=>e=.returned (.int .u64 (uC x t))/\w'=w:=by
 go_enter Tryz.func255,Tryz.ntmps255;go_wp2_with(first|(go_at_call 307;refine(gp _ _ _ h0 h1 _).mono ?_;rintro e w' ⟨rfl,rfl⟩)|(go_at_call 253;refine(Dw _ _ _ (by omega) (by omega)).mono ?_;rintro e w' ⟨rfl,rfl⟩));go_ret;exact⟨rfl,rfl⟩
theorem qjg(k x t:Int)(k0:1<=k)(k1:k<=7)(h0:0<=x)(h1:x<=63)(w:World):Calls Tryz.prog 206 #[.int .i64 k,.int .i64 x,.int .u64 t] w fun e w'=>e=.returned (.int .u64 (yL k x t))/\w'=w:=by
 have hk:k=1\/k=2\/k=3\/k=4\/k=5\/k=6\/k=7:=by omega
 rcases hk with rfl|rfl|rfl|rfl|rfl|rfl|rfl
 all_goals
  go_enter Tryz.func206,Tryz.ntmps206;go_wp2_with(first|(go_at_call 204;refine(A9 _ h0 h1 _).mono ?_;rintro e w' ⟨rfl,rfl⟩)|(go_at_call 251;refine(qkl _ _).mono ?_;rintro e w' ⟨rfl,rfl⟩)|(go_at_call 252;refine(qj9 _ _).mono ?_;rintro e w' ⟨rfl,rfl⟩)|(go_at_call 253;refine(Dw _ _ _ (by decide) (by decide)).mono ?_;rintro e w' ⟨rfl,rfl⟩)|(go_at_call 254;refine(fG _ _).mono ?_;rintro e w' ⟨rfl,rfl⟩)|(go_at_call 257;refine(sl _ _).mono ?_;rintro e w' ⟨rfl,rfl⟩)|(go_at_call 256;refine(dF _ _ h0 h1 _).mono ?_;rintro e w' ⟨rfl,rfl⟩)|(go_at_call 255;refine(l9 _ _ h0 h1 _).mono ?_;rintro e w' ⟨rfl,rfl⟩));go_ret;exact⟨rfl,rfl⟩
end Go.Proofs.YtnfakamfmkhlbabGreatDoor.C
namespace Go.Proofs.YtnfakamfmkhlbabGreatDoor.P
open Go.RowKit
def vD(s:BitVec 64):List Nat:=(List.range 64).filter (fun i=>s.getLsbD i)
theorem Dt(s:BitVec 64)(i:Nat):i∈vD s↔i<64/\s.getLsbD i=true:=by
 unfold vD;rw[qV,qK]
theorem qji(s:BitVec 64)(h:s≠0#64):∃t,t<64/\s.getLsbD t=true/\∀j,j<t->s.getLsbD j=false:=by
 have h1:∃t,s.getLsbD t=true:=by
  refine Classical.byContradiction fun hn=>h ?_
  apply BitVec.eq_of_getLsbD_eq;intro i hi;rw[BitVec.getLsbD_zero];cases e:s.getLsbD i with
  | false=>rfl
  | true=>exact absurd ⟨i,e⟩ hn
 have:∀n t,t<=n->s.getLsbD t=true->∃u,s.getLsbD u=true/\∀j,j<u->s.getLsbD j=false:=by
  intro n;induction n with
  | zero=>intro t ht e;exact⟨t,e,fun j hj=>by omega⟩
  | succ n ih =>
   intro t ht e;by_cases hx:∃j,j<t/\s.getLsbD j=true
   ·obtain⟨j,hj,ej⟩:=hx;exact ih j (by omega) ej
   ·refine⟨t,e,fun j hj=>?_⟩;cases e':s.getLsbD j with
    | false=>rfl
    | true=>exact absurd ⟨j,hj,e'⟩ hx
 obtain⟨t,e⟩:=h1;obtain⟨u,e1,e2⟩:=this t t (qL _) e;refine⟨u,?_,e1,e2⟩;refine Classical.byContradiction fun hn=>?_
 rw[BitVec.getLsbD_of_ge s u (by omega)]at e1;exact absurd e1 (by decide)
theorem qxa(s:BitVec 64)(t:Nat)(h1:s.getLsbD t=true)(h2:∀j,j<t->s.getLsbD j=false)(i:Nat)(hi:i<64):(s &&& (s-1#64)).getLsbD i=(s.getLsbD i&&!decide (i=t)):=by
 have e:=dE s 0 (by omega) i hi;have e0:(1#64 <<< 0)=1#64:=by decide
 rw[e0]at e;have hc:=qx6 s 0 (by omega) i (by omega);rw[e0]at hc;rw[BitVec.getLsbD_and,e];generalize BitVec.carry i s (-1#64) false=b at hc ⊢;have:decide (0<=i)=true:=by simp
 rw[this];cases hs:s.getLsbD i with
 | false=>simp
 | true =>
  by_cases hit:i=t
  ·have hb:b=false:=by
    cases hb:b with
    | false=>rfl
    | true =>
     obtain⟨z,_,z2,z3⟩:=hc.mp hb;rw[h2 z (by omega)]at z3;exact absurd z3 (by decide)
   rw[hb];simp[hit]
  ·have hb:b=true:=by
    refine hc.mpr ⟨t,by omega,?_,h1⟩;rcases Nat.lt_trichotomy i t with h|h|h
    ·rw[h2 i h]at hs;exact absurd hs (by decide)
    ·exact absurd h hit
    ·exact h
   rw[hb];simp[hit]
theorem qv9(s:BitVec 64)(t:Nat)(ht:t<64)(h1:s.getLsbD t=true)(h2:∀j,j<t->s.getLsbD j=false):vD s=t :: vD (s &&& (s-1#64)):=by
 unfold vD
 have e:List.range 64=List.range t++(t :: (List.range' (t+1) (63-t))):=by
  rw[List.range_eq_range',List.range_eq_range',show 64=t+(1+(63-t))from by omega,<-List.range'_append_1];congr 1;rw[Nat.zero_add,Nat.add_comm 1 (63-t),List.range'_succ]
 rw[e,List.filter_append,List.filter_append,List.filter_cons,List.filter_cons]
 have a1:(List.range t).filter (fun i=>s.getLsbD i)=[]:=by
  rw[List.filter_eq_nil_iff];intro j hj;rw[h2 j (qK.mp hj)];simp
 have a2:(List.range t).filter (fun i=>(s &&& (s-1#64)).getLsbD i)=[]:=by
  rw[List.filter_eq_nil_iff];intro j hj;have hj':=qK.mp hj;rw[qxa s t h1 h2 j (by omega),h2 j hj'];simp
 have a3:(s &&& (s-1#64)).getLsbD t=false:=by rw[qxa s t h1 h2 t ht];simp
 rw[a1,a2,h1,a3];simp only[List.nil_append,if_true,qR,if_false];congr 1;apply List.filter_congr;intro j hj;have:t+1<=j/\j<64:=by have:=List.mem_range'_1.mp hj;omega
 rw[qxa s t h1 h2 j this.2];have:decide (j=t)=false:=by simp;omega
 rw[this];simp
theorem qv8:vD 0#64=[]:=by decide +kernel
theorem Em(s:BitVec 64)(t:Nat)(h1:s.getLsbD t=true)(h2:∀j,j<t->s.getLsbD j=false):Lib.ctz 64 s.toNat=t:=by
 have hne:s.toNat≠0:=fun e=>by
  have:s=0#64:=BitVec.eq_of_toNat_eq (by simpa using e);rw[this]at h1;simp at h1
 unfold Lib.ctz;rw[qF hne];obtain⟨m,e,hc⟩:=Lib.ctzFrom_spec 64 s.toNat (by omega) s.isLt;generalize Lib.ctzFrom 64 s.toNat=c at e hc;have hbit:∀j,s.getLsbD j=decide (s.toNat/2 ^ j%2=1):=fun j=>by rw[BitVec.getLsbD,Nat.testBit_eq_decide_div_mod_eq]
 rcases Nat.lt_trichotomy c t with h|h|h
 ·have:=h2 c h;rw[hbit c,e,Nat.mul_div_cancel_left _ (Nat.two_pow_pos c)]at this;simp at this
 ·exact h
 ·rw[hbit t,e]at h1
  rw[show 2 ^ c*(2*m+1)=2 ^ t*(2*(2 ^ (c-t-1)*(2*m+1)))from by
   rw[show c=t+(1+(c-t-1))from by omega,Nat.pow_add,Nat.pow_add,show t+(1+(c-t-1))-t-1=c-t-1 from by omega];simp[Nat.mul_assoc]]at h1
  rw[Nat.mul_div_cancel_left _ (Nat.two_pow_pos t)]at h1;simp at h1
def ym(x:Nat):BitVec 64:=72340172838076673#64 <<< (x%8)
def yl(x:Nat):BitVec 64:=255#64 <<< (8*(x/8))
def pR(x:Nat):BitVec 64:=if x/8<x%8 then 9241421688590303745#64 >>> (8*(x%8-x/8))else 9241421688590303745#64 <<< (8*(x/8-x%8))
def pW(x:Nat):BitVec 64:=if x/8+x%8<7 then 72624976668147840#64 >>> (8*(7-(x/8+x%8)))else 72624976668147840#64 <<< (8*(x/8+x%8-7))
def E4(x:Nat):BitVec 64:=BitVec.ofInt 64 (yL 1 x 0)
def FX(x:Nat):BitVec 64:=BitVec.ofInt 64 (yL 2 x 0)
def GN(x:Nat):BitVec 64:=BitVec.ofInt 64 (uZ (v6 x))
def GP(x:Nat):BitVec 64:=BitVec.ofInt 64 (lG (v6 x))
theorem Eg:∀x,x<64->DK ((x:Nat):Int)=U (ym x):=by decide +kernel
theorem Dn:∀x,x<64->C7 ((x:Nat):Int)=U (yl x):=by decide +kernel
theorem Fi:∀x,x<64->Fj ((x:Nat):Int)=U (pR x):=by decide +kernel
theorem G6:∀x,x<64->G7 ((x:Nat):Int)=U (pW x):=by decide +kernel
theorem wp_U:∀x,x<64->yE (pT (uR (v6 ((x:Nat):Int))) (uN (v6 ((x:Nat):Int)))) 1=U (E4 x):=by decide +kernel
theorem bp_U:∀x,x<64->yE (pT (uR (v6 ((x:Nat):Int))) (uN (v6 ((x:Nat):Int)))) (-1)=U (FX x):=by decide +kernel
theorem kn_U:∀x,x<64->uZ (v6 ((x:Nat):Int))=U (GN x):=by decide +kernel
theorem ki_U:∀x,x<64->lG (v6 ((x:Nat):Int))=U (GP x):=by decide +kernel
def jT(x:Nat)(t:BitVec 64):BitVec 64:=vt (ym x) x t ||| vt (yl x) x t
def vX(x:Nat)(t:BitVec 64):BitVec 64:=vt (pR x) x t ||| vt (pW x) x t
theorem qz6(x:Nat)(hx:x<64)(t:BitVec 64):kA (x:Int) (U t)=U (jT x t):=by
 unfold kA jT pT;rw[Eg x hx,Dn x hx,qk2 _ x hx,qk2 _ x hx,uQ]
theorem ia(x:Nat)(hx:x<64)(t:BitVec 64):uC (x:Int) (U t)=U (vX x t):=by
 unfold uC vX pT;rw[Fi x hx,G6 x hx,qk2 _ x hx,qk2 _ x hx,uQ]
def jW(k x:Nat)(t:BitVec 64):BitVec 64 :=
 if k=1 then E4 x else if k=2 then FX x else if k=3 then GN x else if k=4 then vX x t
 else if k=5 then jT x t else if k=6 then vX x t ||| jT x t else if k=7 then GP x else 0#64
theorem ik(k x:Nat)(k0:1<=k)(k1:k<=7)(hx:x<64)(t:BitVec 64):yL (k:Int) (x:Int) (U t)=U (jW k x t):=by
 have hk:k=1\/k=2\/k=3\/k=4\/k=5\/k=6\/k=7:=by omega
 unfold yL jW;rcases hk with rfl|rfl|rfl|rfl|rfl|rfl|rfl
 ·exact wp_U x hx
 ·exact bp_U x hx
 ·exact kn_U x hx
 ·exact ia x hx t
 ·exact qz6 x hx t
 ·show pT (uC (x:Int) (U t)) (kA (x:Int) (U t))=U (vX x t ||| jT x t);rw[ia x hx,qz6 x hx];exact uQ _ _
 ·exact ki_U x hx
theorem tK:∀x,x<64->∀y,y<64->(ym x).getLsbD y=true->ym y=ym x:=by decide +kernel
theorem rf:∀x,x<64->∀y,y<64->(yl x).getLsbD y=true->yl y=yl x:=by decide +kernel
theorem Aq:∀x,x<64->∀y,y<64->(pR x).getLsbD y=true->pR y=pR x:=by decide +kernel
theorem CG:∀x,x<64->∀y,y<64->(pW x).getLsbD y=true->pW y=pW x:=by decide +kernel
theorem tL:∀x,x<64->(ym x).getLsbD x=true:=by decide +kernel
theorem rg:∀x,x<64->(yl x).getLsbD x=true:=by decide +kernel
theorem Ar:∀x,x<64->(pR x).getLsbD x=true:=by decide +kernel
theorem CH:∀x,x<64->(pW x).getLsbD x=true:=by decide +kernel
theorem EM:∀x,x<64->∀y,y<64->(GN x).getLsbD y=(GN y).getLsbD x:=by decide +kernel
theorem EN:∀x,x<64->∀y,y<64->(GP x).getLsbD y=(GP y).getLsbD x:=by decide +kernel
theorem bY:∀x,x<64->∀y,y<64->(E4 x).getLsbD y=(FX y).getLsbD x:=by decide +kernel
theorem qv1(L:Nat->BitVec 64)(hs:∀x,x<64->∀y,y<64->(L x).getLsbD y=true->L y=L x)(ho:∀x,x<64->(L x).getLsbD x=true)(x y:Nat)(hx:x<64)(hy:y<64)(t:BitVec 64)
  (h:(vt (L x) x t).getLsbD y=true):(vt (L y) y t).getLsbD x=true:=by
 obtain⟨h1,h2,h3⟩:=(qz0 _ x hx t y hy).mp h;have e:=hs x hx y hy h1;rw[e];exact(qz0 _ y hy t x hx).mpr ⟨ho x hx,fun g=>h2 g.symm,fun z hz=>h3 z (by omega)⟩
theorem qja(L:Nat->BitVec 64)(hs:∀x,x<64->∀y,y<64->(L x).getLsbD y=true->L y=L x)(ho:∀x,x<64->(L x).getLsbD x=true)(x y:Nat)(hx:x<64)(hy:y<64)(t:BitVec 64) :
  (vt (L x) x t).getLsbD y=(vt (L y) y t).getLsbD x:=by
 rw[Bool.eq_iff_iff];exact⟨qv1 L hs ho x y hx hy t,qv1 L hs ho y x hy hx t⟩
theorem qjo(x y:Nat)(hx:x<64)(hy:y<64)(t:BitVec 64):(jT x t).getLsbD y=(jT y t).getLsbD x:=by
 unfold jT;rw[BitVec.getLsbD_or,BitVec.getLsbD_or,qja ym tK tL x y hx hy,qja yl rf rg x y hx hy]
theorem pq(x y:Nat)(hx:x<64)(hy:y<64)(t:BitVec 64):(vX x t).getLsbD y=(vX y t).getLsbD x:=by
 unfold vX;rw[BitVec.getLsbD_or,BitVec.getLsbD_or,qja pR Aq Ar x y hx hy,qja pW CG CH x y hx hy]
theorem px(k x y:Nat)(k0:3<=k)(k1:k<=7)(hx:x<64)(hy:y<64)(t:BitVec 64):(jW k x t).getLsbD y=(jW k y t).getLsbD x:=by
 have hk:k=3\/k=4\/k=5\/k=6\/k=7:=by omega
 rcases hk with rfl|rfl|rfl|rfl|rfl
 ·exact EM x hx y hy
 ·exact pq x y hx hy t
 ·exact qjo x y hx hy t
 ·show(vX x t ||| jT x t).getLsbD y=(vX y t ||| jT y t).getLsbD x;rw[BitVec.getLsbD_or,BitVec.getLsbD_or,pq x y hx hy,qjo x y hx hy]
 ·exact EN x hx y hy
def sg(n:Int):Int:=if 0<n then 1 else if n<0 then -1 else 0
def ab(n:Int):Int:=if n<0 then -n else n
def freeI(f:Nat->Int)(p:Nat->Int)(L:Nat):Bool:=decide (∀i,i<L->1<=i->f (p i).toNat=46)
def pI(x y:Int)(i:Nat):Int:=x+(i:Int)*(8*sg (y/8-x/8)+sg (y%8-x%8))
def LI(x y:Int):Nat:=max (ab (y/8-x/8)).toNat (ab (y%8-x%8)).toNat
def yg(x y:Int):Bool:=(ab (y%8-x%8)==ab (y/8-x/8))&&decide (0<ab (y%8-x%8))
def yd(x y:Int):Bool:=(y%8-x%8==0) != (y/8-x/8==0)
def xS(f:Nat->Int)(k:Nat)(side x y:Int):Bool :=
 if k=0 then(ab (y%8-x%8)==1)&&(y/8-x/8==side)
 else if k=1 then ab (y%8-x%8)*ab (y/8-x/8)==2
 else if k=2 then yg x y&&freeI f (pI x y) (LI x y)
 else if k=3 then yd x y&&freeI f (pI x y) (LI x y)
 else if k=4 then(yd x y||yg x y)&&freeI f (pI x y) (LI x y)
 else decide (ab (y%8-x%8)<=1)&&decide (ab (y/8-x/8)<=1)&&decide (0<ab (y%8-x%8)+ab (y/8-x/8))
theorem sV:∀x,x<64->∀y,y<64->(yd ((x:Nat):Int) ((y:Nat):Int)||yg ((x:Nat):Int) ((y:Nat):Int))=true →
  (decide (1<=LI (x:Int) (y:Int))&&decide (pI (x:Int) (y:Int) (LI (x:Int) (y:Int))=(y:Int))&&(List.range (LI (x:Int) (y:Int)+1)).all (fun i=>decide (0<=pI (x:Int) (y:Int) i)&&decide (pI (x:Int) (y:Int) i<=63)
   && (decide (i=0)||decide (LI (x:Int) (y:Int)<=i)||!decide (pI (x:Int) (y:Int) i=(y:Int)))))=true:=by decide +kernel
theorem Fz(x y:Int)(h0:0<=x)(h1:x<=63)(h2:0<=y)(h3:y<=63)(hl:yd x y=true\/yg x y=true) :
  1<=LI x y/\pI x y (LI x y)=y/\∀i,i<=LI x y->0<=pI x y i/\pI x y i<=63/\(1<=i->i<LI x y->pI x y i≠y):=by
 obtain⟨a,rfl⟩:=Int.eq_ofNat_of_zero_le h0;obtain⟨b,rfl⟩:=Int.eq_ofNat_of_zero_le h2;have:=sV a (by omega) b (by omega) (by rw[Bool.or_eq_true];exact hl);rw[qH,qH,qW,qG,qG]at this;obtain⟨⟨g1,g2⟩,g3⟩:=this;refine⟨g1,g2,fun i hi=>?_⟩;have g:=g3 i (qK.mpr (by omega));rw[qH,qH,Bool.or_eq_true,Bool.or_eq_true,qG,qG,qG,qG,Bool.not_eq_true',qX]at g;refine⟨g.1.1,g.1.2,fun k1 k2=>?_⟩;rcases g.2 with(g|g)|g
 ·omega
 ·omega
 ·exact g
theorem Dp(x y:Int)(h0:0<=x)(h1:x<=63)(h2:0<=y)(h3:y<=63)(hl:yd x y=true\/yg x y=true):∀i,i<=LI x y->0<=pI x y i/\pI x y i<=63 :=
 fun i hi=>⟨((Fz x y h0 h1 h2 h3 hl).2.2 i hi).1,((Fz x y h0 h1 h2 h3 hl).2.2 i hi).2.1⟩
def fT(t:BitVec 64)(z:Nat):Int:=if t.getLsbD z then 80 else 46
def kR(k:Nat):Nat:=if k<=2 then 0 else k-2
def sR(k:Nat):Int:=if k<=2 then 3-2*(k:Int)else 1
def eV(k:Nat)(x:Int)(t:BitVec 64)(y:Nat):Bool:=xS (fT t) (kR k) (sR k) x (y:Int)
def ao(g:Nat->Bool):Nat->Nat
 | 0=>0
 | j+1=>2*ao g j+(if g (63-j)then 1 else 0)
theorem am(g:Nat->Bool):∀j,j<=64->∀i,i<j->(ao g j).testBit i=g (64-j+i)
 | 0,_,i,h=>by omega
 | j+1,hj,i,h=>by
   cases i with
   | zero =>
    rw[Nat.testBit_zero];unfold ao;rw[show 64-(j+1)+0=63-j from by omega];cases g (63-j)<;>simp<;>omega
   | succ i =>
    have ih:=am g j (by omega) i (by omega);rw[Nat.testBit_succ];rw[show ao g (j+1)/2=ao g j from by show(2*ao g j+(if g (63-j)then 1 else 0))/2=ao g j;split<;>omega,ih]
    congr 1;omega
def Dl(k:Nat)(x:Int)(t:BitVec 64):BitVec 64:=BitVec.ofNat 64 (ao (eV k x t) 64)
theorem bW(k:Nat)(x:Int)(t:BitVec 64)(y:Nat)(hy:y<64):(Dl k x t).getLsbD y=eV k x t y:=by
 unfold Dl;rw[BitVec.getLsbD_ofNat,am _ 64 (qL _) y hy];simp[hy]
def btw(x y z:Nat):Bool:=decide (x<z/\z<y\/y<z/\z<x)
def uD(l:BitVec 64)(x y:Nat):Bool :=
 !(l.getLsbD y&&!decide (y=x))||((yd (x:Int) (y:Int)||yg (x:Int) (y:Int))&&(List.range (LI (x:Int) (y:Int))).all (fun i=>decide (i=0)||btw x y (pI (x:Int) (y:Int) i).toNat&&l.getLsbD (pI (x:Int) (y:Int) i).toNat)
  && (List.range 64).all (fun z=>!(btw x y z&&l.getLsbD z)||(List.range (LI (x:Int) (y:Int))).any (fun i=>!decide (i=0)&&decide ((pI (x:Int) (y:Int) i).toNat=z))))
theorem CF:∀x,x<64->∀y,y<64->uD (ym x) x y=true:=by decide +kernel
theorem Ax:∀x,x<64->∀y,y<64->uD (yl x) x y=true:=by decide +kernel
theorem Dj:∀x,x<64->∀y,y<64->uD (pR x) x y=true:=by decide +kernel
theorem Eh:∀x,x<64->∀y,y<64->uD (pW x) x y=true:=by decide +kernel
theorem Ff:∀x,x<64->∀y,y<64->yd ((x:Nat):Int) ((y:Nat):Int)=((ym x).getLsbD y&&!decide (y=x)||(yl x).getLsbD y&&!decide (y=x)):=by decide +kernel
theorem Fg:∀x,x<64->∀y,y<64->yg ((x:Nat):Int) ((y:Nat):Int)=((pR x).getLsbD y&&!decide (y=x)||(pW x).getLsbD y&&!decide (y=x)):=by decide +kernel
theorem oL:∀x,x<64->∀y,y<64->(E4 x).getLsbD y=((ab (((y:Nat):Int)%8-((x:Nat):Int)%8)==1)&&((y:Int)/8-(x:Int)/8==1)):=by decide +kernel
theorem wE:∀x,x<64->∀y,y<64->(FX x).getLsbD y=((ab (((y:Nat):Int)%8-((x:Nat):Int)%8)==1)&&((y:Int)/8-(x:Int)/8==-1)):=by decide +kernel
theorem GM:∀x,x<64->∀y,y<64->(GN x).getLsbD y=(ab (((y:Nat):Int)%8-((x:Nat):Int)%8)*ab ((y:Int)/8-(x:Int)/8)==2):=by decide +kernel
theorem GO:∀x,x<64->∀y,y<64->(GP x).getLsbD y=(decide (ab (((y:Nat):Int)%8-((x:Nat):Int)%8)<=1)&&decide (ab ((y:Int)/8-(x:Int)/8)<=1)&&decide (0<ab ((y:Int)%8-(x:Int)%8)+ab ((y:Int)/8-(x:Int)/8))):=by decide +kernel
theorem tO(t:BitVec 64)(z:Nat):fT t z=46↔t.getLsbD z=false:=by
 unfold fT;cases t.getLsbD z<;>simp
theorem qq7(l:BitVec 64)(x:Nat)(hx:x<64)(t:BitVec 64)(y:Nat)(hy:y<64)(ok:uD l x y=true) :
  (vt l x t).getLsbD y=((l.getLsbD y&&!decide (y=x))&&freeI (fT t) (pI (x:Int) (y:Int)) (LI (x:Int) (y:Int))):=by
 rw[Bool.eq_iff_iff,qz0 l x hx t y hy];unfold uD at ok;unfold freeI;by_cases h:(l.getLsbD y&&!decide (y=x))=true
 ·rw[h]at ok ⊢;rw[Bool.not_true,Bool.false_or,qH,qH,qW,qW]at ok;obtain⟨⟨_,o1⟩,o2⟩:=ok;rw[Bool.true_and,qG];rw[qH,Bool.not_eq_true',qX]at h;constructor
  ·rintro⟨_,_,g⟩ i hi i1;have:=o1 i (qK.mpr hi);rw[Bool.or_eq_true,qG,qH]at this;rcases this with e|⟨e1,e2⟩
   ·omega
   ·rw[tO];exact g _ (q8 e1) e2
  ·intro g;refine⟨h.1,h.2,fun z hz hl=>?_⟩;have:=o2 z (qK.mpr (by omega));have hb:btw x y z=true:=qJ hz;rw[hb,hl,Bool.true_and,Bool.not_true,Bool.false_or,qY]at this;obtain⟨i,hi,e⟩:=this;rw[qH,Bool.not_eq_true',qX,qG]at e;have:=g i (qK.mp hi) (by omega);rw[e.2,tO]at this;exact this
 ·have h':(l.getLsbD y&&!decide (y=x))=false:=by simpa using h
  rw[h'];simp only[Bool.false_and,qR,iff_false];rintro⟨a,b,_⟩;rw[a]at h';simp at h';exact b h'
theorem bN(x:Nat)(hx:x<64)(t:BitVec 64)(y:Nat)(hy:y<64) :
  (vX x t).getLsbD y=(yg (x:Int) (y:Int)&&freeI (fT t) (pI (x:Int) (y:Int)) (LI (x:Int) (y:Int))):=by
 unfold vX;rw[BitVec.getLsbD_or,qq7 _ x hx t y hy (Dj x hx y hy),qq7 _ x hx t y hy (Eh x hx y hy),Fg x hx y hy];cases ((pR x).getLsbD y&&!decide (y=x))<;>cases ((pW x).getLsbD y&&!decide (y=x))<;>cases freeI (fT t) (pI (x:Int) (y:Int)) (LI (x:Int) (y:Int))<;>rfl
theorem qj3(x:Nat)(hx:x<64)(t:BitVec 64)(y:Nat)(hy:y<64) :
  (jT x t).getLsbD y=(yd (x:Int) (y:Int)&&freeI (fT t) (pI (x:Int) (y:Int)) (LI (x:Int) (y:Int))):=by
 unfold jT;rw[BitVec.getLsbD_or,qq7 _ x hx t y hy (CF x hx y hy),qq7 _ x hx t y hy (Ax x hx y hy),Ff x hx y hy];cases ((ym x).getLsbD y&&!decide (y=x))<;>cases ((yl x).getLsbD y&&!decide (y=x))<;>cases freeI (fT t) (pI (x:Int) (y:Int)) (LI (x:Int) (y:Int))<;>rfl
theorem mI(k x:Nat)(k0:1<=k)(k1:k<=7)(hx:x<64)(t:BitVec 64):jW k x t=Dl k (x:Int) t:=by
 apply BitVec.eq_of_getLsbD_eq;intro y hy;rw[bW k _ t y hy];have hk:k=1\/k=2\/k=3\/k=4\/k=5\/k=6\/k=7:=by omega
 rcases hk with rfl|rfl|rfl|rfl|rfl|rfl|rfl
 ·exact oL x hx y hy
 ·exact wE x hx y hy
 ·exact GM x hx y hy
 ·exact bN x hx t y hy
 ·exact qj3 x hx t y hy
 ·show(vX x t ||| jT x t).getLsbD y=((yd (x:Int) (y:Int)||yg (x:Int) (y:Int))&&freeI (fT t) (pI (x:Int) (y:Int)) (LI (x:Int) (y:Int)));rw[BitVec.getLsbD_or,bN x hx t y hy,qj3 x hx t y hy];cases yd (x:Int) (y:Int)<;>cases yg (x:Int) (y:Int)<;>cases freeI (fT t) (pI (x:Int) (y:Int)) (LI (x:Int) (y:Int))<;>rfl
 ·exact GO x hx y hy
end Go.Proofs.YtnfakamfmkhlbabGreatDoor.P
