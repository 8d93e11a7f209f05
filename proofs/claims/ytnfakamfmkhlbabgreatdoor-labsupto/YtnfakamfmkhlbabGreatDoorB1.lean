import Derived.Test.YtnfakamfmkhlbabGreatDoorA1
set_option maxRecDepth 100000
set_option maxHeartbeats 4000000
set_option linter.all false
open Go.Value renaming int->I,bool->Za,string->Zb,agg->Zc,tuple->Ze,slice->Zq
open Go.IntKind renaming i64->L,u8->Zg,u64->Zh
open Go.Obj renaming cells->Z
open Go.Ending renaming returned->Zd
open Or renaming inl->Zi,inr->Zj
open Option renaming some->S,none->N
open Bool renaming true->Zk,false->Zl
open Decidable renaming decide->Zm
open Go.RowKit renaming Hid->Y
open Go renaming World->I6,Value->I7
namespace Go.Proofs.YtnfakamfmkhlbabGreatDoor
theorem qB:type_of% @Array.getElem?_eq_some_iff:=@Array.getElem?_eq_some_iff
theorem qE:type_of% @decide_eq_false:=@decide_eq_false
theorem qF:type_of% @if_neg:=@if_neg
theorem qI:type_of% @if_pos:=@if_pos
theorem qG:type_of% @decide_eq_true_eq:=@decide_eq_true_eq
theorem qH:type_of% @Bool.and_eq_true:=@Bool.and_eq_true
theorem qJ:type_of% @decide_eq_true:=@decide_eq_true
theorem qK:type_of% @List.mem_range:=@List.mem_range
theorem qL:type_of% @Nat.le_refl:=@Nat.le_refl
theorem qN:type_of% @Nat.lt_of_lt_of_le:=@Nat.lt_of_lt_of_le
theorem qM:type_of% @beq_eq_false_iff_ne:=@beq_eq_false_iff_ne
theorem qO:type_of% @Array.getElem?_toList:=@Array.getElem?_toList
theorem qP:type_of% @Option.some.inj:=@Option.some.inj
theorem qQ:type_of% @Array.getElem?_eq_getElem:=@Array.getElem?_eq_getElem
theorem qR:type_of% @Bool.false_eq_true:=@Bool.false_eq_true
theorem qS:type_of% @List.append_assoc:=@List.append_assoc
theorem qT:type_of% @List.mem_singleton:=@List.mem_singleton
theorem qU:type_of% @bne_iff_ne:=@bne_iff_ne
theorem qV:type_of% @List.mem_filter:=@List.mem_filter
theorem qW:type_of% @List.all_eq_true:=@List.all_eq_true
theorem qX:type_of% @decide_eq_false_iff_not:=@decide_eq_false_iff_not
theorem qY:type_of% @List.any_eq_true:=@List.any_eq_true
theorem qZ:type_of% @List.length_append:=@List.length_append
theorem q7:type_of% @Nat.le_trans:=@Nat.le_trans
theorem q8:type_of% @of_decide_eq_true:=@of_decide_eq_true
theorem q6:type_of% @UInt8.toNat_inj:=@UInt8.toNat_inj
end Go.Proofs.YtnfakamfmkhlbabGreatDoor
namespace Go.Proofs.YtnfakamfmkhlbabGreatDoor.C
open Go.RowKit
theorem xo{k:IntKind}{a b:Int}(h:a=b):Ending.returned (I k a)=Zd (I k b):=by rw[h]
def Gr(w w':I6):Prop:=Below w.heap.size w w'
theorem Gr.refl(w:I6):Gr w w:=Below.refl _ _
theorem Gr.trans{a b c:I6}(h:Gr a b)(k:Gr b c):Gr a c:=Below.trans h (Below.mono k (Below.size h))
theorem Gr.alloc{a b:I6}(h:Gr a b)(c:I0)(t:TypeId):Gr a (b.alloc (Z c t)):=Below.alloc h (Below.size h) _
theorem Gr.drew{a b:I6}(h:Gr a b):Gr a b.drew:=Below.drew h
theorem Gr.below{a b:I6}(h:Gr a b):Below a.heap.size a b:=h
theorem ZN{w:I6}{c:I0}{t:TypeId}:Gr w (w.alloc (Z c t)):=(Gr.refl w).alloc c t
theorem Gr.al{a b:I6}{c:I0}{t:TypeId}(h:Gr a b):Gr a (b.alloc (Z c t)):=h.alloc c t
theorem ZO{w:I6}:Gr w w:=Gr.refl w
theorem X{p:Prop}(h:p):Y p:=h
theorem qa{p:Prop}(h:Y p):p:=h
end Go.Proofs.YtnfakamfmkhlbabGreatDoor.C
namespace Go.Proofs.YtnfakamfmkhlbabGreatDoor.P
def v6(x:Int):Int:=IntKind.u64.wrap (2 ^ x.toNat)
def uR(x:Int):Int:=bits .andNot Zh (x/2) 9259542123273814144
def uN(x:Int):Int:=bits .andNot Zh (IntKind.u64.wrap (x*2)) 72340172838076673
def yE(x r:Int):Int:=if r<0 then x/2 ^ (-8*r).toNat else IntKind.u64.wrap (x*2 ^ (8*r).toNat)
def rv1(x:Int):Int:=bits .or Zh (bits .and Zh (x/2) 6148914691236517205) (IntKind.u64.wrap (bits .and Zh x 6148914691236517205*2))
def rv2(x:Int):Int:=bits .or Zh (bits .and Zh (x/4) 3689348814741910323) (IntKind.u64.wrap (bits .and Zh x 3689348814741910323*4))
def rv4(x:Int):Int:=bits .or Zh (bits .and Zh (x/16) 1085102592571150095) (IntKind.u64.wrap (bits .and Zh x 1085102592571150095*16))
def rv8(x:Int):Int:=bits .or Zh (bits .and Zh (x/256) 71777214294589695) (IntKind.u64.wrap (bits .and Zh x 71777214294589695*256))
def Dg(x:Int):Int:=bits .or Zh (bits .and Zh (x/65536) 281470681808895) (IntKind.u64.wrap (bits .and Zh x 281470681808895*65536))
def Df(x:Int):Int:=bits .or Zh (x/4294967296) (IntKind.u64.wrap (x*4294967296))
def eT(x:Int):Int:=Df (Dg (rv8 (rv4 (rv2 (rv1 x)))))
def pT(a b:Int):Int:=bits .or Zh a b
def EG(l x t:Int):Int:=bits .and Zh (bits .andNot Zh l (v6 x)) t
def yr(l x t:Int):Int:=bits .and Zh (bits .xor Zh (IntKind.u64.wrap (EG l x t-v6 x)) (eT (IntKind.u64.wrap (eT (EG l x t)-eT (v6 x))))) (bits .andNot Zh l (v6 x))
def uZ(x:Int):Int:=pT (pT (pT (yE (pT (uR x) (uN x)) 2) (yE (pT (uR x) (uN x)) (-2))) (yE (pT (uR (uR x)) (uN (uN x))) 1)) (yE (pT (uR (uR x)) (uN (uN x))) (-1))
def Di(x:Int):Int:=pT (pT (uR x) x) (uN x)
def lG(x:Int):Int:=bits .andNot Zh (pT (pT (yE (Di x) 1) (Di x)) (yE (Di x) (-1))) x
def DK(x:Int):Int:=IntKind.u64.wrap (72340172838076673*2 ^ (x%8).toNat)
def C7(x:Int):Int:=yE 255 (x/8)
def Fj(x:Int):Int:=yE 9241421688590303745 (x/8-x%8)
def G7(x:Int):Int:=yE 72624976668147840 (x/8+x%8-7)
def kA(x t:Int):Int:=pT (yr (DK x) x t) (yr (C7 x) x t)
def uC(x t:Int):Int:=pT (yr (Fj x) x t) (yr (G7 x) x t)
def yL(k x t:Int):Int :=
 if k=1 then yE (pT (uR (v6 x)) (uN (v6 x))) 1
 else if k=2 then yE (pT (uR (v6 x)) (uN (v6 x))) (-1)
 else if k=3 then uZ (v6 x)
 else if k=4 then uC x t
 else if k=5 then kA x t
 else if k=6 then pT (uC x t) (kA x t)
 else if k=7 then lG (v6 x)
 else 0
def U(b:BitVec 64):Int:=(b.toNat:Int)
theorem aq(b:BitVec 64):0<=U b:=Int.natCast_nonneg _
theorem HE(b:BitVec 64):U b<18446744073709551616:=by unfold U;have:=b.isLt;omega
theorem pE{a b:BitVec 64}(h:U a=U b):a=b:=by apply BitVec.eq_of_toNat_eq;unfold U at h;omega
theorem U_of(x:Int)(a:0<=x)(b:x<18446744073709551616):U (BitVec.ofInt 64 x)=x:=by unfold U;rw[BitVec.toNat_ofInt];have:x%((2 ^ 64:Nat):Int)=x:=Int.emod_eq_of_lt a VE;rw[this];omega
theorem jh(b:BitVec 64):BitVec.ofInt 64 (U b)=b:=by apply pE;exact U_of _ (aq b) (HE b)
theorem gv(b:BitVec 64):IntKind.u64.wrap (U b)=U b:=by rw[IntKind.wrap_u64];exact Int.emod_eq_of_lt (aq b) (HE b)
theorem im(a b:BitVec 64):bits .and Zh (U a) (U b)=U (a &&& b):=by show IntKind.u64.wrap ((BitVec.ofInt 64 (U a) &&& BitVec.ofInt 64 (U b)).toNat:Int)=_;rw[jh,jh];exact gv _
theorem uQ(a b:BitVec 64):bits .or Zh (U a) (U b)=U (a ||| b):=by show IntKind.u64.wrap ((BitVec.ofInt 64 (U a) ||| BitVec.ofInt 64 (U b)).toNat:Int)=_;rw[jh,jh];exact gv _
theorem oF(a b:BitVec 64):bits .xor Zh (U a) (U b)=U (a ^^^ b):=by show IntKind.u64.wrap ((BitVec.ofInt 64 (U a) ^^^ BitVec.ofInt 64 (U b)).toNat:Int)=_;rw[jh,jh];exact gv _
theorem qk1(a b:BitVec 64):bits .andNot Zh (U a) (U b)=U (a &&& ~~~b):=by show IntKind.u64.wrap ((BitVec.ofInt 64 (U a) &&& ~~~BitVec.ofInt 64 (U b)).toNat:Int)=_;rw[jh,jh];exact gv _
theorem bJ(a b:BitVec 64):IntKind.u64.wrap (U a-U b)=U (a-b):=by rw[IntKind.wrap_u64];unfold U;rw[BitVec.toNat_sub];have:=b.isLt;omega
theorem rE(a:BitVec 64)(k:Nat):U a/((2 ^ k:Nat):Int)=U (a >>> k):=by unfold U;rw[BitVec.toNat_ushiftRight,Nat.shiftRight_eq_div_pow];exact(Int.natCast_ediv _ _).symm
theorem ib(a:BitVec 64)(k:Nat):IntKind.u64.wrap (U a*((2 ^ k:Nat):Int))=U (a <<< k):=by rw[IntKind.wrap_u64];unfold U;rw[BitVec.toNat_shiftLeft,Nat.shiftLeft_eq];omega
def yK(m:BitVec 64)(k:Nat)(x:BitVec 64):BitVec 64:=(x >>> k &&& m) ||| ((x &&& m) <<< k)
def pV(k i:Nat):Nat:=if i/k%2=0 then i+k else i-k
theorem zz(m:BitVec 64)(k:Nat)(b:k=1\/k=2\/k=4\/k=8\/k=16\/k=32)(d:∀i,i<64->m.getLsbD i=Zm (i/k%2=0))(x:BitVec 64)(i:Nat)(a:i<64) :
 (yK m k x).getLsbD i=x.getLsbD (pV k i):=by
 have j:=d i a;have l:=d (i-k) O;have n:i/k%2=0->i<k\/(i-k)/k%2≠0:=Ox;have o:i/k%2≠0->¬ i<k/\(i-k)/k%2=0:=Ox;unfold yK pV;simp only[Yx,Yl,BitVec.getLsbD_ushiftRight,BitVec.getLsbD_shiftLeft,j,l];by_cases e:i/k%2=0
 .rw[qI e];obtain g|g:=n e
  .simp[e,g,Nat.add_comm]
  .simp[e,g,Nat.add_comm]
 .rw[qF e];obtain⟨f,h⟩:=o e;simp[e,f,h,a]
theorem rG(c:Int)(m:BitVec 64)(a:c=U m)(k:Nat)(p:Int)(b:p=((2 ^ k:Nat):Int))(x:BitVec 64) :
 bits .or Zh (bits .and Zh (U x/p) c) (IntKind.u64.wrap (bits .and Zh (U x) c*p))=U (yK m k x):=by rw[a,b,rE,im,im,ib,uQ];rfl
def pS(x:BitVec 64):BitVec 64:=yK 4294967295#64 32 (yK 281470681808895#64 16 (yK 71777214294589695#64 8 (yK 1085102592571150095#64 4 (yK 3689348814741910323#64 2 (yK 6148914691236517205#64 1 x)))))
theorem mD(x:BitVec 64):(x >>> 32) ||| (x <<< 32)=yK 4294967295#64 32 x:=by
 apply XF;intro i h;have a:∀i,i<64->(4294967295#64).getLsbD i=Zm (i/32%2=0):=WS;unfold yK;have f:=a i h;have g:=a (i-32) O;simp only[Yx,Yl,BitVec.getLsbD_ushiftRight,BitVec.getLsbD_shiftLeft,f,g];by_cases e:i<32
 .have:i/32%2=0:=O;simp[e,this]
 .have b:i/32%2=1:=O;have d:(i-32)/32%2=0:=O;simp[e,b,d,BitVec.getLsbD_of_ge x (32+i) O]
theorem rR(x:BitVec 64):eT (U x)=U (pS x):=by unfold eT pS rv1 rv2 rv4 rv8 Dg Df;rw[rG 6148914691236517205 6148914691236517205#64 WS 1 2 WW];rw[rG 3689348814741910323 3689348814741910323#64 WS 2 4 WW];rw[rG 1085102592571150095 1085102592571150095#64 WS 4 16 WW];rw[rG 71777214294589695 71777214294589695#64 WS 8 256 WW];rw[rG 281470681808895 281470681808895#64 WS 16 65536 WW];rw[show(4294967296:Int)=((2 ^ 32:Nat):Int)from WW,rE,ib,uQ,mD]
theorem G5:∀i,i<64->pV 1 (pV 2 (pV 4 (pV 8 (pV 16 (pV 32 i)))))=63-i:=WS
theorem Fk(k i:Nat)(a:k=1\/k=2\/k=4\/k=8\/k=16\/k=32)(b:i<64):pV k i<64:=by unfold pV;rcases a with rfl|rfl|rfl|rfl|rfl|rfl<;>split<;>omega
theorem qju(x:BitVec 64)(i:Nat)(a:i<64):(pS x).getLsbD i=x.getLsbD (63-i):=by
 rw[<-G5 i a];have f:=Fk 32 i O a;have e:=Fk 16 _ O f;have d:=Fk 8 _ O e;have b:=Fk 4 _ O d;have g:=Fk 2 _ O b;unfold pS;rw[zz _ 32 O WS _ _ a,zz _ 16 O WS _ _ f,zz _ 8 O WS _ _ e,
  zz _ 4 O WS _ _ d,zz _ 2 O WS _ _ b,zz _ 1 O WS _ _ g]
theorem qzl:∀x,x<64->∀j,j<64->(-(1#64 <<< x)).getLsbD j=Zm (x<=j):=WS
theorem qx6(m:BitVec 64)(x:Nat)(f:x<64):∀i,i<=64->(BitVec.carry i m (-(1#64 <<< x)) Zl=Zk↔∃z,x<=z/\z<i/\m.getLsbD z=Zk)
 | 0,_=>by
  simp[BitVec.carry_zero]
 | i+1,hi=>by
  have j:=qx6 m x f i O;rw[BitVec.carry_succ,qzl x f i O];by_cases g:x<=i
  .simp only[g,decide_true,Bool.atLeastTwo_true_mid,Ym,j];constructor
   .rintro(h|⟨z,b,d,a⟩)
    .exact⟨i,g,O,h⟩
    .exact⟨z,b,O,a⟩
   .rintro⟨z,b,d,a⟩;by_cases e:z=i
    .subst e;exact Or.inl a
    .exact Or.inr ⟨z,b,O,a⟩
  .have:BitVec.carry i m (-(1#64 <<< x)) Zl=Zl:=by
    cases k:BitVec.carry i m (-(1#64 <<< x)) Zl with
    | false=>rfl
    | true=>obtain⟨z,b,d,a⟩:=j.mp k;omega
   simp only[g,decide_false,this,Bool.atLeastTwo_false_mid,XU,qR,false_iff,not_exists];rintro z ⟨b,d,a⟩;omega
theorem dE(m:BitVec 64)(x:Nat)(b:x<64)(j:Nat)(a:j<64) :
 (m-1#64 <<< x).getLsbD j=(m.getLsbD j ^^ (Zm (x<=j) ^^ BitVec.carry j m (-(1#64 <<< x)) Zl)):=by rw[BitVec.sub_eq_add_neg,BitVec.getLsbD_add a,qzl x b j a]
def vt(l:BitVec 64)(x:Nat)(t:BitVec 64):BitVec 64 :=
 (((l &&& ~~~(1#64 <<< x)) &&& t)-1#64 <<< x ^^^ pS (pS ((l &&& ~~~(1#64 <<< x)) &&& t)-pS (1#64 <<< x))) &&& (l &&& ~~~(1#64 <<< x))
theorem rp:∀x,x<64->v6 ((x:Nat):Int)=U (1#64 <<< x):=WS
theorem Au:∀x,x<64->pS (1#64 <<< x)=1#64 <<< (63-x):=WS
theorem ze:∀x,x<64->∀j,j<64->(1#64 <<< x).getLsbD j=Zm (j=x):=WS
theorem qk2(l:BitVec 64)(x:Nat)(a:x<64)(t:BitVec 64):yr (U l) (x:Int) (U t)=U (vt l x t):=by unfold yr EG;rw[rp x a,qk1,im,bJ,rR,rR,bJ,rR,oF,im];rfl
theorem qz0(l:BitVec 64)(x:Nat)(m:x<64)(t:BitVec 64)(y:Nat)(p:y<64) :
 (vt l x t).getLsbD y=Zk↔l.getLsbD y=Zk/\y≠x/\∀z,(x<z/\z<y\/y<z/\z<x)->l.getLsbD z=Zk->t.getLsbD z=Zl:=by
 have men:∀z,z<64->((l &&& ~~~(1#64 <<< x)) &&& t).getLsbD z=(l.getLsbD z&&!decide (z=x)&&t.getLsbD z):=by intro z q;simp only[Yl,BitVec.getLsbD_not,ze x m z q,q,decide_true,Xc]
 unfold vt;rw[Yl,BitVec.getLsbD_xor,qju _ y p,Au x m,dE _ x m y p,dE _ (63-x) O (63-y) O,qju _ (63-y) O];rw[show 63-(63-y)=y from O];have c1:=qx6 ((l &&& ~~~(1#64 <<< x)) &&& t) x m y O;have c2:=qx6 (pS ((l &&& ~~~(1#64 <<< x)) &&& t)) (63-x) O (63-y) O;generalize BitVec.carry y ((l &&& ~~~(1#64 <<< x)) &&& t) (-(1#64 <<< x)) Zl=n at c1 |-;generalize BitVec.carry (63-y) (pS ((l &&& ~~~(1#64 <<< x)) &&& t)) (-(1#64 <<< (63-x))) Zl=o at c2 |-;have f:n=Zk↔∃z,x<z/\z<y/\l.getLsbD z=Zk/\t.getLsbD z=Zk:=by
  rw[c1];constructor
  .rintro⟨z,d,b,a⟩;rw[men z O]at a;simp only[qH,YK,qX]at a;exact⟨z,O,b,a.1.1,a.2⟩
  .rintro⟨z,d,b,a,j⟩;refine⟨z,O,b,?_⟩;rw[men z O,a,j];simp;omega
 have i:o=Zk↔∃z,y<z/\z<x/\l.getLsbD z=Zk/\t.getLsbD z=Zk:=by
  rw[c2];constructor
  .rintro⟨z,d,b,a⟩;rw[qju _ z O,men (63-z) O]at a;simp only[qH,YK,qX]at a;exact⟨63-z,O,O,a.1.1,a.2⟩
  .rintro⟨z,d,b,a,j⟩;refine⟨63-z,O,O,?_⟩;rw[qju _ (63-z) O,show 63-(63-z)=z from O,men z O,a,j];simp;omega
 simp only[Yl,BitVec.getLsbD_not,ze x m y p,p,decide_true,Xc];obtain h|h|h:=Nat.lt_trichotomy x y
 .have r:Zm (x<=y)=Zk:=WX;have u:Zm (63-x<=63-y)=Zl:=WX;have k:Zm (y=x)=Zl:=WX;have v:o=Zl:=by
   cases e:o with
   | false=>rfl
   | true=>obtain⟨z,d,b,_⟩:=i.mp e;omega
  rw[r,u,k,v];cases e:n with
  | true =>
   obtain⟨z,d,b,a,j⟩:=f.mp e;simp only[Bool.xor_false,qR,Bool.xor_self,XK,false_iff];rintro⟨_,_,g⟩;have:=g z (Or.inl ⟨d,b⟩) a;simp[j]at this
  | false =>
   have:¬ ∃z,x<z/\z<y/\l.getLsbD z=Zk/\t.getLsbD z=Zk:=λg=>by simp[f.mpr g]at e
   simp only[X3,Wl];constructor
   .intro g;refine⟨by simp at g;exact g.2,O,?_⟩;intro z q w;cases A:t.getLsbD z with
    | false=>rfl
    | true=>exact absurd ⟨z,O,O,w,A⟩ this
   .rintro⟨g,_,_⟩;rw[g];cases ((l &&& ~~~(1#64 <<< x)) &&& t).getLsbD y<;>simp
 .subst h;have k:Zm (x=x)=Zk:=WU;rw[k];simp
 .have r:Zm (x<=y)=Zl:=WX;have u:Zm (63-x<=63-y)=Zk:=WX;have k:Zm (y=x)=Zl:=WX;have v:n=Zl:=by
   cases e:n with
   | false=>rfl
   | true=>obtain⟨z,d,b,_⟩:=f.mp e;omega
  rw[r,u,k,v];cases e:o with
  | true =>
   obtain⟨z,d,b,a,j⟩:=i.mp e;simp only[Bool.xor_false,qR,Bool.xor_self,XK,false_iff];rintro⟨_,_,g⟩;have:=g z (Or.inr ⟨d,b⟩) a;simp[j]at this
  | false =>
   have:¬ ∃z,y<z/\z<x/\l.getLsbD z=Zk/\t.getLsbD z=Zk:=λg=>by simp[i.mpr g]at e
   simp only[X3,Wl];constructor
   .intro g;refine⟨by simp at g;exact g.2,O,?_⟩;intro z q w;cases A:t.getLsbD z with
    | false=>rfl
    | true=>exact absurd ⟨z,O,O,w,A⟩ this
   .rintro⟨g,_,_⟩;rw[g];cases ((l &&& ~~~(1#64 <<< x)) &&& t).getLsbD y<;>simp
end Go.Proofs.YtnfakamfmkhlbabGreatDoor.P
namespace Go.Proofs.YtnfakamfmkhlbabGreatDoor.C
open Go.ChangeShapes Go.WideShapes Go.ChangeAt Go.RowKit Go.Proofs.YtnfakamfmkhlbabGreatDoor.P
theorem A9(x:Int)(a:0<=x)(b:x<=63)(w:I6):Calls Tryz.prog 204 #[I L x] w λe w'=>e=Zd (I Zh (v6 x))/\w'=w:=by go_enter Tryz.func204,Tryz.ntmps204;exact Wz
theorem qkl(x:Int)(w:I6):Calls Tryz.prog 251 #[I Zh x] w λe w'=>e=Zd (I Zh (uR x))/\w'=w:=by go_enter Tryz.func251,Tryz.ntmps251;exact Wz
theorem qj9(x:Int)(w:I6):Calls Tryz.prog 252 #[I Zh x] w λe w'=>e=Zd (I Zh (uN x))/\w'=w:=by go_enter Tryz.func252,Tryz.ntmps252;exact Wz
theorem Dw(x r:Int)(w:I6)(a:-7<=r)(b:r<=7):Calls Tryz.prog 253 #[I Zh x,I L r] w λe w'=>e=Zd (I Zh (yE x r))/\w'=w:=by
 by_cases h:r<0
 .go_enter Tryz.func253,Tryz.ntmps253;go_wp2;go_ret;exact⟨xo (by unfold yE;rw[qI h]),R⟩
 .have d:0<=r:=O;have f:=h;go_enter Tryz.func253,Tryz.ntmps253;go_wp2;go_ret;exact⟨xo (by unfold yE;rw[qF O]),R⟩
theorem rP(x:Int)(w:I6):Calls Tryz.prog 372 #[I Zh x] w λe w'=>e=Zd (I Zh (Df (Dg (rv8 x))))/\w'=w:=by go_enter Tryz.func372,Tryz.ntmps372;exact Wz
theorem Av(x:Int)(w:I6):Calls Tryz.prog 365 #[I Zh x] w λe w'=>e=Zd (I Zh (eT x))/\w'=w:=by go_enter Tryz.func365,Tryz.ntmps365;go_wp2_with(go_at_call 372;refine Z1 (rP _ _) ?_);exact WB
theorem eJ(x:Int)(w:I6):Calls Tryz.prog 346 #[I Zh x] w λe w'=>e=Zd (I Zh (eT x))/\w'=w:=by go_enter Tryz.func346,Tryz.ntmps346;go_wp2_with(go_at_call 365;refine Z1 (Av _ _) ?_);exact WB
theorem gp(l x t:Int)(a:0<=x)(b:x<=63)(w:I6):Calls Tryz.prog 307 #[I Zh l,I L x,I Zh t] w λe w'=>e=Zd (I Zh (yr l x t))/\w'=w:=by go_enter Tryz.func307,Tryz.ntmps307;go_wp2_with(first|(go_at_call 204;refine(A9 _ a b _).mono ?_;rintro e w' ⟨rfl,rfl⟩)|(go_at_call 346;refine Z1 (eJ _ _) ?_));exact WB
theorem fG(x:Int)(w:I6):Calls Tryz.prog 254 #[I Zh x] w λe w'=>e=Zd (I Zh (uZ x))/\w'=w:=by go_enter Tryz.func254,Tryz.ntmps254;exact IM
theorem sl(x:Int)(w:I6):Calls Tryz.prog 257 #[I Zh x] w λe w'=>e=Zd (I Zh (lG x))/\w'=w:=by go_enter Tryz.func257,Tryz.ntmps257;exact IM
theorem dF(x t:Int)(a:0<=x)(b:x<=63)(w:I6):Calls Tryz.prog 256 #[I L x,I Zh t] w λe w'=>e=Zd (I Zh (kA x t))/\w'=w:=by go_enter Tryz.func256,Tryz.ntmps256;exact IN
theorem l9(x t:Int)(a:0<=x)(b:x<=63)(w:I6):Calls Tryz.prog 255 #[I L x,I Zh t] w λe w'=>e=Zd (I Zh (uC x t))/\w'=w:=by go_enter Tryz.func255,Tryz.ntmps255;exact IN
theorem qjg(k x t:Int)(f:1<=k)(g:k<=7)(a:0<=x)(b:x<=63)(w:I6):Calls Tryz.prog 206 #[I L k,I L x,I Zh t] w λe w'=>e=Zd (I Zh (yL k x t))/\w'=w:=by
 have d:k=1\/k=2\/k=3\/k=4\/k=5\/k=6\/k=7:=O;obtain rfl|rfl|rfl|rfl|rfl|rfl|rfl:=d;all_goals
  go_enter Tryz.func206,Tryz.ntmps206;go_wp2_with(first|(go_at_call 204;refine(A9 _ a b _).mono ?_;rintro e w' ⟨rfl,rfl⟩)|(go_at_call 251;refine(qkl _ _).mono ?_;rintro e w' ⟨rfl,rfl⟩)|(go_at_call 252;refine(qj9 _ _).mono ?_;rintro e w' ⟨rfl,rfl⟩)|(go_at_call 253;refine(Dw _ _ _ WW WW).mono ?_;rintro e w' ⟨rfl,rfl⟩)|(go_at_call 254;refine(fG _ _).mono ?_;rintro e w' ⟨rfl,rfl⟩)|(go_at_call 257;refine(sl _ _).mono ?_;rintro e w' ⟨rfl,rfl⟩)|(go_at_call 256;refine(dF _ _ a b _).mono ?_;rintro e w' ⟨rfl,rfl⟩)|(go_at_call 255;refine Z1 (l9 _ _ a b _) ?_));go_ret;exact⟨R,R⟩
end Go.Proofs.YtnfakamfmkhlbabGreatDoor.C
namespace Go.Proofs.YtnfakamfmkhlbabGreatDoor.P
open Go.RowKit
def vD(s:BitVec 64):List Nat:=(List.range 64).filter (λi=>s.getLsbD i)
theorem Dt(s:BitVec 64)(i:Nat):i∈vD s↔i<64/\s.getLsbD i=Zk:=by unfold vD;rw[qV,qK]
theorem qji(s:BitVec 64)(h:s≠0#64):∃t,t<64/\s.getLsbD t=Zk/\∀j,j<t->s.getLsbD j=Zl:=by
 have m:∃t,s.getLsbD t=Zk:=by
  refine Xd λd=>h ?_;apply XF;intro i p;rw[XM];cases e:s.getLsbD i with
  | false=>rfl
  | true=>exact absurd ⟨i,e⟩ d
 have:∀n t,t<=n->s.getLsbD t=Zk->∃u,s.getLsbD u=Zk/\∀j,j<u->s.getLsbD j=Zl:=by
  intro n;induction n with
  | zero=>intro t o e;exact⟨t,e,λj b=>O⟩
  | succ n ih =>
   intro t o e;by_cases f:∃j,j<t/\s.getLsbD j=Zk
   .obtain⟨j,b,l⟩:=f;exact ih j O l
   .refine⟨t,e,λj b=>?_⟩;cases g:s.getLsbD j with
    | false=>rfl
    | true=>exact absurd ⟨j,b,g⟩ f
 obtain⟨t,e⟩:=m;obtain⟨u,a,k⟩:=this t t Zy e;refine⟨u,?_,a,k⟩;refine Xd λd=>?_;rw[BitVec.getLsbD_of_ge s u O]at a;exact absurd a WW
theorem qxa(s:BitVec 64)(t:Nat)(n:s.getLsbD t=Zk)(k:∀j,j<t->s.getLsbD j=Zl)(i:Nat)(o:i<64):(s &&& (s-1#64)).getLsbD i=(s.getLsbD i&&!decide (i=t)):=by
 have e:=dE s 0 O i o;have g:(1#64 <<< 0)=1#64:=WW;rw[g]at e;have f:=qx6 s 0 O i O;rw[g]at f;rw[Yl,e];generalize BitVec.carry i s (-1#64) Zl=b at f |-;have:Zm (0<=i)=Zk:=WU;rw[this];cases l:s.getLsbD i with
 | false=>simp
 | true =>
  by_cases a:i=t
  .have d:b=Zl:=by
    cases d:b with
    | false=>rfl
    | true =>
     obtain⟨z,_,p,m⟩:=f.mp d;rw[k z O]at m;exact absurd m WW
   rw[d];simp[a]
  .have d:b=Zk:=by
    refine f.mpr ⟨t,O,?_,n⟩;obtain h|h|h:=Nat.lt_trichotomy i t
    .rw[k i h]at l;exact absurd l WW
    .exact absurd h a
    .exact h
   rw[d];simp[a]
theorem qv9(s:BitVec 64)(t:Nat)(l:t<64)(d:s.getLsbD t=Zk)(a:∀j,j<t->s.getLsbD j=Zl):vD s=t :: vD (s &&& (s-1#64)):=by
 unfold vD;have e:List.range 64=List.range t++(t :: (List.range' (t+1) (63-t))):=by rw[List.range_eq_range',List.range_eq_range',show 64=t+(1+(63-t))from O,<-List.range'_append_1];congr 1;rw[Z2,Nat.add_comm 1 (63-t),List.range'_succ]
 rw[e,YJ,YJ,List.filter_cons,List.filter_cons];have g:(List.range t).filter (λi=>s.getLsbD i)=[]:=by rw[X1];intro j b;rw[a j (qK.mp b)];simp
 have h:(List.range t).filter (λi=>(s &&& (s-1#64)).getLsbD i)=[]:=by rw[X1];intro j b;have f:=qK.mp b;rw[qxa s t d a j O,a j f];simp
 have k:(s &&& (s-1#64)).getLsbD t=Zl:=by rw[qxa s t d a t l];simp
 rw[g,h,d,k];simp only[Wj,YS,qR,YH];congr 1;apply List.filter_congr;intro j b;have:t+1<=j/\j<64:=by have:=List.mem_range'_1.mp b;omega
 rw[qxa s t d a j this.2];have:Zm (j=t)=Zl:=WX;rw[this];simp
theorem qv8:vD 0#64=[]:=WS
theorem Em(s:BitVec 64)(t:Nat)(b:s.getLsbD t=Zk)(f:∀j,j<t->s.getLsbD j=Zl):Lib.ctz 64 s.toNat=t:=by
 have d:s.toNat≠0:=λe=>by have:s=0#64:=BitVec.eq_of_toNat_eq VI;rw[this]at b;simp at b
 unfold Lib.ctz;rw[qF d];obtain⟨m,e,g⟩:=Lib.ctzFrom_spec 64 s.toNat O s.isLt;generalize Lib.ctzFrom 64 s.toNat=c at e g;have a:∀j,s.getLsbD j=Zm (s.toNat/2 ^ j%2=1):=λj=>by rw[BitVec.getLsbD,Nat.testBit_eq_decide_div_mod_eq]
 obtain h|h|h:=Nat.lt_trichotomy c t
 .have:=f c h;rw[a c,e,Nat.mul_div_cancel_left _ (Nat.two_pow_pos c)]at this;simp at this
 .exact h
 .rw[a t,e]at b;rw[show 2 ^ c*(2*m+1)=2 ^ t*(2*(2 ^ (c-t-1)*(2*m+1)))from by rw[show c=t+(1+(c-t-1))from O,Nat.pow_add,Nat.pow_add,show t+(1+(c-t-1))-t-1=c-t-1 from O];simp[Nat.mul_assoc]]at b;rw[Nat.mul_div_cancel_left _ (Nat.two_pow_pos t)]at b;simp at b
def ym(x:Nat):BitVec 64:=72340172838076673#64 <<< (x%8)
def yl(x:Nat):BitVec 64:=255#64 <<< (8*(x/8))
def pR(x:Nat):BitVec 64:=if x/8<x%8 then 9241421688590303745#64 >>> (8*(x%8-x/8))else 9241421688590303745#64 <<< (8*(x/8-x%8))
def pW(x:Nat):BitVec 64:=if x/8+x%8<7 then 72624976668147840#64 >>> (8*(7-(x/8+x%8)))else 72624976668147840#64 <<< (8*(x/8+x%8-7))
def E4(x:Nat):BitVec 64:=BitVec.ofInt 64 (yL 1 x 0)
def FX(x:Nat):BitVec 64:=BitVec.ofInt 64 (yL 2 x 0)
def GN(x:Nat):BitVec 64:=BitVec.ofInt 64 (uZ (v6 x))
def GP(x:Nat):BitVec 64:=BitVec.ofInt 64 (lG (v6 x))
theorem Eg:∀x,x<64->DK ((x:Nat):Int)=U (ym x):=WS
theorem Dn:∀x,x<64->C7 ((x:Nat):Int)=U (yl x):=WS
theorem Fi:∀x,x<64->Fj ((x:Nat):Int)=U (pR x):=WS
theorem G6:∀x,x<64->G7 ((x:Nat):Int)=U (pW x):=WS
theorem wp_U:∀x,x<64->yE (pT (uR (v6 ((x:Nat):Int))) (uN (v6 ((x:Nat):Int)))) 1=U (E4 x):=WS
theorem bp_U:∀x,x<64->yE (pT (uR (v6 ((x:Nat):Int))) (uN (v6 ((x:Nat):Int)))) (-1)=U (FX x):=WS
theorem kn_U:∀x,x<64->uZ (v6 ((x:Nat):Int))=U (GN x):=WS
theorem ki_U:∀x,x<64->lG (v6 ((x:Nat):Int))=U (GP x):=WS
def jT(x:Nat)(t:BitVec 64):BitVec 64:=vt (ym x) x t ||| vt (yl x) x t
def vX(x:Nat)(t:BitVec 64):BitVec 64:=vt (pR x) x t ||| vt (pW x) x t
theorem qz6(x:Nat)(a:x<64)(t:BitVec 64):kA (x:Int) (U t)=U (jT x t):=by unfold kA jT pT;rw[Eg x a,Dn x a,qk2 _ x a,qk2 _ x a,uQ]
theorem ia(x:Nat)(a:x<64)(t:BitVec 64):uC (x:Int) (U t)=U (vX x t):=by unfold uC vX pT;rw[Fi x a,G6 x a,qk2 _ x a,qk2 _ x a,uQ]
def jW(k x:Nat)(t:BitVec 64):BitVec 64 :=
 if k=1 then E4 x else if k=2 then FX x else if k=3 then GN x else if k=4 then vX x t
 else if k=5 then jT x t else if k=6 then vX x t ||| jT x t else if k=7 then GP x else 0#64
theorem ik(k x:Nat)(d:1<=k)(e:k<=7)(a:x<64)(t:BitVec 64):yL (k:Int) (x:Int) (U t)=U (jW k x t):=by
 have b:k=1\/k=2\/k=3\/k=4\/k=5\/k=6\/k=7:=O;unfold yL jW;obtain rfl|rfl|rfl|rfl|rfl|rfl|rfl:=b
 .exact wp_U x a
 .exact bp_U x a
 .exact kn_U x a
 .exact ia x a t
 .exact qz6 x a t
 .show pT (uC (x:Int) (U t)) (kA (x:Int) (U t))=U (vX x t ||| jT x t);rw[ia x a,qz6 x a];exact uQ _ _
 .exact ki_U x a
theorem tK:∀x,x<64->∀y,y<64->(ym x).getLsbD y=Zk->ym y=ym x:=WS
theorem rf:∀x,x<64->∀y,y<64->(yl x).getLsbD y=Zk->yl y=yl x:=WS
theorem Aq:∀x,x<64->∀y,y<64->(pR x).getLsbD y=Zk->pR y=pR x:=WS
theorem CG:∀x,x<64->∀y,y<64->(pW x).getLsbD y=Zk->pW y=pW x:=WS
theorem tL:∀x,x<64->(ym x).getLsbD x=Zk:=WS
theorem rg:∀x,x<64->(yl x).getLsbD x=Zk:=WS
theorem Ar:∀x,x<64->(pR x).getLsbD x=Zk:=WS
theorem CH:∀x,x<64->(pW x).getLsbD x=Zk:=WS
theorem EM:∀x,x<64->∀y,y<64->(GN x).getLsbD y=(GN y).getLsbD x:=WS
theorem EN:∀x,x<64->∀y,y<64->(GP x).getLsbD y=(GP y).getLsbD x:=WS
theorem bY:∀x,x<64->∀y,y<64->(E4 x).getLsbD y=(FX y).getLsbD x:=WS
theorem qv1(L:I8)(k:∀x,x<64->∀y,y<64->(L x).getLsbD y=Zk->L y=L x)(j:∀x,x<64->(L x).getLsbD x=Zk)(x y:Nat)(a:x<64)(b:y<64)(t:BitVec 64)
 (h:(vt (L x) x t).getLsbD y=Zk):(vt (L y) y t).getLsbD x=Zk:=by obtain⟨d,f,i⟩:=(qz0 _ x a t y b).mp h;have e:=k x a y b d;rw[e];exact(qz0 _ y b t x a).mpr ⟨j x a,λg=>f g.symm,λz l=>i z O⟩
theorem qja(L:I8)(b:∀x,x<64->∀y,y<64->(L x).getLsbD y=Zk->L y=L x)(a:∀x,x<64->(L x).getLsbD x=Zk)(x y:Nat)(d:x<64)(e:y<64)(t:BitVec 64) :
 (vt (L x) x t).getLsbD y=(vt (L y) y t).getLsbD x:=by rw[YW];exact⟨qv1 L b a x y d e t,qv1 L b a y x e d t⟩
theorem qjo(x y:Nat)(a:x<64)(b:y<64)(t:BitVec 64):(jT x t).getLsbD y=(jT y t).getLsbD x:=by unfold jT;rw[Yx,Yx,qja ym tK tL x y a b,qja yl rf rg x y a b]
theorem pq(x y:Nat)(a:x<64)(b:y<64)(t:BitVec 64):(vX x t).getLsbD y=(vX y t).getLsbD x:=by unfold vX;rw[Yx,Yx,qja pR Aq Ar x y a b,qja pW CG CH x y a b]
theorem px(k x y:Nat)(e:3<=k)(f:k<=7)(a:x<64)(b:y<64)(t:BitVec 64):(jW k x t).getLsbD y=(jW k y t).getLsbD x:=by
 have d:k=3\/k=4\/k=5\/k=6\/k=7:=O;obtain rfl|rfl|rfl|rfl|rfl:=d
 .exact EM x a y b
 .exact pq x y a b t
 .exact qjo x y a b t
 .show(vX x t ||| jT x t).getLsbD y=(vX y t ||| jT y t).getLsbD x;rw[Yx,Yx,pq x y a b,qjo x y a b]
 .exact EN x a y b
def sg(n:Int):Int:=if 0<n then 1 else if n<0 then -1 else 0
def ab(n:Int):Int:=if n<0 then -n else n
def freeI(f:Nat->Int)(p:Nat->Int)(L:Nat):Bool:=Zm (∀i,i<L->1<=i->f (p i).toNat=46)
def pI(x y:Int)(i:Nat):Int:=x+(i:Int)*(8*sg (y/8-x/8)+sg (y%8-x%8))
def LI(x y:Int):Nat:=max (ab (y/8-x/8)).toNat (ab (y%8-x%8)).toNat
def yg(x y:Int):Bool:=(ab (y%8-x%8)==ab (y/8-x/8))&&Zm (0<ab (y%8-x%8))
def yd(x y:Int):Bool:=(y%8-x%8==0) != (y/8-x/8==0)
def xS(f:Nat->Int)(k:Nat)(side x y:Int):Bool :=
 if k=0 then(ab (y%8-x%8)==1)&&(y/8-x/8==side)
 else if k=1 then ab (y%8-x%8)*ab (y/8-x/8)==2
 else if k=2 then yg x y&&freeI f (pI x y) (LI x y)
 else if k=3 then yd x y&&freeI f (pI x y) (LI x y)
 else if k=4 then(yd x y||yg x y)&&freeI f (pI x y) (LI x y)
 else Zm (ab (y%8-x%8)<=1)&&Zm (ab (y/8-x/8)<=1)&&Zm (0<ab (y%8-x%8)+ab (y/8-x/8))
theorem sV:∀x,x<64->∀y,y<64->(yd ((x:Nat):Int) ((y:Nat):Int)||yg ((x:Nat):Int) ((y:Nat):Int))=Zk →
 (Zm (1<=LI (x:Int) (y:Int))&&Zm (pI (x:Int) (y:Int) (LI (x:Int) (y:Int))=(y:Int))&&(List.range (LI (x:Int) (y:Int)+1)).all (λi=>Zm (0<=pI (x:Int) (y:Int) i)&&Zm (pI (x:Int) (y:Int) i<=63)
  && (Zm (i=0)||decide (LI (x:Int) (y:Int)<=i)||!decide (pI (x:Int) (y:Int) i=(y:Int)))))=Zk:=WS
theorem Fz(x y:Int)(h:0<=x)(l:x<=63)(j:0<=y)(m:y<=63)(k:yd x y=Zk\/yg x y=Zk) :
 1<=LI x y/\pI x y (LI x y)=y/\∀i,i<=LI x y->0<=pI x y i/\pI x y i<=63/\(1<=i->i<LI x y->pI x y i≠y):=by
 obtain⟨a,rfl⟩:=Yt h;obtain⟨b,rfl⟩:=Yt j;have:=sV a O b O (by rw[Ym];exact k);rw[qH,qH,qW,qG,qG]at this;obtain⟨⟨d,e⟩,f⟩:=this;refine⟨d,e,λi n=>?_⟩;have g:=f i (qK.mpr O);rw[qH,qH,Ym,Ym,qG,qG,qG,qG,YK,qX]at g;refine⟨g.1.1,g.1.2,λo p=>?_⟩;obtain(g|g)|g:=g.2
 .omega
 .omega
 .exact g
theorem Dp(x y:Int)(a:0<=x)(b:x<=63)(d:0<=y)(e:y<=63)(g:yd x y=Zk\/yg x y=Zk):∀i,i<=LI x y->0<=pI x y i/\pI x y i<=63 :=
 λi f=>⟨((Fz x y a b d e g).2.2 i f).1,((Fz x y a b d e g).2.2 i f).2.1⟩
def fT(t:BitVec 64)(z:Nat):Int:=if t.getLsbD z then 80 else 46
def kR(k:Nat):Nat:=if k<=2 then 0 else k-2
def sR(k:Nat):Int:=if k<=2 then 3-2*(k:Int)else 1
def eV(k:Nat)(x:Int)(t:BitVec 64)(y:Nat):Bool:=xS (fT t) (kR k) (sR k) x (y:Int)
def ao(g:Nat->Bool):Nat->Nat
 | 0=>0
 | j+1=>2*ao g j+(if g (63-j)then 1 else 0)
theorem am(g:Nat->Bool):∀j,j<=64->∀i,i<j->(ao g j).testBit i=g (64-j+i)
 | 0,_,i,h=>by omega
 | j+1,hj,i,h=>by
  cases i with
  | zero =>
   rw[Nat.testBit_zero];unfold ao;rw[show 64-(j+1)+0=63-j from O];cases g (63-j)<;>simp<;>omega
  | succ i =>
   have a:=am g j O i O;rw[Nat.testBit_succ];rw[show ao g (j+1)/2=ao g j from by show(2*ao g j+(if g (63-j)then 1 else 0))/2=ao g j;split<;>omega,a]
   congr 1;omega
def Dl(k:Nat)(x:Int)(t:BitVec 64):BitVec 64:=BitVec.ofNat 64 (ao (eV k x t) 64)
theorem bW(k:Nat)(x:Int)(t:BitVec 64)(y:Nat)(a:y<64):(Dl k x t).getLsbD y=eV k x t y:=by unfold Dl;rw[BitVec.getLsbD_ofNat,am _ 64 Zy y a];simp[a]
def btw(x y z:Nat):Bool:=Zm (x<z/\z<y\/y<z/\z<x)
def uD(l:BitVec 64)(x y:Nat):Bool :=
 !(l.getLsbD y&&!decide (y=x))||((yd (x:Int) (y:Int)||yg (x:Int) (y:Int))&&(List.range (LI (x:Int) (y:Int))).all (λi=>Zm (i=0)||btw x y (pI (x:Int) (y:Int) i).toNat&&l.getLsbD (pI (x:Int) (y:Int) i).toNat)
  && (List.range 64).all (λz=>!(btw x y z&&l.getLsbD z)||(List.range (LI (x:Int) (y:Int))).any (λi=>!decide (i=0)&&Zm ((pI (x:Int) (y:Int) i).toNat=z))))
theorem CF:∀x,x<64->∀y,y<64->uD (ym x) x y=Zk:=WS
theorem Ax:∀x,x<64->∀y,y<64->uD (yl x) x y=Zk:=WS
theorem Dj:∀x,x<64->∀y,y<64->uD (pR x) x y=Zk:=WS
theorem Eh:∀x,x<64->∀y,y<64->uD (pW x) x y=Zk:=WS
theorem Ff:∀x,x<64->∀y,y<64->yd ((x:Nat):Int) ((y:Nat):Int)=((ym x).getLsbD y&&!decide (y=x)||(yl x).getLsbD y&&!decide (y=x)):=WS
theorem Fg:∀x,x<64->∀y,y<64->yg ((x:Nat):Int) ((y:Nat):Int)=((pR x).getLsbD y&&!decide (y=x)||(pW x).getLsbD y&&!decide (y=x)):=WS
theorem oL:∀x,x<64->∀y,y<64->(E4 x).getLsbD y=((ab (((y:Nat):Int)%8-((x:Nat):Int)%8)==1)&&((y:Int)/8-x/8==1)):=WS
theorem wE:∀x,x<64->∀y,y<64->(FX x).getLsbD y=((ab (((y:Nat):Int)%8-((x:Nat):Int)%8)==1)&&((y:Int)/8-x/8==-1)):=WS
theorem GM:∀x,x<64->∀y,y<64->(GN x).getLsbD y=(ab (((y:Nat):Int)%8-((x:Nat):Int)%8)*ab ((y:Int)/8-x/8)==2):=WS
theorem GO:∀x,x<64->∀y,y<64->(GP x).getLsbD y=(Zm (ab (((y:Nat):Int)%8-((x:Nat):Int)%8)<=1)&&Zm (ab ((y:Int)/8-x/8)<=1)&&Zm (0<ab ((y:Int)%8-x%8)+ab ((y:Int)/8-x/8))):=WS
theorem tO(t:BitVec 64)(z:Nat):fT t z=46↔t.getLsbD z=Zl:=by unfold fT;cases t.getLsbD z<;>simp
theorem qq7(l:BitVec 64)(x:Nat)(o:x<64)(t:BitVec 64)(y:Nat)(p:y<64)(ok:uD l x y=Zk) :
 (vt l x t).getLsbD y=((l.getLsbD y&&!decide (y=x))&&freeI (fT t) (pI (x:Int) (y:Int)) (LI (x:Int) (y:Int))):=by
 rw[YW,qz0 l x o t y p];unfold uD at ok;unfold freeI;by_cases h:(l.getLsbD y&&!decide (y=x))=Zk
 .rw[h]at ok |-;rw[Bool.not_true,Xo,qH,qH,qW,qW]at ok;obtain⟨⟨_,r⟩,u⟩:=ok;rw[Xc,qG];rw[qH,YK,qX]at h;constructor
  .rintro⟨_,_,g⟩ i f v;have:=r i (qK.mpr f);rw[Ym,qG,qH]at this;obtain e|⟨j,k⟩:=this
   .omega
   .rw[tO];exact g _ (q8 j) k
  .intro g;refine⟨h.1,h.2,λz q n=>?_⟩;have:=u z (qK.mpr O);have m:btw x y z=Zk:=qJ q;rw[m,n,Xc,Bool.not_true,Xo,qY]at this;obtain⟨i,f,e⟩:=this;rw[qH,YK,qX,qG]at e;have:=g i (qK.mp f) O;rw[e.2,tO]at this;exact this
 .have d:(l.getLsbD y&&!decide (y=x))=Zl:=Vq;rw[d];simp only[XK,qR,iff_false];rintro⟨a,b,_⟩;rw[a]at d;simp at d;exact b d
theorem bN(x:Nat)(a:x<64)(t:BitVec 64)(y:Nat)(b:y<64) :
 (vX x t).getLsbD y=(yg (x:Int) (y:Int)&&freeI (fT t) (pI (x:Int) (y:Int)) (LI (x:Int) (y:Int))):=by grind[vX,qq7,Dj,Eh,Fg,pR,pW,freeI,fT,pI]
theorem qj3(x:Nat)(a:x<64)(t:BitVec 64)(y:Nat)(b:y<64) :
 (jT x t).getLsbD y=(yd (x:Int) (y:Int)&&freeI (fT t) (pI (x:Int) (y:Int)) (LI (x:Int) (y:Int))):=by grind[jT,qq7,CF,Ax,Ff,ym,yl,freeI,fT,pI]
theorem mI(k x:Nat)(e:1<=k)(f:k<=7)(b:x<64)(t:BitVec 64):jW k x t=Dl k (x:Int) t:=by
 apply XF;intro y a;rw[bW k _ t y a];have d:k=1\/k=2\/k=3\/k=4\/k=5\/k=6\/k=7:=O;obtain rfl|rfl|rfl|rfl|rfl|rfl|rfl:=d
 .exact oL x b y a
 .exact wE x b y a
 .exact GM x b y a
 .exact bN x b t y a
 .exact qj3 x b t y a
 .show(vX x t ||| jT x t).getLsbD y=((yd (x:Int) (y:Int)||yg (x:Int) (y:Int))&&freeI (fT t) (pI (x:Int) (y:Int)) (LI (x:Int) (y:Int)));rw[Yx,bN x b t y a,qj3 x b t y a];cases yd (x:Int) (y:Int)<;>cases yg (x:Int) (y:Int)<;>cases freeI (fT t) (pI (x:Int) (y:Int)) (LI (x:Int) (y:Int))<;>rfl
 .exact GO x b y a
end Go.Proofs.YtnfakamfmkhlbabGreatDoor.P
