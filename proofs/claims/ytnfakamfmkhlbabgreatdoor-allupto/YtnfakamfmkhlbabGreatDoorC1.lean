import Derived.Test.YtnfakamfmkhlbabGreatDoorA1
set_option maxRecDepth 100000
set_option maxHeartbeats 4000000
set_option linter.all false
open Go.Value renaming int->I,bool->Za,string->Zb,agg->Zc,tuple->Ze,slice->Zq
open Go.IntKind renaming i64->L,u8->Zg,u64->Zh,wrap->a_
open Go.Obj renaming cells->Z
open Go.Ending renaming returned->Zd
open Or renaming inl->Zi,inr->Zj
open Option renaming some->S,none->N
open Bool renaming true->Zk,false->Zl
open Decidable renaming decide->Zm
open Go.RowKit renaming Hid->Y
open Go renaming World->I6,Value->I7,Calls->i_,undef->m_
open Go.Proofs.Tryz renaming zeroCells70->b_,prog->c_
open Go.Lib renaming decDigits->d_,indexByte->e_,join->f_,cut->g_
open List renaming range->h_
open UInt8 renaming ofNat->j_
open Go.Op renaming stringOp->k_
open Go.Instr renaming index->l_
open Go.Code renaming wp->n_
namespace Go.Proofs.YtnfakamfmkhlbabGreatDoor.C
open Go.ChangeShapes Go.WideShapes Go.ChangeAt Go.RowKit Go.Shelf Tryz
variable {z:I2}{wh:Bool}{b h m:Int}{PA A M:I0}{fc:I5}{w W a w' w1 V:I6}{f n i k g base d e l j x B Bp:Nat}{v:I7}{u:UInt8}{Q:Nat->Obj->Prop}{rs:I3}{y:I1}
def qB:type_of% @Array.getElem?_eq_some_iff:=@Array.getElem?_eq_some_iff
theorem qE:type_of% @decide_eq_false:=@decide_eq_false
def qF:type_of% @if_neg:=@if_neg
def qI:type_of% @if_pos:=@if_pos
def qG:type_of% @decide_eq_true_eq:=@decide_eq_true_eq
def qH:type_of% @Bool.and_eq_true:=@Bool.and_eq_true
theorem qJ:type_of% @decide_eq_true:=@decide_eq_true
theorem qK:type_of% @List.mem_range:=@List.mem_range
def qL:type_of% @Nat.le_refl:=@Nat.le_refl
def qN:type_of% @Nat.lt_of_lt_of_le:=@Nat.lt_of_lt_of_le
theorem qM:type_of% @beq_eq_false_iff_ne:=@beq_eq_false_iff_ne
def qO:type_of% @Array.getElem?_toList:=@Array.getElem?_toList
def qP:type_of% @S.inj:=@S.inj
def qQ:type_of% @Array.getElem?_eq_getElem:=@Array.getElem?_eq_getElem
theorem qR:type_of% @Bool.false_eq_true:=@Bool.false_eq_true
def qS:type_of% @List.append_assoc:=@List.append_assoc
def qT:type_of% @List.mem_singleton:=@List.mem_singleton
def qU:type_of% @bne_iff_ne:=@bne_iff_ne
theorem qV:type_of% @List.mem_filter:=@List.mem_filter
theorem qW:type_of% @List.all_eq_true:=@List.all_eq_true
theorem qX:type_of% @decide_eq_false_iff_not:=@decide_eq_false_iff_not
theorem qY:type_of% @List.any_eq_true:=@List.any_eq_true
theorem qZ:type_of% @List.length_append:=@List.length_append
def q7:type_of% @Nat.le_trans:=@Nat.le_trans
def q8:type_of% @of_decide_eq_true:=@of_decide_eq_true
def q6:type_of% @UInt8.toNat_inj:=@UInt8.toNat_inj
def xo{k:IntKind}{a b:Int}(h:a=b):Zd (I k a)=Zd (I k b):=by rw[h]
def Gr(w w':I6):Prop:=Below w.heap.size w w'
def Gr.refl(w:I6):Gr w w:=Below.refl _ _
def q_:type_of% @Gr.refl:=@Gr.refl
def Gr.trans{a b c:I6}(h:Gr a b)(k:Gr b c):Gr a c:=u_ h (Below.mono k (Below.size h))
def o_:type_of% @Gr.trans:=@Gr.trans
def Gr.alloc{a b:I6}(h:Gr a b)(c:I0)(t:TypeId):Gr a (b.alloc (Z c t)):=Below.alloc h (Below.size h) _
def Gr.drew{a b:I6}(h:Gr a b):Gr a b.drew:=Below.drew h
def Gr.below{a b:I6}(h:Gr a b):Below a a b:=h
def ZN{w:I6}{c:I0}{t:TypeId}:Gr w (w.alloc (Z c t)):=(q_ w).alloc c t
def Gr.al{a b:I6}{c:I0}{t:TypeId}(h:Gr a b):Gr a (b.alloc (Z c t)):=h.alloc c t
def ZO{w:I6}:Gr w w:=q_ w
def X{p:Prop}(h:p):Y p:=h
def qa{p:Prop}(h:Y p):p:=h
def v6(x:Int):Int:=a_ Zh (2^x.toNat)
def uR(x:Int):Int:=bits .andNot Zh (x/2) 9259542123273814144
def uN(x:Int):Int:=bits .andNot Zh (a_ Zh (x*2)) 72340172838076673
def K_(x r:Int):Int:=if r<0 then x/2^(-8*r).toNat else a_ Zh (x*2^(8*r).toNat)
def rv1(x:Int):Int:=bits .or Zh (bits .and Zh (x/2) 6148914691236517205) (a_ Zh (bits .and Zh x 6148914691236517205*2))
def rv2(x:Int):Int:=bits .or Zh (bits .and Zh (x/4) 3689348814741910323) (a_ Zh (bits .and Zh x 3689348814741910323*4))
def rv4(x:Int):Int:=bits .or Zh (bits .and Zh (x/16) 1085102592571150095) (a_ Zh (bits .and Zh x 1085102592571150095*16))
def rv8(x:Int):Int:=bits .or Zh (bits .and Zh (x/256) 71777214294589695) (a_ Zh (bits .and Zh x 71777214294589695*256))
def Dg(x:Int):Int:=bits .or Zh (bits .and Zh (x/65536) 281470681808895) (a_ Zh (bits .and Zh x 281470681808895*65536))
def Df(x:Int):Int:=bits .or Zh (x/4294967296) (a_ Zh (x*4294967296))
def eT(x:Int):Int:=Df (Dg (rv8 (rv4 (rv2 (rv1 x)))))
def pT(a b:Int):Int:=bits .or Zh a b
def EG(l x t:Int):Int:=bits .and Zh (bits .andNot Zh l (v6 x)) t
def yr(l x t:Int):Int:=bits .and Zh (bits .xor Zh (a_ Zh (EG l x t-v6 x)) (eT (a_ Zh (eT (EG l x t)-eT (v6 x))))) (bits .andNot Zh l (v6 x))
def uZ(x:Int):Int:=pT (pT (pT (K_ (pT (uR x) (uN x)) 2) (K_ (pT (uR x) (uN x)) (-2))) (K_ (pT (uR (uR x)) (uN (uN x))) 1)) (K_ (pT (uR (uR x)) (uN (uN x))) (-1))
def Di(x:Int):Int:=pT (pT (uR x) x) (uN x)
def lG(x:Int):Int:=bits .andNot Zh (pT (pT (K_ (Di x) 1) (Di x)) (K_ (Di x) (-1))) x
def DK(x:Int):Int:=a_ Zh (72340172838076673*2^(x%8).toNat)
def C7(x:Int):Int:=K_ 255 (x/8)
def Fj(x:Int):Int:=K_ 9241421688590303745 (x/8-x%8)
def G7(x:Int):Int:=K_ 72624976668147840 (x/8+x%8-7)
def kA(x t:Int):Int:=pT (yr (DK x) x t) (yr (C7 x) x t)
def uC(x t:Int):Int:=pT (yr (Fj x) x t) (yr (G7 x) x t)
def yL(k x t:Int):Int:=
 if k=1 then K_ (pT (uR (v6 x)) (uN (v6 x))) 1
 else if k=2 then K_ (pT (uR (v6 x)) (uN (v6 x))) (-1)
 else if k=3 then uZ (v6 x)
 else if k=4 then uC x t
 else if k=5 then kA x t
 else if k=6 then pT (uC x t) (kA x t)
 else if k=7 then lG (v6 x)
 else 0
def U(b:BitVec 64):Int:=(b.toNat:Int)
def aq(b:BitVec 64):0<=U b:=Int.natCast_nonneg _
def HE(b:BitVec 64):U b<18446744073709551616:=by unfold U;have:=b.isLt;omega
def pE{a b:BitVec 64}(h:U a=U b):a=b:=by apply BitVec.eq_of_toNat_eq;unfold U at h;omega
def qbU(x:Int)(a:0<=x)(b:x<18446744073709551616):U (BitVec.ofInt 64 x)=x:=by rw[U,BitVec.toNat_ofInt];have:x%((2^64:Nat):Int)=x:=Int.emod_eq_of_lt a VE;rw[this];omega
def jh(b:BitVec 64):BitVec.ofInt 64 (U b)=b:=by apply pE;exact qbU _ (aq b) (HE b)
def gv(b:BitVec 64):a_ Zh (U b)=U b:=by rw[IntKind.wrap_u64];exact Int.emod_eq_of_lt (aq b) (HE b)
def im(a b:BitVec 64):bits .and Zh (U a) (U b)=U (a&&&b):=by show a_ Zh ((BitVec.ofInt 64 (U a)&&&BitVec.ofInt 64 (U b)).toNat:Int)=_;rw[jh,jh];exact gv _
def uQ(a b:BitVec 64):bits .or Zh (U a) (U b)=U (a|||b):=by show a_ Zh ((BitVec.ofInt 64 (U a)|||BitVec.ofInt 64 (U b)).toNat:Int)=_;rw[jh,jh];exact gv _
def oF(a b:BitVec 64):bits .xor Zh (U a) (U b)=U (a ^^^ b):=by show a_ Zh ((BitVec.ofInt 64 (U a) ^^^ BitVec.ofInt 64 (U b)).toNat:Int)=_;rw[jh,jh];exact gv _
def qk1(a b:BitVec 64):bits .andNot Zh (U a) (U b)=U (a&&&~~~b):=by show a_ Zh ((BitVec.ofInt 64 (U a)&&&~~~BitVec.ofInt 64 (U b)).toNat:Int)=_;rw[jh,jh];exact gv _
def bJ(a b:BitVec 64):a_ Zh (U a-U b)=U (a-b):=by rw[IntKind.wrap_u64];unfold U;rw[BitVec.toNat_sub];have:=b.isLt;omega
theorem rE(a:BitVec 64)(k:Nat):U a/((2^k:Nat):Int)=U (a>>>k):=by unfold U;rw[BitVec.toNat_ushiftRight,Nat.shiftRight_eq_div_pow];exact(Int.natCast_ediv _ _).symm
theorem qaW(a:BitVec 64)(k:Nat):a_ Zh (U a*((2^k:Nat):Int))=U (a<<<k):=by rw[IntKind.wrap_u64];unfold U;rw[BitVec.toNat_shiftLeft,Nat.shiftLeft_eq];omega
def yK(m:BitVec 64)(k:Nat)(x:BitVec 64):BitVec 64:=(x>>>k&&&m)|||((x&&&m)<<<k)
def pV(k i:Nat):Nat:=if i/k%2=0 then i+k else i-k
def zz(m:BitVec 64)(k:Nat)(b:k=1\/k=2\/k=4\/k=8\/k=16\/k=32)(d:∀i,i<64->m.getLsbD i=Zm (i/k%2=0))(x:BitVec 64)(i:Nat)(a:i<64):(yK m k x).getLsbD i=x.getLsbD (pV k i):=by
 have j:=d i a;have l:=d (i-k) O;have n:i/k%2=0->i<k\/(i-k)/k%2≠0:=Ox;have o:i/k%2≠0->¬i<k/\(i-k)/k%2=0:=Ox;unfold yK pV;simp only[Yx,Yl,BitVec.getLsbD_ushiftRight,BitVec.getLsbD_shiftLeft,j,l];by_cases e:i/k%2=0
 .rw[qI e];obtain g|g:=n e
  .simp[e,g,Nat.add_comm]
  simp[e,g,Nat.add_comm]
 rw[qF e];obtain⟨f,h⟩:=o e;simp[e,f,h,a]
def rG(c:Int)(m:BitVec 64)(a:c=U m)(k:Nat)(p:Int)(b:p=((2^k:Nat):Int))(x:BitVec 64):bits .or Zh (bits .and Zh (U x/p) c) (a_ Zh (bits .and Zh (U x) c*p))=U (yK m k x):=by rw[a,b,rE,im,im,qaW,uQ];rfl
def pS(x:BitVec 64):BitVec 64:=yK 4294967295#64 32 (yK 281470681808895#64 16 (yK 71777214294589695#64 8 (yK 1085102592571150095#64 4 (yK 3689348814741910323#64 2 (yK 6148914691236517205#64 1 x)))))
def mD(x:BitVec 64):(x>>>32)|||(x<<<32)=yK 4294967295#64 32 x:=by
 apply XF;intro i h;have a:∀i,i<64->(4294967295#64).getLsbD i=Zm (i/32%2=0):=WS;unfold yK;have f:=a i h;have g:=a (i-32) O;simp only[Yx,Yl,BitVec.getLsbD_ushiftRight,BitVec.getLsbD_shiftLeft,f,g];by_cases e:i<32
 .have:i/32%2=0:=O;simp[e,this]
 have b:i/32%2=1:=O;have d:(i-32)/32%2=0:=O;simp[e,b,d,BitVec.getLsbD_of_ge x (32+i) O]
def rR(x:BitVec 64):eT (U x)=U (pS x):=by unfold eT pS rv1 rv2 rv4 rv8 Dg Df;rw[rG 6148914691236517205 6148914691236517205#64 WS 1 2 WW];rw[rG 3689348814741910323 3689348814741910323#64 WS 2 4 WW];rw[rG 1085102592571150095 1085102592571150095#64 WS 4 16 WW];rw[rG 71777214294589695 71777214294589695#64 WS 8 256 WW];rw[rG 281470681808895 281470681808895#64 WS 16 65536 WW];rw[show(4294967296:Int)=((2^32:Nat):Int)from WW,rE,qaW,uQ,mD]
def G5:∀i,i<64->pV 1 (pV 2 (pV 4 (pV 8 (pV 16 (pV 32 i)))))=63-i:=WS
def Fk(k i:Nat)(a:k=1\/k=2\/k=4\/k=8\/k=16\/k=32)(b:i<64):pV k i<64:=by unfold pV;rcases a with rfl|rfl|rfl|rfl|rfl|rfl<;>split<;>omega
def qju(x:BitVec 64)(i:Nat)(a:i<64):(pS x).getLsbD i=x.getLsbD (63-i):=by
 rw[<-G5 i a];have f:=Fk 32 i O a;have e:=Fk 16 _ O f;have d:=Fk 8 _ O e;have b:=Fk 4 _ O d;have g:=Fk 2 _ O b;rw[pS,zz _ 32 O WS _ _ a,zz _ 16 O WS _ _ f,zz _ 8 O WS _ _ e,
  zz _ 4 O WS _ _ d,zz _ 2 O WS _ _ b,zz _ 1 O WS _ _ g]
def qzl:∀x,x<64->∀j,j<64->(-(1#64<<<x)).getLsbD j=Zm (x<=j):=WS
theorem qx6(m:BitVec 64)(x:Nat)(f:x<64):∀i,i<=64->(BitVec.carry i m (-(1#64<<<x)) Zl=Zk↔∃z,x<=z/\z<i/\m.getLsbD z=Zk)
 | 0,_=>by
  simp[BitVec.carry_zero]
 | i+1,hi=>by
  have j:=qx6 m x f i O;rw[BitVec.carry_succ,qzl x f i O];by_cases g:x<=i
  .simp only[g,decide_true,Bool.atLeastTwo_true_mid,Ym,j];constructor
   .rintro(h|⟨z,b,d,a⟩)
    .exact⟨i,g,O,h⟩
    exact⟨z,b,O,a⟩
   rintro⟨z,b,d,a⟩;by_cases e:z=i
   .subst e;exact Zi a
   exact Zj ⟨z,b,O,a⟩
  have:BitVec.carry i m (-(1#64<<<x)) Zl=Zl:=by
   cases k:BitVec.carry i m (-(1#64<<<x)) Zl with
   | false=>rfl
   | true=>obtain⟨z,b,d,a⟩:=j.mp k;omega
  simp only[g,decide_false,this,Bool.atLeastTwo_false_mid,XU,qR,false_iff,not_exists];rintro z ⟨b,d,a⟩;omega
def dE(m:BitVec 64)(x:Nat)(b:x<64)(j:Nat)(a:j<64):(m-1#64<<<x).getLsbD j=(m.getLsbD j ^^ (Zm (x<=j) ^^ BitVec.carry j m (-(1#64<<<x)) Zl)):=by rw[BitVec.sub_eq_add_neg,BitVec.getLsbD_add a,qzl x b j a]
def vt(l:BitVec 64)(x:Nat)(t:BitVec 64):BitVec 64:=(((l&&&~~~(1#64<<<x))&&&t)-1#64<<<x ^^^ pS (pS ((l&&&~~~(1#64<<<x))&&&t)-pS (1#64<<<x)))&&&(l&&&~~~(1#64<<<x))
def rp:∀x,x<64->v6 ((x:Nat):Int)=U (1#64<<<x):=WS
def Au:∀x,x<64->pS (1#64<<<x)=1#64<<<(63-x):=WS
def ze:∀x,x<64->∀j,j<64->(1#64<<<x).getLsbD j=Zm (j=x):=WS
def qk2(l:BitVec 64)(x:Nat)(a:x<64)(t:BitVec 64):yr (U l) (x:Int) (U t)=U (vt l x t):=by unfold yr EG;rw[rp x a,qk1,im,bJ,rR,rR,bJ,rR,oF,im];rfl
def qz0(l:BitVec 64)(x:Nat)(m:x<64)(t:BitVec 64)(y:Nat)(p:y<64):(vt l x t).getLsbD y=Zk↔l.getLsbD y=Zk/\y≠x/\∀z,(x<z/\z<y\/y<z/\z<x)->l.getLsbD z=Zk->t.getLsbD z=Zl:=by
 have men:∀z,z<64->((l&&&~~~(1#64<<<x))&&&t).getLsbD z=(l.getLsbD z&&!decide (z=x)&&t.getLsbD z):=by intro z q;simp only[Yl,BitVec.getLsbD_not,ze x m z q,q,decide_true,Xc]
 rw[vt,Yl,BitVec.getLsbD_xor,qju _ y p,Au x m,dE _ x m y p,dE _ (63-x) O (63-y) O,qju _ (63-y) O];rw[show 63-(63-y)=y from O];have c1:=qx6 ((l&&&~~~(1#64<<<x))&&&t) x m y O;have c2:=qx6 (pS ((l&&&~~~(1#64<<<x))&&&t)) (63-x) O (63-y) O;generalize BitVec.carry y ((l&&&~~~(1#64<<<x))&&&t) (-(1#64<<<x)) Zl=n at c1|-;generalize BitVec.carry (63-y) (pS ((l&&&~~~(1#64<<<x))&&&t)) (-(1#64<<<(63-x))) Zl=o at c2|-;have f:n=Zk↔∃z,x<z/\z<y/\l.getLsbD z=Zk/\t.getLsbD z=Zk:=by
  rw[c1];constructor
  .rintro⟨z,d,b,a⟩;rw[men z O]at a;simp only[qH,YK,qX]at a;exact⟨z,O,b,a.1.1,a.2⟩
  rintro⟨z,d,b,a,j⟩;refine⟨z,O,b,?_⟩;rw[men z O,a,j];simp;omega
 have i:o=Zk↔∃z,y<z/\z<x/\l.getLsbD z=Zk/\t.getLsbD z=Zk:=by
  rw[c2];constructor
  .rintro⟨z,d,b,a⟩;rw[qju _ z O,men (63-z) O]at a;simp only[qH,YK,qX]at a;exact⟨63-z,O,O,a.1.1,a.2⟩
  rintro⟨z,d,b,a,j⟩;refine⟨63-z,O,O,?_⟩;rw[qju _ (63-z) O,show 63-(63-z)=z from O,men z O,a,j];simp;omega
 simp only[Yl,BitVec.getLsbD_not,ze x m y p,p,decide_true,Xc];obtain h|h|h:=Nat.lt_trichotomy x y
 .have r:Zm (x<=y)=Zk:=WX;have u:Zm (63-x<=63-y)=Zl:=WX;have k:Zm (y=x)=Zl:=WX;have v:o=Zl:=by
   cases e:o with
   | false=>rfl
   | true=>obtain⟨z,d,b,_⟩:=i.mp e;omega
  rw[r,u,k,v];cases e:n with
  | true=>
   obtain⟨z,d,b,a,j⟩:=f.mp e;simp only[Bool.xor_false,qR,Bool.xor_self,XK,false_iff];rintro⟨_,_,g⟩;have:=g z (Zi ⟨d,b⟩) a;simp[j]at this
  | false=>
   have:¬ ∃z,x<z/\z<y/\l.getLsbD z=Zk/\t.getLsbD z=Zk:=λg=>(by simp[f.mpr g]at e);simp only[X3,Wl];constructor
   .intro g;refine⟨by simp at g;exact g.2,O,?_⟩;intro z q w;cases A:t.getLsbD z with
    | false=>rfl
    | true=>exact w_ ⟨z,O,O,w,A⟩ this
   rintro⟨g,_,_⟩;rw[g];cases ((l&&&~~~(1#64<<<x))&&&t).getLsbD y<;>simp
 .subst h;have k:Zm (x=x)=Zk:=WU;rw[k];simp
 have r:Zm (x<=y)=Zl:=WX;have u:Zm (63-x<=63-y)=Zk:=WX;have k:Zm (y=x)=Zl:=WX;have v:n=Zl:=by
  cases e:n with
  | false=>rfl
  | true=>obtain⟨z,d,b,_⟩:=f.mp e;omega
 rw[r,u,k,v];cases e:o with
 | true=>
  obtain⟨z,d,b,a,j⟩:=i.mp e;simp only[Bool.xor_false,qR,Bool.xor_self,XK,false_iff];rintro⟨_,_,g⟩;have:=g z (Zj ⟨d,b⟩) a;simp[j]at this
 | false=>
  have:¬ ∃z,y<z/\z<x/\l.getLsbD z=Zk/\t.getLsbD z=Zk:=λg=>by simp[i.mpr g]at e
  simp only[X3,Wl];constructor
  .intro g;refine⟨by simp at g;exact g.2,O,?_⟩;intro z q w;cases A:t.getLsbD z with
   | false=>rfl
   | true=>exact w_ ⟨z,O,O,w,A⟩ this
  rintro⟨g,_,_⟩;rw[g];cases ((l&&&~~~(1#64<<<x))&&&t).getLsbD y<;>simp
def A9(x:Int)(a:0<=x)(b:x<=63)(w:I6):i_ Tryz.prog 204 #[x] w λe w'=>e=I Zh (v6 x)/\w'=w:=by go_enter Tryz.func204,Tryz.ntmps204;exact Wz
def qkl(x:Int)(w:I6):i_ Tryz.prog 251 #[I Zh x] w λe w'=>e=I Zh (uR x)/\w'=w:=by go_enter Tryz.func251,Tryz.ntmps251;exact Wz
def qj9(x:Int)(w:I6):i_ Tryz.prog 252 #[I Zh x] w λe w'=>e=I Zh (uN x)/\w'=w:=by go_enter Tryz.func252,Tryz.ntmps252;exact Wz
def Dw(x r:Int)(w:I6)(a:-7<=r)(b:r<=7):i_ Tryz.prog 253 #[I Zh x,r] w λe w'=>e=I Zh (K_ x r)/\w'=w:=by
 by_cases h:r<0
 .go_enter Tryz.func253,Tryz.ntmps253;go_wp2;go_ret;exact⟨xo (by rw[K_,qI h]),R⟩
 have d:0<=r:=O;have f:=h;go_enter Tryz.func253,Tryz.ntmps253;go_wp2;go_ret;exact⟨xo (by rw[K_,qF O]),R⟩
def rP(x:Int)(w:I6):i_ Tryz.prog 372 #[I Zh x] w λe w'=>e=I Zh (Df (Dg (rv8 x)))/\w'=w:=by go_enter Tryz.func372,Tryz.ntmps372;exact Wz
def Av(x:Int)(w:I6):i_ Tryz.prog 365 #[I Zh x] w λe w'=>e=I Zh (eT x)/\w'=w:=by go_enter Tryz.func365,Tryz.ntmps365;go_wp2_with(go_at_call 372;apply Z1 (rP _ _));exact WB
def eJ(x:Int)(w:I6):i_ Tryz.prog 346 #[I Zh x] w λe w'=>e=I Zh (eT x)/\w'=w:=by go_enter Tryz.func346,Tryz.ntmps346;go_wp2_with(go_at_call 365;apply Z1 (Av _ _));exact WB
def gp(l x t:Int)(a:0<=x)(b:x<=63)(w:I6):i_ Tryz.prog 307 #[I Zh l,x,I Zh t] w λe w'=>e=I Zh (yr l x t)/\w'=w:=by go_enter Tryz.func307,Tryz.ntmps307;go_wp2_with(first|(go_at_call 204;refine(A9 _ a b _).mono ?_;rintro e w' ⟨rfl,rfl⟩)|(go_at_call 346;apply Z1 (eJ _ _)));exact WB
def fG(x:Int)(w:I6):i_ Tryz.prog 254 #[I Zh x] w λe w'=>e=I Zh (uZ x)/\w'=w:=by go_enter Tryz.func254,Tryz.ntmps254;exact IM
def sl(x:Int)(w:I6):i_ Tryz.prog 257 #[I Zh x] w λe w'=>e=I Zh (lG x)/\w'=w:=by go_enter Tryz.func257,Tryz.ntmps257;exact IM
def dF(x t:Int)(a:0<=x)(b:x<=63)(w:I6):i_ Tryz.prog 256 #[x,I Zh t] w λe w'=>e=I Zh (kA x t)/\w'=w:=by go_enter Tryz.func256,Tryz.ntmps256;exact IN
def l9(x t:Int)(a:0<=x)(b:x<=63)(w:I6):i_ Tryz.prog 255 #[x,I Zh t] w λe w'=>e=I Zh (uC x t)/\w'=w:=by go_enter Tryz.func255,Tryz.ntmps255;exact IN
def qjg(k x t:Int)(f:1<=k)(g:k<=7)(a:0<=x)(b:x<=63)(w:I6):i_ Tryz.prog 206 #[k,x,I Zh t] w λe w'=>e=I Zh (yL k x t)/\w'=w:=by
 have d:k=1\/k=2\/k=3\/k=4\/k=5\/k=6\/k=7:=O;obtain rfl|rfl|rfl|rfl|rfl|rfl|rfl:=d;all_goals
  go_enter Tryz.func206,Tryz.ntmps206;go_wp2_with(first|(go_at_call 204;refine(A9 _ a b _).mono ?_;rintro e w' ⟨rfl,rfl⟩)|(go_at_call 251;refine(qkl _ _).mono ?_;rintro e w' ⟨rfl,rfl⟩)|(go_at_call 252;refine(qj9 _ _).mono ?_;rintro e w' ⟨rfl,rfl⟩)|(go_at_call 253;refine(Dw _ _ _ WW WW).mono ?_;rintro e w' ⟨rfl,rfl⟩)|(go_at_call 254;refine(fG _ _).mono ?_;rintro e w' ⟨rfl,rfl⟩)|(go_at_call 257;refine(sl _ _).mono ?_;rintro e w' ⟨rfl,rfl⟩)|(go_at_call 256;refine(dF _ _ a b _).mono ?_;rintro e w' ⟨rfl,rfl⟩)|(go_at_call 255;apply Z1 (l9 _ _ a b _)));go_ret;exact⟨R,R⟩
def vD(s:BitVec 64):List Nat:=(h_ 64).filter (λi=>s.getLsbD i)
def qbi(s:BitVec 64)(i:Nat):i∈vD s↔i<64/\s.getLsbD i=Zk:=by rw[vD,qV,qK]
def qji(s:BitVec 64)(h:s≠0#64):∃t,t<64/\s.getLsbD t=Zk/\∀j,j<t->s.getLsbD j=Zl:=by
 have m:∃t,s.getLsbD t=Zk:=by
  refine Xd λd=>h ?_;apply XF;intro i p;rw[XM];cases e:s.getLsbD i with
  | false=>rfl
  | true=>exact w_ ⟨i,e⟩ d
 have:∀n t,t<=n->s.getLsbD t=Zk->∃u,s.getLsbD u=Zk/\∀j,j<u->s.getLsbD j=Zl:=by
  intro n;induction n with
  | zero=>intro t o e;exact⟨t,e,λj b=>O⟩
  | succ n ih=>
   intro t o e;by_cases f:∃j,j<t/\s.getLsbD j=Zk
   .obtain⟨j,b,l⟩:=f;exact ih j O l
   refine⟨t,e,λj b=>?_⟩;cases g:s.getLsbD j with
   | false=>rfl
   | true=>exact w_ ⟨j,b,g⟩ f
 obtain⟨t,e⟩:=m;obtain⟨u,a,k⟩:=this t t Zy e;refine⟨u,?_,a,k⟩;refine Xd λd=>?_;rw[BitVec.getLsbD_of_ge s u O]at a;exact w_ a WW
def qxa(s:BitVec 64)(t:Nat)(n:s.getLsbD t=Zk)(k:∀j,j<t->s.getLsbD j=Zl)(i:Nat)(o:i<64):(s&&&(s-1#64)).getLsbD i=(s.getLsbD i&&!decide (i=t)):=by
 have e:=dE s 0 O i o;have g:(1#64<<<0)=1#64:=WW;rw[g]at e;have f:=qx6 s 0 O i O;rw[g]at f;rw[Yl,e];generalize BitVec.carry _ _ _ _=b at f|-;have:Zm (0<=i)=Zk:=WU;rw[this];cases l:s.getLsbD i with
 | false=>simp
 | true=>
  by_cases a:i=t
  .have d:b=Zl:=by
    cases d:b with
    | false=>rfl
    | true=>
     obtain⟨z,_,p,m⟩:=f.mp d;rw[k z O]at m;exact w_ m WW
   rw[d];simp[a]
  have d:b=Zk:=by
   refine f.mpr ⟨t,O,?_,n⟩;obtain h|h|h:=Nat.lt_trichotomy i t
   .rw[k i h]at l;exact w_ l WW
   .exact w_ h a
   exact h
  rw[d];simp[a]
def qv9(s:BitVec 64)(t:Nat)(l:t<64)(d:s.getLsbD t=Zk)(a:∀j,j<t->s.getLsbD j=Zl):vD s=t::vD (s&&&(s-1#64)):=by
 unfold vD;have e:h_ 64=h_ t++(t::(List.range' (t+1) (63-t))):=by rw[List.range_eq_range',List.range_eq_range',show 64=t+(1+(63-t))from O,<-List.range'_append_1];congr 1;rw[Z2,Nat.add_comm 1 (63-t),List.range'_succ]
 rw[e,YJ,YJ,List.filter_cons,List.filter_cons];have g:(h_ t).filter (λi=>s.getLsbD i)=[]:=by rw[X1];intro j b;rw[a j (qK.mp b)];simp
 have h:(h_ t).filter (λi=>(s&&&(s-1#64)).getLsbD i)=[]:=by rw[X1];intro j b;have f:=qK.mp b;rw[qxa s t d a j O,a j f];simp
 have k:(s&&&(s-1#64)).getLsbD t=Zl:=by rw[qxa s t d a t l];simp
 rw[g,h,d,k];simp only[Wj,YS,qR,YH];congr 1;apply List.filter_congr;intro j b;have:t+1<=j/\j<64:=by have:=List.mem_range'_1.mp b;omega
 rw[qxa s t d a j this.2];have:Zm (j=t)=Zl:=WX;rw[this];simp
def qv8:vD 0#64=[]:=WS
def Em(s:BitVec 64)(t:Nat)(b:s.getLsbD t=Zk)(f:∀j,j<t->s.getLsbD j=Zl):Lib.ctz 64 s.toNat=t:=by
 have d:s.toNat≠0:=λe=>by have:s=0#64:=BitVec.eq_of_toNat_eq VI;rw[this]at b;simp at b
 rw[Lib.ctz,qF d];obtain⟨m,e,g⟩:=Lib.ctzFrom_spec 64 s.toNat O s.isLt;generalize Lib.ctzFrom _ _=c at e g;have a:∀j,s.getLsbD j=Zm (s.toNat/2^j%2=1):=λj=>by rw[BitVec.getLsbD,Nat.testBit_eq_decide_div_mod_eq]
 obtain h|h|h:=Nat.lt_trichotomy c t
 .have:=f c h;rw[a c,e,Nat.mul_div_cancel_left _ (Nat.two_pow_pos c)]at this;simp at this
 .exact h
 rw[a t,e]at b;rw[show 2^c*(2*m+1)=2^t*(2*(2^(c-t-1)*(2*m+1)))from by rw[show c=t+(1+(c-t-1))from O,Nat.pow_add,Nat.pow_add,show t+(1+(c-t-1))-t-1=c-t-1 from O];simp[Nat.mul_assoc]]at b;rw[Nat.mul_div_cancel_left _ (Nat.two_pow_pos t)]at b;simp at b
def ym(x:Nat):BitVec 64:=72340172838076673#64<<<(x%8)
def yl(x:Nat):BitVec 64:=255#64<<<(8*(x/8))
def pR(x:Nat):BitVec 64:=if x/8<x%8 then 9241421688590303745#64>>>(8*(x%8-x/8))else 9241421688590303745#64<<<(8*(x/8-x%8))
def pW(x:Nat):BitVec 64:=if x/8+x%8<7 then 72624976668147840#64>>>(8*(7-(x/8+x%8)))else 72624976668147840#64<<<(8*(x/8+x%8-7))
def E4(x:Nat):BitVec 64:=BitVec.ofInt 64 (yL 1 x 0)
def FX(x:Nat):BitVec 64:=BitVec.ofInt 64 (yL 2 x 0)
def GN(x:Nat):BitVec 64:=BitVec.ofInt 64 (uZ (v6 x))
def GP(x:Nat):BitVec 64:=BitVec.ofInt 64 (lG (v6 x))
def Eg:∀x,x<64->DK ((x:Nat):Int)=U (ym x):=WS
def Dn:∀x,x<64->C7 ((x:Nat):Int)=U (yl x):=WS
def Fi:∀x,x<64->Fj ((x:Nat):Int)=U (pR x):=WS
def G6:∀x,x<64->G7 ((x:Nat):Int)=U (pW x):=WS
def qbF:∀x,x<64->K_ (pT (uR (v6 ((x:Nat):Int))) (uN (v6 ((x:Nat):Int)))) 1=U (E4 x):=WS
def qbS:∀x,x<64->K_ (pT (uR (v6 ((x:Nat):Int))) (uN (v6 ((x:Nat):Int)))) (-1)=U (FX x):=WS
def qbK:∀x,x<64->uZ (v6 ((x:Nat):Int))=U (GN x):=WS
def qbL:∀x,x<64->lG (v6 ((x:Nat):Int))=U (GP x):=WS
def jT(x:Nat)(t:BitVec 64):BitVec 64:=vt (ym x) x t|||vt (yl x) x t
def vX(x:Nat)(t:BitVec 64):BitVec 64:=vt (pR x) x t|||vt (pW x) x t
def qz6(x:Nat)(a:x<64)(t:BitVec 64):kA (x:Int) (U t)=U (jT x t):=by unfold kA jT pT;rw[Eg x a,Dn x a,qk2 _ x a,qk2 _ x a,uQ]
def ia(x:Nat)(a:x<64)(t:BitVec 64):uC (x:Int) (U t)=U (vX x t):=by unfold uC vX pT;rw[Fi x a,G6 x a,qk2 _ x a,qk2 _ x a,uQ]
def jW(k x:Nat)(t:BitVec 64):BitVec 64:=
 if k=1 then E4 x else if k=2 then FX x else if k=3 then GN x else if k=4 then vX x t
 else if k=5 then jT x t else if k=6 then vX x t|||jT x t else if k=7 then GP x else 0#64
def ik(k x:Nat)(d:1<=k)(e:k<=7)(a:x<64)(t:BitVec 64):yL (k:Int) (x:Int) (U t)=U (jW k x t):=by
 have b:k=1\/k=2\/k=3\/k=4\/k=5\/k=6\/k=7:=O;unfold yL jW;obtain rfl|rfl|rfl|rfl|rfl|rfl|rfl:=b
 .exact qbF x a
 .exact qbS x a
 .exact qbK x a
 .exact ia x a t
 .exact qz6 x a t
 .show pT (uC (x:Int) (U t)) (kA (x:Int) (U t))=U (vX x t|||jT x t);rw[ia x a,qz6 x a];exact uQ _ _
 exact qbL x a
def tK:∀x,x<64->∀y,y<64->(ym x).getLsbD y=Zk->ym y=ym x:=WS
def rf:∀x,x<64->∀y,y<64->(yl x).getLsbD y=Zk->yl y=yl x:=WS
def Aq:∀x,x<64->∀y,y<64->(pR x).getLsbD y=Zk->pR y=pR x:=WS
def CG:∀x,x<64->∀y,y<64->(pW x).getLsbD y=Zk->pW y=pW x:=WS
def tL:∀x,x<64->(ym x).getLsbD x=Zk:=WS
def rg:∀x,x<64->(yl x).getLsbD x=Zk:=WS
def Ar:∀x,x<64->(pR x).getLsbD x=Zk:=WS
def CH:∀x,x<64->(pW x).getLsbD x=Zk:=WS
def EM:∀x,x<64->∀y,y<64->(GN x).getLsbD y=(GN y).getLsbD x:=WS
def EN:∀x,x<64->∀y,y<64->(GP x).getLsbD y=(GP y).getLsbD x:=WS
def bY:∀x,x<64->∀y,y<64->(E4 x).getLsbD y=(FX y).getLsbD x:=WS
def qv1(L:I8)(k:∀x,x<64->∀y,y<64->(L x).getLsbD y=Zk->L y=L x)(j:∀x,x<64->(L x).getLsbD x=Zk)(x y:Nat)(a:x<64)(b:y<64)(t:BitVec 64)(h:(vt (L x) x t).getLsbD y=Zk):(vt (L y) y t).getLsbD x=Zk:=by obtain⟨d,f,i⟩:=(qz0 _ x a t y b).mp h;have e:=k x a y b d;rw[e];exact(qz0 _ y b t x a).mpr ⟨j x a,λg=>f g.symm,λz l=>i z O⟩
def qja(L:I8)(b:∀x,x<64->∀y,y<64->(L x).getLsbD y=Zk->L y=L x)(a:∀x,x<64->(L x).getLsbD x=Zk)(x y:Nat)(d:x<64)(e:y<64)(t:BitVec 64):(vt (L x) x t).getLsbD y=(vt (L y) y t).getLsbD x:=by rw[YW];exact⟨qv1 L b a x y d e t,qv1 L b a y x e d t⟩
def qjo(x y:Nat)(a:x<64)(b:y<64)(t:BitVec 64):(jT x t).getLsbD y=(jT y t).getLsbD x:=by unfold jT;rw[Yx,Yx,qja ym tK tL x y a b,qja yl rf rg x y a b]
def pq(x y:Nat)(a:x<64)(b:y<64)(t:BitVec 64):(vX x t).getLsbD y=(vX y t).getLsbD x:=by unfold vX;rw[Yx,Yx,qja pR Aq Ar x y a b,qja pW CG CH x y a b]
def px(k x y:Nat)(e:3<=k)(f:k<=7)(a:x<64)(b:y<64)(t:BitVec 64):(jW k x t).getLsbD y=(jW k y t).getLsbD x:=by
 have d:k=3\/k=4\/k=5\/k=6\/k=7:=O;obtain rfl|rfl|rfl|rfl|rfl:=d
 .exact EM x a y b
 .exact pq x y a b t
 .exact qjo x y a b t
 .show(vX x t|||jT x t).getLsbD y=(vX y t|||jT y t).getLsbD x;rw[Yx,Yx,pq x y a b,qjo x y a b]
 exact EN x a y b
def sg(n:Int):Int:=if 0<n then 1 else if n<0 then -1 else 0
def ab(n:Int):Int:=if n<0 then -n else n
def B_(f:Nat->Int)(p:Nat->Int)(L:Nat):Bool:=Zm (∀i,i<L->1<=i->f (p i).toNat=46)
def pI(x y:Int)(i:Nat):Int:=x+(i:Int)*(8*sg (y/8-x/8)+sg (y%8-x%8))
def LI(x y:Int):Nat:=max (ab (y/8-x/8)).toNat (ab (y%8-x%8)).toNat
def yg(x y:Int):Bool:=(ab (y%8-x%8)==ab (y/8-x/8))&&Zm (0<ab (y%8-x%8))
def yd(x y:Int):Bool:=(y%8-x%8==0)!=(y/8-x/8==0)
def xS(f:Nat->Int)(k:Nat)(side x y:Int):Bool:=
 if k=0 then(ab (y%8-x%8)==1)&&(y/8-x/8==side)
 else if k=1 then ab (y%8-x%8)*ab (y/8-x/8)==2
 else if k=2 then yg x y&&B_ f (pI x y) (LI x y)
 else if k=3 then yd x y&&B_ f (pI x y) (LI x y)
 else if k=4 then(yd x y||yg x y)&&B_ f (pI x y) (LI x y)
 else Zm (ab (y%8-x%8)<=1)&&Zm (ab (y/8-x/8)<=1)&&Zm (0<ab (y%8-x%8)+ab (y/8-x/8))
def sV:∀x,x<64->∀y,y<64->(yd ((x:Nat):Int) ((y:Nat):Int)||yg ((x:Nat):Int) ((y:Nat):Int))=Zk →(Zm (1<=LI (x:Int) (y:Int))&&Zm (pI (x:Int) (y:Int) (LI (x:Int) (y:Int))=(y:Int))&&(h_ (LI (x:Int) (y:Int)+1)).all (λi=>Zm (0<=pI (x:Int) (y:Int) i)&&Zm (pI (x:Int) (y:Int) i<=63) && (Zm (i=0)||decide (LI (x:Int) (y:Int)<=i)||!decide (pI (x:Int) (y:Int) i=(y:Int)))))=Zk:=WS
def Fz(x y:Int)(h:0<=x)(l:x<=63)(j:0<=y)(m:y<=63)(k:yd x y=Zk\/yg x y=Zk):1<=LI x y/\pI x y (LI x y)=y/\∀i,i<=LI x y->0<=pI x y i/\pI x y i<=63/\(1<=i->i<LI x y->pI x y i≠y):=by
 obtain⟨a,rfl⟩:=Yt h;obtain⟨b,rfl⟩:=Yt j;have:=sV a O b O (by rw[Ym];exact k);rw[qH,qH,qW,qG,qG]at this;obtain⟨⟨d,e⟩,f⟩:=this;refine⟨d,e,λi n=>?_⟩;have g:=f i (qK.mpr O);rw[qH,qH,Ym,Ym,qG,qG,qG,qG,YK,qX]at g;refine⟨g.1.1,g.1.2,λo p=>?_⟩;obtain(g|g)|g:=g.2
 .omega
 .omega
 exact g
def Dp(x y:Int)(a:0<=x)(b:x<=63)(d:0<=y)(e:y<=63)(g:yd x y=Zk\/yg x y=Zk):∀i,i<=LI x y->0<=pI x y i/\pI x y i<=63:=λi f=>⟨((Fz x y a b d e g).2.2 i f).1,((Fz x y a b d e g).2.2 i f).2.1⟩
def fT(t:BitVec 64)(z:Nat):Int:=if t.getLsbD z then 80 else 46
def kR(k:Nat):Nat:=if k<=2 then 0 else k-2
def sR(k:Nat):Int:=if k<=2 then 3-2*(k:Int)else 1
def eV(k:Nat)(x:Int)(t:BitVec 64)(y:Nat):Bool:=xS (fT t) (kR k) (sR k) x (y:Int)
def ao(g:Nat->Bool):Nat->Nat
 | 0=>0
 | j+1=>2*ao g j+(if g (63-j)then 1 else 0)
theorem am(g:Nat->Bool):∀j,j<=64->∀i,i<j->(ao g j).testBit i=g (64-j+i)
 | 0,_,i,h=>by omega
 | j+1,hj,i,h=>by
  cases i with
  | zero=>
   rw[Nat.testBit_zero];rw[ao,show 64-(j+1)+0=63-j from O];cases g (63-j)<;>simp<;>omega
  | succ i=>
   have a:=am g j O i O;rw[Nat.testBit_succ];rw[show ao g (j+1)/2=ao g j from by show(2*ao g j+(if g (63-j)then 1 else 0))/2=ao g j;split<;>omega,a]
   congr 1;omega
def Dl(k:Nat)(x:Int)(t:BitVec 64):BitVec 64:=BitVec.ofNat 64 (ao (eV k x t) 64)
def bW(k:Nat)(x:Int)(t:BitVec 64)(y:Nat)(a:y<64):(Dl k x t).getLsbD y=eV k x t y:=by rw[Dl,BitVec.getLsbD_ofNat,am _ 64 Zy y a];simp[a]
def btw(x y z:Nat):Bool:=Zm (x<z/\z<y\/y<z/\z<x)
def uD(l:BitVec 64)(x y:Nat):Bool:=
 !(l.getLsbD y&&!decide (y=x))||((yd (x:Int) (y:Int)||yg (x:Int) (y:Int))&&(h_ (LI (x:Int) (y:Int))).all (λi=>Zm (i=0)||btw x y (pI (x:Int) (y:Int) i).toNat&&l.getLsbD (pI (x:Int) (y:Int) i).toNat)
  && (h_ 64).all (λz=>!(btw x y z&&l.getLsbD z)||(h_ (LI (x:Int) (y:Int))).any (λi=>!decide (i=0)&&Zm ((pI (x:Int) (y:Int) i).toNat=z))))
theorem CF:∀x,x<64->∀y,y<64->uD (ym x) x y=Zk:=WS
theorem Ax:∀x,x<64->∀y,y<64->uD (yl x) x y=Zk:=WS
theorem Dj:∀x,x<64->∀y,y<64->uD (pR x) x y=Zk:=WS
theorem Eh:∀x,x<64->∀y,y<64->uD (pW x) x y=Zk:=WS
theorem Ff:∀x,x<64->∀y,y<64->yd ((x:Nat):Int) ((y:Nat):Int)=((ym x).getLsbD y&&!decide (y=x)||(yl x).getLsbD y&&!decide (y=x)):=WS
theorem Fg:∀x,x<64->∀y,y<64->yg ((x:Nat):Int) ((y:Nat):Int)=((pR x).getLsbD y&&!decide (y=x)||(pW x).getLsbD y&&!decide (y=x)):=WS
def oL:∀x,x<64->∀y,y<64->(E4 x).getLsbD y=((ab (((y:Nat):Int)%8-((x:Nat):Int)%8)==1)&&((y:Int)/8-x/8==1)):=WS
def wE:∀x,x<64->∀y,y<64->(FX x).getLsbD y=((ab (((y:Nat):Int)%8-((x:Nat):Int)%8)==1)&&((y:Int)/8-x/8==-1)):=WS
def GM:∀x,x<64->∀y,y<64->(GN x).getLsbD y=(ab (((y:Nat):Int)%8-((x:Nat):Int)%8)*ab ((y:Int)/8-x/8)==2):=WS
def GO:∀x,x<64->∀y,y<64->(GP x).getLsbD y=(Zm (ab (((y:Nat):Int)%8-((x:Nat):Int)%8)<=1)&&Zm (ab ((y:Int)/8-x/8)<=1)&&Zm (0<ab ((y:Int)%8-x%8)+ab ((y:Int)/8-x/8))):=WS
def tO(t:BitVec 64)(z:Nat):fT t z=46↔t.getLsbD z=Zl:=by unfold fT;cases t.getLsbD z<;>simp
theorem qq7(l:BitVec 64)(x:Nat)(o:x<64)(t:BitVec 64)(y:Nat)(p:y<64)(ok:uD l x y=Zk):(vt l x t).getLsbD y=((l.getLsbD y&&!decide (y=x))&&B_ (fT t) (pI (x:Int) (y:Int)) (LI (x:Int) (y:Int))):=by
 rw[YW,qz0 l x o t y p];unfold uD at ok;unfold B_;by_cases h:(l.getLsbD y&&!decide (y=x))=Zk
 .rw[h]at ok|-;rw[Bool.not_true,Xo,qH,qH,qW,qW]at ok;obtain⟨⟨_,r⟩,u⟩:=ok;rw[Xc,qG];rw[qH,YK,qX]at h;constructor
  .rintro⟨_,_,g⟩ i f v;have:=r i (qK.mpr f);rw[Ym,qG,qH]at this;obtain e|⟨j,k⟩:=this
   .omega
   rw[tO];exact g _ (q8 j) k
  intro g;refine⟨h.1,h.2,λz q n=>?_⟩;have:=u z (qK.mpr O);have m:btw x y z=Zk:=qJ q;rw[m,n,Xc,Bool.not_true,Xo,qY]at this;obtain⟨i,f,e⟩:=this;rw[qH,YK,qX,qG]at e;have:=g i (qK.mp f) O;rw[e.2,tO]at this;exact this
 have d:(l.getLsbD y&&!decide (y=x))=Zl:=Vq;rw[d];simp only[XK,qR,iff_false];rintro⟨a,b,_⟩;rw[a]at d;simp at d;exact b d
def bN(x:Nat)(a:x<64)(t:BitVec 64)(y:Nat)(b:y<64):(vX x t).getLsbD y=(yg (x:Int) (y:Int)&&B_ (fT t) (pI (x:Int) (y:Int)) (LI (x:Int) (y:Int))):=by grind[vX,qq7,Dj,Eh,Fg,pR,pW,B_,fT,pI]
def qj3(x:Nat)(a:x<64)(t:BitVec 64)(y:Nat)(b:y<64):(jT x t).getLsbD y=(yd (x:Int) (y:Int)&&B_ (fT t) (pI (x:Int) (y:Int)) (LI (x:Int) (y:Int))):=by grind[jT,qq7,CF,Ax,Ff,ym,yl,B_,fT,pI]
def mI(k x:Nat)(e:1<=k)(f:k<=7)(b:x<64)(t:BitVec 64):jW k x t=Dl k (x:Int) t:=by
 apply XF;intro y a;rw[bW k _ t y a];have d:k=1\/k=2\/k=3\/k=4\/k=5\/k=6\/k=7:=O;obtain rfl|rfl|rfl|rfl|rfl|rfl|rfl:=d
 .exact oL x b y a
 .exact wE x b y a
 .exact GM x b y a
 .exact bN x b t y a
 .exact qj3 x b t y a
 .show(vX x t|||jT x t).getLsbD y=((yd (x:Int) (y:Int)||yg (x:Int) (y:Int))&&B_ (fT t) (pI (x:Int) (y:Int)) (LI (x:Int) (y:Int)));rw[Yx,bN x b t y a,qj3 x b t y a];cases yd (x:Int) (y:Int)<;>cases yg (x:Int) (y:Int)<;>cases B_ (fT t) (pI (x:Int) (y:Int)) (LI (x:Int) (y:Int))<;>rfl
 exact GO x b y a
structure Fr(Q:Nat->Obj->Prop)(w w':I6):Prop where
 os:w'.os=w.os
 tape:w'.tape=w.tape
 output:w'.output=w.output
 size:w.heap.size<=w'.heap.size
 same:∀k o,w.heap[k]?=S o->Q k o->w'.heap[k]?=S o
def Fr.refl(Q:Nat->Obj->Prop)(w:I6):Fr Q w w:=⟨R,R,R,qL _,λ_ _ h _=>h⟩
def ZP{Q:Nat->Obj->Prop}{w:I6}:Fr Q w w:=Fr.refl Q w
def Fr.trans{Q:Nat->Obj->Prop}{a b c:I6}(h:Fr Q a b)(g:Fr Q b c):Fr Q a c:=⟨g.os.trans h.os,g.tape.trans h.tape,g.output.trans h.output,q7 h.size g.size,λk o e q=>g.same k o (h.same k o e q) q⟩
def Fr.mono{Q R:Nat->Obj->Prop}{a b:I6}(h:Fr Q a b)(i:∀k o,a.heap[k]?=S o->R k o->Q k o):Fr R a b:=⟨h.os,h.tape,h.output,h.size,λk o e r=>h.same k o e (i k o e r)⟩
def Fr.drew{Q:Nat->Obj->Prop}{a b:I6}(h:Fr Q a b):Fr Q a b.drew:=⟨h.os,h.tape,h.output,h.size,h.same⟩
def Fr.alloc{Q:Nat->Obj->Prop}{a b:I6}(h:Fr Q a b)(o:Obj):Fr Q a (b.alloc o):=h.trans ⟨R,R,R,WU,λk o' e _=>(Below.heap_alloc b o k (qB.1 e).1).trans e⟩
def Fr.setCell{Q:Nat->Obj->Prop}{a b:I6}(h:Fr Q a b){p:Addr}(u:I7)(f:∀o,b.heap[p.block]?=S o->¬Q p.block o):Fr Q a (b.setCell p u):=
 h.trans ⟨R,R,R,by show b<=(b.heap.modify _ _).size;simp,λk o' e q=>by
  by_cases d:k=p.block
  .subst d;exact w_ q (f o' e)
  exact(Below.heap_setCell b p u k d).trans e⟩
def Fr.putObj{Q:Nat->Obj->Prop}{a b:I6}(h:Fr Q a b){l:Nat}(o':Obj)(f:∀o,b.heap[l]?=S o->¬Q l o):Fr Q a (b.putObj l o'):=
 h.trans ⟨R,R,R,WU,λk o e q=>by
  by_cases d:k=l
  .subst d;exact w_ q (f o e)
  exact(World.putObj_heap_other d).trans e⟩
def Fr.of_below{Q:Nat->Obj->Prop}{a b:I6}{n:Nat}(h:Below n a b)(i:∀k o,a.heap[k]?=S o->Q k o->k<n):Fr Q a b:=⟨h.os,h.tape,h.output,h.size,λk o e q=>(h.block k (i k o e q)).trans e⟩
def Fr.of_gr{Q:Nat->Obj->Prop}{a b:I6}(h:Gr a b):Fr Q a b:=Fr.of_below h λ_ _ e _=>(qB.1 e).1
def p_:type_of% @Fr.of_gr:=@Fr.of_gr
def Fr.below{Q:Nat->Obj->Prop}{a b:I6}{n:Nat}(h:Fr Q a b)(f:n<=a)(i:∀k o,k<n->Q k o):Below n a b:=
 ⟨h.os,h.tape,h.output,h.size,λk e=>by
  have d:k<a.heap.size:=O
  rw[h.same k a.heap[k] (qQ d) (i k _ e),qQ d]⟩
def Fr.cell{Q:Nat->Obj->Prop}{a b:I6}(h:Fr Q a b){p:Addr}{v:I7}(f:a.cell? p=v)(i:∀o,a.heap[p.block]?=S o->Q p.block o):b.cell? p=v:=by have d:=World.block_lt_of_cell? a _ f;have e:=h.same p.block a.heap[p.block] (qQ d) (i _ (qQ d));rw[World.cell?_of_block (w:=a) (e.trans (qQ d).symm)];exact f
def Fr.frozen{Q:Nat->Obj->Prop}{a b:I6}(h:Fr Q a b){p:Addr}{v:I7}(f:a.cell? p=v)(i:∀o,a.heap[p.block]?=S o->Q p.block o):b.frozen? p=a.frozen? p:=by have d:=World.block_lt_of_cell? a _ f;have e:=h.same p.block a.heap[p.block] (qQ d) (i _ (qQ d));exact World.frozen?_of_block (w:=a) (e.trans (qQ d).symm)
def rM(k:Nat):Fence.wide.room k:=λd h=>Ub
def jb{m m':Nat}{P:Program}{l:Nat}{args:I0}{W:I6}{R:Ending->I6->Prop}(h:YieldAt Fence.wide m P l args W R):YieldAt Fence.wide m' P l args W R:=by obtain⟨d,tmps,a,b,e,hR⟩:=h;exact⟨d,tmps,a,b,e,hR.1,λc cs _=>hR.2 c cs (rM _)⟩
abbrev yv(B:Nat)(T:Obj->Prop):Nat->Obj->Prop:=λk o=>k<B\/T o
abbrev jM(B:Nat)(T:Obj->Prop)(C:Nat->Prop):Nat->Obj->Prop:=λk o=>C k\/(B<=k/\¬T o)
def vu{β:Type}(B:Nat)(T:Obj->Prop)(J:β->I6->Prop):Prop:=∀s A A',J s A->Fr (yv B T) A A'->J s A'
def It{α:Type}(P:Program)(g:Nat)(lb:I0)(encs:α->I0)(T:Obj->Prop)(C:Nat->Prop)(xs:List α)(w:I6):Prop:=
 ∀(l B:Nat)(J Jx:List α->I6->Prop)(W:I6),Fr (λk _=>C k) w W->B<=W.heap.size->vu B T J->vu B T Jx →
  (∀pre x W1,pre++[x]<+:xs->J pre W1->YieldAt Fence.wide 0 P l (encs x) W1 λe W'=>Fr (jM B T C) W1 W' ∧
   ((e=Zd (Za Zk)/\J (pre++[x]) W')\/(e=Zd (Za Zl)/\Jx (pre++[x]) W'))) →
  J [] W →
  i_ P g (#[.func (.yield l) #[] #[]]++lb) W λe W'=>(∃v,e=Zd v)/\(J xs W'\/∃pre,pre<+:xs/\Jx pre W')
def An{α:Type}(b:Nat)(T:Obj->Prop)(C:Nat->Prop)(I:List α->I6->Prop)(Ix:Code->List α->I6->Prop)(xs:List α)(W:I6):Exit->Act->I6->Prop
 | .normal,_,W'=>Fr (jM b T C) W W'/\I xs W'
 | .ret,_,W'=>Fr (jM b T C) W W'/\Ix .ret xs W'
 | .exit id,_,W'=>Fr (jM b T C) W W'/\Ix (.exit id) xs W'
 | .goto t,_,W'=>Fr (jM b T C) W W'/\Ix (.goto t) xs W'
 | .panic _,_,_=>False
 | .outgrown,_,_=>False
def cQ{α:Type}(P:Program)(b m:Nat)(T:Obj->Prop)(C:Nat->Prop)(encs:α->I0)(xs:List α)(ps:Array Tmp)(assign body:Code)(tmps:I0)(I:List α->I6->Prop)(Ix:Code->List α->I6->Prop):Prop:=
 ∀(l:Nat)(pre:List α)(x:α)(W:I6),b<=l->pre++[x]<+:xs->I pre W->(∃r,W.heap[l]?=S (.loop r)) →
  assign.wpIn (Fence.wide.inRound l) m P (Exit.then (λa1 W1=>Fr (λ_ _=>True) W W1/\∀W2,Fr (λk _=>k≠l) W1 W2->I pre W2->(∃r,W2.heap[l]?=S (.loop r)) →
   body.wpIn (Fence.wide.inRound l) m P (An b T C I Ix (pre++[x]) W2) a1 W2) (λ_ _ _=>False))
   { tmps:=(ps.zip (encs x)).foldl (λt (p,v)=>t.setIfInBounds p v) tmps,defers:=[] } W
def ls{K b:Act->I6->Prop}(h:∀a w,K a w->b a w):∀e a w,Exit.then K (λ_ _ _=>False) e a w->Exit.then b (λ_ _ _=>False) e a w:=by intro e a w;cases e<;>simp only[Exit.then]<;>first|exact h a w|exact id
def qjp{α:Type}{P:Program}{l B b m:Nat}{fn:FuncId}{tmps:I0}{ps:Array Tmp}{assign body:Code}{dd:Nat}{d:α->I0}{T:Obj->Prop}{C:Nat->Prop}{xs:List α}(K:b<=l) (a6:l<B) (hT:∀o,T o->o.isCells=Zk) (hC:∀k,C k->k<b) (a4:∀x,(d x).size=ps.size) {a8:List α->I6->Prop} {b0:Code->List α->I6->Prop} (V:vu b T a8) (v:∀c,vu b T (b0 c))(a7:I6->Prop) (b2:∀A n,a7 A->Fr (λk o=>b<=k/\k<B/\k≠l/\o.isCells=Zl) A n->a7 n)(hR:cQ P b m T C d xs ps assign body tmps a8 b0) (g:List α) (x:α) (W:I6) (hx:g++[x] <+:xs)(hi:a8 g W) (hl:W.heap[l]?=S (.loop { state:=.ready,pending:=N,fn,tmps,params:=ps,assign,body,defers:=dd })) (b5:a7 W):YieldAt Fence.wide m P l (d x) W λe p=>Fr (jM B T C) W p ∧((e=Zd Zk/\a8 (g++[x]) p/\p.heap[l]?=S (.loop { state:=.ready,pending:=N,fn,tmps,params:=ps,assign,body,defers:=dd })/\a7 p) ∨(e=Zd Zl/\∃c,b0 c (g++[x]) p/\p.heap[l]?=S (.loop { state:=.done,pending:=S c,fn,tmps,params:=ps,assign,body,defers:=dd })/\a7 p)):=by
 have hy:=run_yield (P:=P) (args:=d x) hl (a4 x);refine⟨fn,_,assign,body,hy,roundIn_of_wpIn x_ (wpIn_mono (hR l g x W K hx hi ⟨_,hl⟩) (ls ?_))⟩;rintro a1 Q ⟨M,hb⟩;have w:=M.same _ _ hl x_;have a5:=(qB.1 w).1;refine⟨_,run_beginRound w R,?_⟩;generalize J:Q.putObj l (.loop { state:=.busy,pending:=N,fn,tmps,params:=ps,assign,body,defers:=dd })=u;have b3:u.heap[l]?=S (.loop { state:=.busy,pending:=N,fn,tmps,params:=ps,assign,body,defers:=dd }):=by rw[<-J];exact World.putObj_heap_same a5
 have a9:Fr (λk _=>k≠l) Q u:=by rw[<-J];exact ZP.putObj _ (λ_ _ h=>h R)
 have nT:∀r:Loop,¬T (.loop r):=λr h=>by have:=hT _ h;cases this
 have fI:∀{A n:I6},Fr (λk _=>k≠l) A n->(∃r,A.heap[l]?=S (.loop r))->Fr (yv b T) A n:=λf hr=>f.mono (λk o e q=>by
  rintro rfl;obtain⟨r,hr⟩:=hr;obtain q|q:=q
  .omega
  rw[hr]at e;cases e;exact nT _ q)
 have a2:a8 g u:=V _ _ _ (V _ _ _ hi (M.mono λ_ _ _ _=>x_)) (fI a9 ⟨_,w⟩);have fX:∀{A n:I6},Fr (λk _=>k≠l) A n->a7 A->a7 n:=λf h=>b2 _ _ h (f.mono λk o _ q=>q.2.2.1);have a0:a7 u:=fX a9 (b2 _ _ b5 (M.mono λ_ _ _ _=>x_));have b4:Fr (jM B T C) W u:=(M.mono λ_ _ _ _=>x_).trans (a9.mono λk o _ q=>by
  rintro rfl;obtain q|q:=q
  .have:=hC _ q;omega
  omega)
 have j:∀(jump:Option Code)(W3:I6),Fr (jM b T C) u W3 →
  (Instr.endRound l jump).run P W3=.ok (jump.isNone) (W3.putObj l (.loop { state:=if jump.isNone then .ready else .done,pending:=jump,fn,tmps,params:=ps,assign,body,defers:=dd })) ∧
  Fr (jM B T C) W (W3.putObj l (.loop { state:=if jump.isNone then .ready else .done,pending:=jump,fn,tmps,params:=ps,assign,body,defers:=dd })) ∧
  (W3.putObj l (.loop { state:=if jump.isNone then .ready else .done,pending:=jump,fn,tmps,params:=ps,assign,body,defers:=dd })).heap[l]?=S (.loop { state:=if jump.isNone then .ready else .done,pending:=jump,fn,tmps,params:=ps,assign,body,defers:=dd }) ∧
  a7 (W3.putObj l (.loop { state:=if jump.isNone then .ready else .done,pending:=jump,fn,tmps,params:=ps,assign,body,defers:=dd })) ∧
  Fr (yv b T) W3 (W3.putObj l (.loop { state:=if jump.isNone then .ready else .done,pending:=jump,fn,tmps,params:=ps,assign,body,defers:=dd })):=λjump W3 i=>by
  have y:=i.same _ _ b3 (Zj ⟨K,nT _⟩);have b1:Fr (λk _=>k≠l) W3 (W3.putObj l (.loop { state:=if jump.isNone then .ready else .done,pending:=jump,fn,tmps,params:=ps,assign,body,defers:=dd })):=ZP.putObj _ (λ_ _ h=>h R);refine⟨run_endRound (P:=P) jump y,?_,World.putObj_heap_same (qB.1 y).1,fX b1 (b2 _ _ a0 (i.mono λk o _ q=>Zj ⟨q.1,λh=>by rw[hT _ h]at q;exact w_ q.2.2.2 WW⟩)),fI b1 ⟨_,y⟩⟩;refine(b4.trans (i.mono λk o _ q=>?_)).trans (b1.mono λk o _ q=>?_)
  .obtain q|q:=q
   .exact Zi q
   exact Zj ⟨O,q.2⟩
  rintro rfl;obtain q|q:=q
  .have:=hC _ q;omega
  omega
 apply wpIn_mono (hb u a9 a2 ⟨_,b3⟩);rintro e a3 W3 H;cases e with
 | normal=>
  obtain⟨i,a⟩:=H;obtain⟨z,D,E,F,G⟩:=j N W3 i;exact⟨_,_,z,D,Zi ⟨R,V _ _ _ a G,E,F⟩⟩
 | ret=>
  obtain⟨i,a⟩:=H;obtain⟨z,D,E,F,G⟩:=j (S .ret) W3 i;exact⟨_,_,z,D,Zj ⟨R,_,v _ _ _ _ a G,E,F⟩⟩
 | exit id=>
  obtain⟨i,a⟩:=H;obtain⟨z,D,E,F,G⟩:=j (S (.exit id)) W3 i;exact⟨_,_,z,D,Zj ⟨R,_,v _ _ _ _ a G,E,F⟩⟩
 | goto t=>
  obtain⟨i,a⟩:=H;obtain⟨z,D,E,F,G⟩:=j (S (.goto t)) W3 i;exact⟨_,_,z,D,Zj ⟨R,_,v _ _ _ _ a G,E,F⟩⟩
 | panic ch=>exact H.elim
 | outgrown=>exact H.elim
def qo{β:Type}{B a:Nat}{T:Obj->Prop}{J:β->I6->Prop}(h:vu B T J)(e:B<=a):vu a T J:=λs A b d f=>h s A b d (f.mono λk o _ q=>q.elim (λq=>Zi O) Zj)
def xj{α:Type}{P:Program}{n:Nat}{g:Operand}{ps:Array Tmp}{assign body:Code}{Q:Exit->Act->I6->Prop}{a:Act}{w:I6}{gf:Nat}{lb:I0}(hg:a.eval g=.func (.func gf) #[] lb) (eg:∀args w,(callFunc gf args).run P w=.ok (.enter gf args) w) {i:α->I0} {T:Obj->Prop} {C:Nat->Prop} {J:List α} {Z:I6} (a5:It P gf lb i T C J Z)(M:∀o,T o->o.isCells=Zk) (hC:∀k,C k->k<w.heap.size) (K:Fr (λk _=>C k) Z w) (V:∀x,(i x).size=ps.size)(b:List α->I6->Prop) (F:Code->List α->I6->Prop) (H:vu w T b) (m:∀c,vu w T (F c)) (h0:b [] w)(hR:cQ P w 9 T C i J ps assign body a.tmps b F)(p:∀(D:Nat)(W:I6),w<=D->b J W->W.heap[D]?=S (.deferred (S []))->Q .normal { a with defers:={ target:=.collected D,args:=#[] }::a.defers } W)(r:∀(D:Nat)(c:Code)(d:List α)(W:I6),w<=D->d <+:J->F c d W->W.heap[D]?=S (.deferred (S []))->c.wpIn Fence.wide n P Q { a with defers:={ target:=.collected D,args:=#[] }::a.defers } W):(Code.rangeFunc g ps assign body).wpIn Fence.wide n P Q a w:=by
 apply wpIn_rangeFunc;intro fn _;generalize j:(w.alloc (.deferred (S []))).alloc (.loop { state:=.ready,pending:=N,fn,tmps:=a.tmps,params:=ps,assign,body,defers:=w })=l;have a4:∀Q:Nat->Obj->Prop,Fr Q w l:=λQ=>by rw[<-j];exact(ZP.alloc _).alloc _
 have a7:l.heap[w.heap.size+1]?=S (.loop { state:=.ready,pending:=N,fn,tmps:=a.tmps,params:=ps,assign,body,defers:=w }):=VB;have a6:l.heap[w.heap.size]?=S (.deferred (S [])):=Ol;have a1:l=w.heap.size+2:=by rw[<-j];simp
 refine⟨w+1,[{ target:=.collected w,args:=#[] }],l,{ target:=.fn (.func gf) lb,args:=#[.func (.yield (w+1)) #[] #[]] },l,gf,
  #[.func (.yield (w+1)) #[] #[]]++lb,l,?_,?_,?_,?_,?_,?_⟩
 .rw[<-j];exact run_enterLoop_outer _ _ _ _ _
 .simp only[resolve,hg];simp[go_sem]
 .intro f' a0;trivial
 .simp[invoke,go_sem,eg]
 .intro h;cases h
 refine ZY.2 ((a5 (w+1) l
  (λd W=>b d W/\W.heap[w.heap.size+1]?=S (.loop { state:=.ready,pending:=N,fn,tmps:=a.tmps,params:=ps,assign,body,defers:=w })/\W.heap[w.heap.size]?=S (.deferred (S [])))
  (λd W=>∃c,F c d W/\W.heap[w.heap.size+1]?=S (.loop { state:=.done,pending:=S c,fn,tmps:=a.tmps,params:=ps,assign,body,defers:=w })/\W.heap[w.heap.size]?=S (.deferred (S [])))
  l (K.trans (a4 _)) Zy ?_ ?_ ?_ ⟨H _ _ _ h0 (a4 _),a7,a6⟩).mono ?_)
 .rintro s A a3 ⟨u,y,z⟩ f;exact⟨qo H O _ _ _ u f,f.same _ _ y (Zi O),f.same _ _ z (Zi O)⟩
 .rintro s A a3 ⟨c,u,y,z⟩ f;exact⟨c,qo (m c) O _ _ _ u f,f.same _ _ y (Zi O),f.same _ _ z (Zi O)⟩
 .rintro d x W hx ⟨u,y,z⟩;exact jb (qjp (B:=l) (b:=w) O O M hC V H m (λW=>W.heap[w.heap.size]?=S (.deferred (S []))) (λA a3 h f=>f.same _ _ h ⟨Zy,O,O,R⟩) hR d x W hx u y z)
 rintro e G ⟨⟨v,rfl⟩,⟨a2,E,B⟩|⟨d,hp,c,a2,E,B⟩⟩
 .have f:∀o',Fr (yv w T) G (G.putObj (w+1) o'):=λo'=>ZP.putObj _ (λo e q=>by
   rw[E]at e;cases e;obtain q|q:=q
   .omega
   have:=M _ q;cases this)
  exact⟨N,_,run_endLoop (P:=P) E WU,p _ _ Zy (H _ _ _ a2 (f _)) ((Xw O).trans B)⟩
 have f:∀o',Fr (yv w T) G (G.putObj (w+1) o'):=λo'=>ZP.putObj _ (λo e q=>by
  rw[E]at e;cases e;obtain q|q:=q
  .omega
  have:=M _ q;cases this)
 exact⟨S c,_,run_endLoop (P:=P) E WU,r _ c d _ Zy hp (m c _ _ _ a2 (f _)) ((Xw O).trans B)⟩
def rj{α:Type}{P:Program}{n:Nat}{g:Operand}{ps:Array Tmp}{assign body:Code}{Q:Exit->Act->I6->Prop}{a:Act}{w:I6}{gf:Nat}{lb:I0}{l₀:Nat}(hl₀:∃r,w.heap[l₀]?=S (.loop r))(hg:a.eval g=.func (.func gf) #[] lb) (eg:∀args w,(callFunc gf args).run P w=.ok (.enter gf args) w) {i:α->I0} {T:Obj->Prop} {C:Nat->Prop} {J:List α} {w0:I6} (Z:It P gf lb i T C J w0)(a5:∀o,T o->o.isCells=Zk) (hC:∀k,C k->k<w.heap.size) (a9:Fr (λk _=>C k) w0 w) (a1:∀x,(i x).size=ps.size)(b:List α->I6->Prop) (F:Code->List α->I6->Prop) (H:vu w T b) (m:∀c,vu w T (F c)) (h0:b [] w)(hR:cQ P w 9 T C i J ps assign body a.tmps b F)(p:∀(W:I6),b J W->Q .normal a W)(u:∀(c:Code)(d:List α)(W:I6),d <+:J->F c d W->c.wpIn (Fence.wide.inRound l₀) n P Q a W):(Code.rangeFunc g ps assign body).wpIn (Fence.wide.inRound l₀) n P Q a w:=by
 obtain⟨r₀,hl₀⟩:=hl₀;apply wpIn_rangeFunc;intro fn _;generalize l:w.alloc (.loop { state:=.ready,pending:=N,fn,tmps:=a.tmps,params:=ps,assign,body,defers:=r₀.defers })=j;have f1:∀Q:Nat->Obj->Prop,Fr Q w j:=λQ=>by rw[<-l];exact ZP.alloc _
 have a0:j.heap[w.heap.size]?=S (.loop { state:=.ready,pending:=N,fn,tmps:=a.tmps,params:=ps,assign,body,defers:=r₀.defers }):=by rw[<-l];exact ZQ w _
 have a3:j=w.heap.size+1:=by rw[<-l];simp
 refine⟨w,[],j,{ target:=.fn (.func gf) lb,args:=#[.func (.yield w) #[] #[]] },j,gf,
  #[.func (.yield w) #[] #[]]++lb,j,?_,?_,?_,?_,?_,?_⟩
 .rw[<-l];exact run_enterLoop_inner hl₀ _ _ _ _ _
 .simp only[resolve,hg];simp[go_sem]
 .intro f' a2;trivial
 .simp[invoke,go_sem,eg]
 .intro h;cases h
 refine Xe l₀ (ZY.2 ((Z w j
  (λd W=>b d W/\W.heap[w.heap.size]?=S (.loop { state:=.ready,pending:=N,fn,tmps:=a.tmps,params:=ps,assign,body,defers:=r₀.defers }))
  (λd W=>∃c,F c d W/\W.heap[w.heap.size]?=S (.loop { state:=.done,pending:=S c,fn,tmps:=a.tmps,params:=ps,assign,body,defers:=r₀.defers }))
  j (a9.trans (f1 _)) Zy ?_ ?_ ?_ ⟨H _ _ _ h0 (f1 _),a0⟩).mono ?_))
 .rintro s A A' ⟨z,D⟩ f;exact⟨qo H O _ _ _ z f,f.same _ _ D (Zi O)⟩
 .rintro s A A' ⟨c,z,D⟩ f;exact⟨c,qo (m c) O _ _ _ z f,f.same _ _ D (Zi O)⟩
 .rintro d x W hx ⟨z,D⟩;obtain⟨M,y,K,a8,hy,V⟩:=jb (m':=0) (qjp (b:=w) (B:=j) Zy O a5 hC a1 H m (λ_=>True) (λ_ _ _ _=>trivial) hR d x W hx z D trivial);refine⟨M,y,K,a8,hy,V.mono ?_⟩;rintro e W' ⟨f,⟨B,a4,a7,_⟩|⟨B,c,a4,a7,_⟩⟩
  .exact⟨f,Zi ⟨B,a4,a7⟩⟩
  exact⟨f,Zj ⟨B,c,a4,a7⟩⟩
 rintro e G ⟨⟨v,rfl⟩,⟨a6,E⟩|⟨d,hp,c,a6,E⟩⟩
 .have f:∀o',Fr (yv w T) G (G.putObj w o'):=λo'=>ZP.putObj _ (λo e q=>by
   rw[E]at e;cases e;obtain q|q:=q
   .omega
   have:=a5 _ q;cases this)
  exact⟨N,_,run_endLoop (P:=P) E WU,p _ (H _ _ _ a6 (f _))⟩
 have f:∀o',Fr (yv w T) G (G.putObj w o'):=λo'=>ZP.putObj _ (λo e q=>by
  rw[E]at e;cases e;obtain q|q:=q
  .omega
  have:=a5 _ q;cases this)
 exact⟨S c,_,run_endLoop (P:=P) E WU,u c d _ hp (m c _ _ _ a6 (f _))⟩
def rS{k:IntKind}{a b:Int}{v:I7}(h:a=b):Zd (Ze #[I k a,v])=Zd (Ze #[I k b,v]):=by rw[h]
def rD(s:I4)(w:I6):i_ Tryz.prog 138 #[s] w λe w'=>e=Ze #[s.toList==[119],(s.toList==[119]||s.toList==[98])]/\w'=w:=by
 by_cases h:s.toList=[119]
 .have a:(s.toList==[119])=Zk:=Vq;rw[a];go_enter Tryz.func138,Tryz.ntmps138;go_wp2;exact MW
 have a:(s.toList==[119])=Zl:=Vq;rw[a];go_enter Tryz.func138,Tryz.ntmps138;go_wp2;exact MW
def uX(s:I4):Option Nat:=
 if h:s.size=2 then
  if 97<=s[0].toNat/\s[0].toNat<=104/\49<=s[1].toNat/\s[1].toNat<=56 then S (s[0].toNat-97+8*(s[1].toNat-49))else N
 else N
def pl(s:I4)(h:uX s=N)(w:I6):i_ Tryz.prog 117 #[s] w λe w'=>e=Ze #[I L 0,Zl]/\w'=w:=by
 unfold uX at h;have b:=h;by_cases f:s.size=2
 .have d:¬(97<=s[0].toNat/\s[0].toNat<=104/\49<=s[1].toNat/\s[1].toNat<=56):=by intro g;have:=b;rw[Wf f,qI g]at this;exact w_ this WU
  have a:=d;go_enter Tryz.func117,Tryz.ntmps117;go_wp2;all_goals first|(go_ret2;exact⟨R,R⟩)|(exfalso;have:=a;simp at *;omega)
 go_enter Tryz.func117,Tryz.ntmps117;go_wp2;exact MW
def qz7(s:I4)(n:Nat)(h:uX s=n)(w:I6):i_ Tryz.prog 117 #[s] w λe w'=>e=Ze #[n,Zk]/\Gr w w':=by
 unfold uX at h;by_cases b:s.size=2
 .rw[Wf b]at h;by_cases a:97<=s[0].toNat/\s[0].toNat<=104/\49<=s[1].toNat/\s[1].toNat<=56
  .rw[qI a]at h;obtain⟨c1,c2,c3,f⟩:=a;have d:s[0].toNat-97+8*(s[1].toNat-49)=n:=Vq;go_enter Tryz.func117,Tryz.ntmps117;go_wp2;go_region;all_goals
    go_wp2;go_ret2;exact⟨rS (by have:=d;omega),ZO.drew⟩
  rw[qF a]at h;exact w_ h WU
 rw[dif_neg b]at h;exact w_ h WU
def fA:Option Nat->Option Int
 | some n=>S (n:Int)
 | none=>N
def v8(s:I4):Option Int:=if s.toList=[45]then S (-1)else fA (uX s)
def hO(s:I4)(w:I6):i_ Tryz.prog 140 #[Zb s] w λe w'=>(∃v:Int,e=Zd (Ze #[I L v,Za (v8 s).isSome])/\∀n,v8 s=S n->v=n)/\Gr w w':=by
 by_cases h:s.toList=[45]
 .have g:v8 s=S (-1):=by rw[v8,qI h]
  rw[g];go_enter Tryz.func140,Tryz.ntmps140;go_wp2;go_ret2;exact⟨⟨-1,R,λn f=>Uq⟩,ZO⟩
 have b:v8 s=fA (uX s):=by rw[v8,qF h]
 have j:(s.toList==[45])=Zl:=Vq;cases d:uX s with
 | none=>
  rw[d]at b;rw[b];have a:=d;go_enter Tryz.func140,Tryz.ntmps140;go_wp2_with(go_at_call 117;apply Z1 (pl s a _));go_ret2;exact⟨⟨0,R,λn f=>by simp[fA]at f⟩,ZO⟩
 | some m=>
  rw[d]at b;rw[b];have a:=d;go_enter Tryz.func140,Tryz.ntmps140;go_wp2_with(go_at_call 117;refine Z0 (qz7 s m a _) λw' i=>?_);go_ret2;exact⟨⟨m,R,λn f=>by simpa[fA]using f⟩,i⟩
def dv(l:I1):Nat:=l.foldl (λn c=>10*n+(c.toNat-48)) 0
def dg(c:UInt8):Bool:=Zm (48<=c.toNat/\c.toNat<=57)
def kZ(d:Nat)(l:I1):Option Nat:=if 1<=l.length/\l.length<=d/\(1<l.length->l.head?≠S 48)/\l.all dg=Zk then S (dv l)else N
def vR(l:I1):Option Nat:=if 1<=l.length/\l.length<=5/\(1<l.length->l.head?≠S 48)/\l.all dg=Zk/\dv l<=65535 then S (dv l)else N
def lN(l:I1):vR l=(kZ 5 l).filter λn=>Zm (n<=65535):=by
 unfold vR kZ;by_cases h:1<=l.length/\l.length<=5/\(1<l.length->l.head?≠S 48)/\l.all dg=Zk
 .rw[qI h];by_cases g:dv l<=65535
  .rw[qI ⟨h.1,h.2.1,h.2.2.1,h.2.2.2,g⟩];simp[Option.filter,g]
  rw[qF (λx=>g x.2.2.2.2)];simp[Option.filter,g]
 rw[qF h,qF (λx=>h ⟨x.1,x.2.1,x.2.2.1,x.2.2.2.1⟩)];rfl
def yz(l:I1)(c:UInt8):dv (l++[c])=10*dv l+(c.toNat-48):=by rw[dv,List.foldl_append];rfl
def tP:∀(n:Nat)(l:I1),l.length=n->l.all dg=Zk->dv l<10^n:=by
 intro n;induction n with
 | zero=>intro l h _;have:l=[]:=Yz.mp h;subst this;simp[dv]
 | succ n ih=>
  intro l h b;have a:l≠[]:=λe=>by subst e;simp at h
  have e:=XY a;rw[<-e,yz];rw[<-e,Xf]at b;simp only[qH,Wc,List.all_nil,Wl]at b;have:=ih l.dropLast UW b.1;have d:(l.getLast a).toNat<=57:=by have:=b.2;simp[dg]at this;omega
  rw[Nat.pow_succ];omega
def xi(s:I4)(k:Nat)(h:k<s.size):s.data.toList.take (k+1)=s.data.toList.take k++[s[k]]:=by rw[Yd Vq];rfl
def dt(s:I4)(h:0<s.size):s.data.toList.head?=S s[0]:=by
 have:=xi s 0 h;cases e:s.data.toList with
 | nil=>rw[e]at this;simp at this
 | cons a r=>rw[e]at this;simp at this;simp[this]
def iy(s:I4)(k:Nat)(h:k<s.size)(a:dg s[k]=Zl):s.data.toList.all dg=Zl:=by rw[<-XQ (k+1) s.data.toList,xi s k h,Xf,Xf];simp only[Wc,List.all_nil,a,XK,XU]
def cS(s:I4)(e:Ending):Prop:=∃v:Int,e=Zd (Ze #[I L v,Za (vR s.data.toList).isSome])/\∀n,vR s.data.toList=S n->v=(n:Int)
def cS.none{s:I4}(h:vR s.data.toList=N):cS s (Zd (Ze #[I L 0,Zl])):=⟨0,Us,λn a=>by rw[h]at a;exact w_ a WU⟩
def vv(d:Nat)(s:I4)(e:Ending):Prop:=e=Zd (Ze #[I L ((kZ d s.data.toList).getD 0:Nat),Za (kZ d s.data.toList).isSome])
def vv.none{d:Nat}{s:I4}(h:kZ d s.data.toList=N):vv d s (Zd (Ze #[I L 0,Zl])):=by rw[vv,h];rfl
def bm(d:Nat)(f:d<=9)(s:I4)(l:s.size<=maxLen)(h:s.size<1\/d<s.size\/(1<s.size/\s.data.toList.head?=S 48))(w:I6):i_ Tryz.prog 217 #[s,d] w λe w'=>vv d s e/\w'=w:=by
 have b:kZ d s.data.toList=N:=by
  unfold kZ;rw[qF];rintro⟨j,k,i,_⟩;simp only[ZX,YY]at j k i;obtain h|h|h:=h
  .omega
  .omega
  exact i h.1 h.2
 have a:=X (vv.none b);unfold maxLen at l;by_cases c1:s.size<1
 .exact O4
 by_cases c2:d<s.size
 .exact O4
 have c3:1<s.size:=O;have g:s[0]=48:=by exact OV
 have m:s[0].toNat=48:=by rw[g];rfl
 exact O4
def bl(d:Nat)(G:d<=9)(s:I4)(D:1<=s.size)(E:s.size<=d)(m:s.size<=1\/s.data.toList.head?≠S 48)(w:I6):i_ Tryz.prog 217 #[s,d] w λe w'=>vv d s e/\w'=w:=by
 have f:Y (∀k (h:k<s.size),dg s[k]=Zl->vv d s (Zd (Ze #[I L 0,Zl]))):=by intro k h x;apply vv.none;rw[kZ,qF];rintro⟨_,_,_,g⟩;rw[iy s k h x]at g;exact w_ g WW
 have l:Y (s.data.toList.all dg=Zk->vv d s (Zd (Ze #[dv s.data.toList,Zk]))):=by
  intro b;have q:1<=s.data.toList.length/\s.data.toList.length<=d/\(1<s.data.toList.length->s.data.toList.head?≠S 48):=by simp only[ZX,YY];exact⟨D,E,λh=>m.resolve_left O⟩
  unfold vv;have:kZ d s.data.toList=dv s.data.toList:=by rw[kZ,qI ⟨q.1,q.2.1,q.2.2,b⟩]
  rw[this];rfl
 have q:s.size<=1\/((s[0].toNat:Int)==48)=Zl:=by
  obtain m|m:=m
  .exact Zi m
  right;have:=dt s O;rw[this]at m;have:s[0]≠48:=λe=>m (by rw[e]);simp only[qM];intro e;exact this (q6.mp WX)
 by_cases M:s.size<=1;all_goals
  have u:1<s.size->((s[0].toNat:Int)==48)=Zl:=λh=>q.resolve_left O;try have J:=u O;have H:Zm (d<s.size)=Zl:=WX
  go_enter Tryz.func217,Tryz.ntmps217;go_wp2;go_loopg [6,29] s.size (λg n i wr=>∃k:Nat,k+g=s.size/\i=k/\n=(dv (s.data.toList.take k))/\(s.data.toList.take k).all dg=Zk/\wr=w)
  case atStart=>exact⟨0,O,R,R,R,R⟩
  case round=>
   obtain⟨k,K,rfl,rfl,b,rfl⟩:=hrel;have v:=tP k (s.data.toList.take k) WX b;have a:=b;by_cases p:k<s.size
   .have y:10^k<=10^8:=X8 O O;have z:dv (s.data.toList.take k)<=99999999:=O
    have r:=xi s k p;generalize x:dv (s.data.toList.take k)=B at z;have A:=x;by_cases c1:s[k].toNat<48
    .go_wp2;go_ret2;exact⟨f k p (by simp[dg];omega),R⟩
    by_cases c2:57<s[k].toNat
    .go_wp2;go_ret2;exact⟨f k p (by simp[dg];omega),R⟩
    go_wp2;go_roundg (gk-1)
    case measure=>omega
    case rel=>
     refine⟨k+1,O,Vg,?_,?_,R⟩
     .rw[r,yz,A];congr 1;omega
     rw[r,Xf,a];simp[dg];omega
   have C:k=s.size:=O
   subst C;have j:s.data.toList.take s.size=s.data.toList:=Yk WU;rw[j]at a v|-;have o:=l a;generalize dv _=B at o v|-;have F:B<1000000000:=Tv
   go_wp2;go_ret2;exact⟨o,R⟩
def ey(d:Nat)(a:d<=9)(s:I4)(b:s.size<=maxLen)(w:I6):i_ Tryz.prog 217 #[s,d] w λe w'=>vv d s e/\w'=w:=by
 by_cases h:s.size<1\/d<s.size\/(1<s.size/\s.data.toList.head?=S 48)
 .exact bm d a s b h w
 exact bl d a s O O (by
  by_cases g:s.size<=1
  .exact Zi g
  exact Zj λe=>h (Zj (Zj ⟨O,e⟩))) w
def BR(d:Nat)(a:d<=9)(l:I1):(kZ d l).getD 0<1000000000:=by
 unfold kZ;split
 .rename_i h;have:=tP l.length l R h.2.2.2;have b:10^l.length<=10^9:=X8 O O;show dv l<_;omega
 decide
def gc(s:I4)(k:s.size<=maxLen)(w:I6):i_ Tryz.prog 141 #[s] w λe w'=>cS s e/\w'=w:=by
 have a:=ey 5 O s k w;have d:Y (cS s (Zd (Ze #[((kZ 5 s.data.toList).getD 0:Nat),(kZ 5 s.data.toList).isSome&&Zm (((kZ 5 s.data.toList).getD 0:Int)<=65535)]))):=by
  refine⟨(((kZ 5 s.data.toList).getD 0:Nat):Int),?_,?_⟩
  .congr 4;rw[lN];cases h:kZ 5 s.data.toList with
   | none=>rfl
   | some n=>by_cases g:n<=65535<;>simp[Option.filter,g]<;>omega
  intro n f;rw[lN]at f;cases h:kZ 5 s.data.toList with
  | none=>rw[h]at f;exact w_ f (by simp[Option.filter])
  | some m=>
   rw[h]at f;simp only[Option.filter]at f;split at f
   .simp only[Xh]at f;rw[f];rfl
   exact w_ f WU
 unfold vv at a;have i:=BR 5 O s.data.toList;generalize (kZ 5 s.data.toList).getD 0=v at a d i;generalize (kZ 5 s.data.toList).isSome=b at a d;by_cases j:v<=65535
 .cases b;all_goals
   go_enter Tryz.func141,Tryz.ntmps141;go_wp2_with(go_at_call 217;refine Z1 a ?_);go_ret2;exact⟨by have:=d.a;simpa[j,show((v:Int)<=65535)from O]using this,R⟩
 cases b;all_goals
  go_enter Tryz.func141,Tryz.ntmps141;go_wp2_with(go_at_call 217;refine Z1 a ?_);go_ret2;exact⟨by have:=d.a;simpa[j,show ¬((v:Int)<=65535)from O]using this,R⟩
def vn:Nat->UInt8
 | 0=>75
 | 1=>81
 | 2=>107
 | _=>113
def jN(l:I1):Nat->I1
 | 0=>l
 | i+1=>Lib.trimPrefix (jN l i) [vn i]
def zW(l:I1)(i:Nat):Bool:=Lib.hasPrefix (jN l i) [vn i]
def aT(s:I4)(h:s.toList=[45])(w:I6):i_ Tryz.prog 139 #[s] w λe w'=>e=Ze #[Zc #[Zl,Zl,Zl,Zl],Zk]/\Gr w w':=by go_enter Tryz.func139,Tryz.ntmps139;go_wp2;refine ZS (v:=Ze #[Zc #[Zl,Zl,Zl,Zl],Zk]) (by simp[results,Tryz.results139,go_sem]) R ⟨R,?_⟩;repeat(first|exact ZO|apply Gr.alloc)
def Cv(l:I1)(e:Ending):Prop:=e=Zd (Ze #[Zc #[Za (zW l 0),Za (zW l 1),Za (zW l 2),Za (zW l 3)],Za (!l.isEmpty&&(jN l 4).isEmpty)])
def qbT(A:I0)(b:A.size=4)(f:I5)(h:∀j,j<4->A[j]?=(f j)):A=#[Za (f 0),Za (f 1),Za (f 2),Za (f 3)]:=by grind
def Ai(A:I0)(d:A.size=4)(f:I5)(i:Nat)(g:i<4)(b:Bool)(a:b=f i)(h:∀j,j<i->A[j]?=(f j)):(A.setIfInBounds i b).size=4/\∀j,j<i+1->(A.setIfInBounds i b)[j]?=(f j):=by grind
def aR(s:I4)(h:(s.toList==[45])=Zl)(w:I6):i_ Tryz.prog 139 #[s] w λe w'=>Cv s.data.toList e/\Gr w w':=by
 go_enter Tryz.func139,Tryz.ntmps139;go_wp2;go_loopg [5,11] 4 (λg r n wr=>∃i:Nat,i+g=4/\n=i/\(∃q:I4,r=q/\q.data.toList=jN s.data.toList i)/\∃A:I0,wr=(w.alloc (Z #[Zl,Zl,Zl,Zl] 68)).alloc (Z A 68)/\A.size=4/\∀j,j<i->A[j]?=(zW s.data.toList j))
 case atStart=>exact⟨0,R,R,⟨s,R,R⟩,_,R,R,λj J=>O⟩
 case round=>
  obtain⟨i,K,rfl,⟨q,rfl,y⟩,A,rfl,B,l⟩:=hrel;have k:=X l;have b:=X y;clear l y;by_cases a:i<4
  .have C:((w.alloc (Z #[Zl,Zl,Zl,Zl] 68)).alloc (Z A 68)).cell? ⟨w+1,i,N⟩=A[i]' O:=UB;have v:i=0\/i=1\/i=2\/i=3:=O;obtain rfl|rfl|rfl|rfl:=v
   .go_wp2_with(go_at_call 216;apply Z1 (Tryz.strings_CutPrefix _ _ _));go_roundg (gk-1)
    case measure=>omega
    case rel=>obtain⟨d,f⟩:=Ai A B (zW s.data.toList) 0 a (Lib.hasPrefix q.data.toList [vn 0]) U8 k;refine⟨1,O,R,⟨_,R,?_⟩,_,R,d,f⟩;show Lib.trimPrefix q.data.toList [vn 0]=Lib.trimPrefix (jN s.data.toList 0) [vn 0];rw[b.a]
   .go_wp2_with(go_at_call 216;apply Z1 (Tryz.strings_CutPrefix _ _ _));go_roundg (gk-1)
    case measure=>omega
    case rel=>obtain⟨d,f⟩:=Ai A B (zW s.data.toList) 1 a (Lib.hasPrefix q.data.toList [vn 1]) U8 k;refine⟨2,O,R,⟨_,R,?_⟩,_,R,d,f⟩;show Lib.trimPrefix q.data.toList [vn 1]=Lib.trimPrefix (jN s.data.toList 1) [vn 1];rw[b.a]
   .go_wp2_with(go_at_call 216;apply Z1 (Tryz.strings_CutPrefix _ _ _));go_roundg (gk-1)
    case measure=>omega
    case rel=>obtain⟨d,f⟩:=Ai A B (zW s.data.toList) 2 a (Lib.hasPrefix q.data.toList [vn 2]) U8 k;refine⟨3,O,R,⟨_,R,?_⟩,_,R,d,f⟩;show Lib.trimPrefix q.data.toList [vn 2]=Lib.trimPrefix (jN s.data.toList 2) [vn 2];rw[b.a]
   .go_wp2_with(go_at_call 216;apply Z1 (Tryz.strings_CutPrefix _ _ _));go_roundg (gk-1)
    case measure=>omega
    case rel=>obtain⟨d,f⟩:=Ai A B (zW s.data.toList) 3 a (Lib.hasPrefix q.data.toList [vn 3]) U8 k;refine⟨4,O,R,⟨_,R,?_⟩,_,R,d,f⟩;show Lib.trimPrefix q.data.toList [vn 3]=Lib.trimPrefix (jN s.data.toList 3) [vn 3];rw[b.a]
  .have H:i=4:=O;subst H;have G:=qbT A B _ k;subst G;have z:=b;have x:q.toList.isEmpty=(jN s.data.toList 4).isEmpty:=(by rw[<-z,Xl]);have D:s.toList.isEmpty=s.data.toList.isEmpty:=(by rw[Xl]);generalize m:s.data.toList.isEmpty=E at D;generalize p:(jN s.data.toList 4).isEmpty=F at x;have o:=X m;have u:=X p;clear m p z;cases E<;>cases F;all_goals
    go_wp2;refine ZS (v:=Ze #[Zc #[zW s.data.toList 0,zW s.data.toList 1,zW s.data.toList 2,zW s.data.toList 3],!s.data.toList.isEmpty&&(jN s.data.toList 4).isEmpty]) (by rw[o.a,u.a];simp[results,Tryz.results139,go_sem]) R ⟨R,?_⟩
    repeat(first|exact ZO|apply Gr.alloc)
def vS(l:I1):Option (I5):=if l=[45]then S (λ_=>Zl)else if !l.isEmpty&&(jN l 4).isEmpty then S (zW l)else N
def nr(l:I1)(e:Ending):Prop:=∃f:I5,e=Zd (Ze #[Zc #[Za (f 0),Za (f 1),Za (f 2),Za (f 3)],Za (vS l).isSome])/\∀g,vS l=S g->f=g
def fq(s:I4)(w:I6):i_ Tryz.prog 139 #[s] w λe w'=>nr s.data.toList e/\Gr w w':=by
 by_cases h:s.toList=[45]
 .refine Z0 (aT s h w) λw' a=>?_;have b:vS s.data.toList=S (λ_=>Zl):=by rw[vS,qI (by rw[<-Xl];exact h)]
  exact⟨⟨λ_=>Zl,by rw[b];rfl,λg a=>by rw[b]at a;simpa using a⟩,a⟩
 refine(aR s Vq w).mono ?_;rintro e w' ⟨i,a⟩;have d:¬s.data.toList=[45]:=by rw[<-Xl];exact h
 refine⟨⟨zW s.data.toList,?_,?_⟩,a⟩
 .rw[i];congr 4;rw[vS,qF d];cases (!s.data.toList.isEmpty&&(jN s.data.toList 4).isEmpty)<;>rfl
 intro g a;unfold vS at a;rw[qF d]at a;cases f:(!s.data.toList.isEmpty&&(jN s.data.toList 4).isEmpty)with
 | true=>rw[f]at a;simpa using a
 | false=>rw[f]at a;exact w_ a WU
def qd(w:I6)(n:Nat)(a:Addr)(v:I7):(w.drewN n).setCell a v=(w.setCell a v).drewN n:=R
def qe(w:I6)(n:Nat)(o:Obj):(w.drewN n).alloc o=(w.alloc o).drewN n:=R
attribute [local go_sem] qd qe Oper.semAt_some
def Gr.drewN{a b:I6}(h:Gr a b)(n:Nat):Gr a (b.drewN n):=u_ h ⟨R,R,R,Zy,λ_ _=>R⟩
def r_:type_of% @Gr.drewN:=@Gr.drewN
def xU:I1:=[80,78,66,82,81,75,112,110,98,114,113,107]
def bz(c:UInt8):Bool:=!decide (e_ xU c<0)
def uT(c:UInt8):Bool:=Zm (49<=c.toNat)&&Zm (c.toNat<=56)
def zZ(st:Option (List Int×Bool))(c:UInt8):Option (List Int×Bool):=
 match st with
 | none=>N
 | some (acc,a)=>
  if uT c then(if a||decide (8<acc.length+(c.toNat-48))then N else S (acc++List.replicate (c.toNat-48) 46,Zk))
  else if bz c then(if 8<acc.length+1 then N else S (acc++[(c.toNat:Int)],Zl))else N
def vY(l:I1):Option (List Int×Bool):=l.foldl zZ (S ([],Zl))
def jL(l:I1):Option (List Int):=
 match vY l with
 | some (acc,_)=>if acc.length=8 then S acc else N
 | none=>N
def vj(l:I1)(c:UInt8):vY (l++[c])=zZ (vY l) c:=by rw[vY,List.foldl_append];rfl
def Ao(l:I1):l.foldl zZ N=N:=by
 induction l with
 | nil=>rfl
 | cons c r ih=>exact ih
def zn(s:I4)(k:Nat)(h:k<s.size)(a:zZ (vY (s.data.toList.take k)) s[k]=N):jL s.data.toList=N:=by
 unfold jL;have:vY s.data.toList=N:=by rw[<-XQ (k+1) s.data.toList,xi s k h];unfold vY at a|-;rw[List.foldl_append,List.foldl_append];simp only[List.foldl_cons,List.foldl_nil];rw[a,Ao]
 rw[this]
def yu(acc:List Int)(R:I0):Prop:=R.size=8/\(∀j (h:j<acc.length),R[j]?=S (I Zg acc[j]))/\∀j,j<8->∃z,R[j]?=S (I Zg z)
def yu.nil:yu [] #[I Zg 0,I Zg 0,I Zg 0,I Zg 0,I Zg 0,I Zg 0,I Zg 0,I Zg 0]:=
 ⟨R,λj h=>by simp at h,λj h=>⟨0,by
  have:j=0\/j=1\/j=2\/j=3\/j=4\/j=5\/j=6\/j=7:=O
  rcases this with rfl|rfl|rfl|rfl|rfl|rfl|rfl|rfl<;>rfl⟩⟩
def yu.snoc{a:List Int}{R:I0}(h:yu a R)(f:a.length<8)(c:Int):yu (a++[c]) (R.setIfInBounds a.length (I Zg c)):=by
 refine⟨by simpa using h.1,λj d=>?_,λj d=>?_⟩
 .rw[Yu];by_cases e:a.length=j
  .subst e;rw[qI rfl,qI (by rw[h.1];exact f)];simp
  have b:j<a.length:=U2;rw[qF e,h.2.1 j b,List.getElem_append_left b]
 rw[Yu];by_cases e:a.length=j
 .exact⟨c,by rw[qI e,qI (by rw[h.1];exact f)]⟩
 rw[qF e];exact h.2.2 j d
def yu.done{a:List Int}{R:I0}(h:yu a R)(d:a.length=8):R=(a.map (I Zg)).toArray:=by
 apply YV;intro i;by_cases b:i<8
 .rw[h.2.1 i O];simp[d,b]
 rw[Z6 (by have:=h.1;omega),Z6 WX]
def uU{k:List Int}{R:I0}(h:yu k R):∃a b c d e f g i:Int,R=#[I Zg a,I Zg b,I Zg c,I Zg d,I Zg e,I Zg f,I Zg g,I Zg i]:=by
 obtain⟨a,l⟩:=h.2.2 0 O;obtain⟨b,m⟩:=h.2.2 1 O;obtain⟨c,n⟩:=h.2.2 2 O;obtain⟨d,o⟩:=h.2.2 3 O;obtain⟨e,p⟩:=h.2.2 4 O;obtain⟨f,q⟩:=h.2.2 5 O;obtain⟨g,r⟩:=h.2.2 6 O;obtain⟨i,u⟩:=h.2.2 7 O;refine⟨a,b,c,d,e,f,g,i,?_⟩;apply YV;intro j;by_cases v:j<8
 .have:j=0\/j=1\/j=2\/j=3\/j=4\/j=5\/j=6\/j=7:=O;rcases this with rfl|rfl|rfl|rfl|rfl|rfl|rfl|rfl<;>simp[*]
 rw[Z6 (by have:=h.1;omega),Z6 WX]
def yf(l:I1)(e:Ending):Prop:=(∃acc,jL l=S acc/\e=Zd (Ze #[Zc (acc.map (I Zg)).toArray,Za Zk]))\/(jL l=N/\∃a b c d e' f g i:Int,e=Zd (Ze #[Zc #[I Zg a,I Zg b,I Zg c,I Zg d,I Zg e',I Zg f,I Zg g,I Zg i],Za Zl]))
def rh(s:I4)(hs:s.size<=maxLen)(w:I6):i_ Tryz.prog 215 #[s] w λe w'=>yf s.data.toList e/\Gr w w':=by
 unfold maxLen at hs;go_enter Tryz.func215,Tryz.ntmps215;go_wp2;go_loopg [5,6,13] s.size (λg a5 af i wr=>∃k:Nat,k+g=s.size/\i=k/\∃(d:List Int)(a:Bool),vY (s.data.toList.take k)=S (d,a)/\a5=d.length/\af=a/\∃(v:I0)(n:Nat),wr=((w.alloc (Z #[I Zg 0,I Zg 0,I Zg 0,I Zg 0,I Zg 0,I Zg 0,I Zg 0,I Zg 0] 277)).alloc (Z v 277)).drewN n/\yu d v/\d.length<=8)
 case atStart=>exact⟨0,O,R,[],Zl,R,R,R,_,0,R,yu.nil,WU⟩
 case round=>
  obtain⟨k,k1,rfl,d,a,V,rfl,rfl,v,n,rfl,T,a2⟩:=hrel;have H:=X V;have hR:=X T;clear V T;by_cases r:k<s.size
  .by_cases E:49<=s[k].toNat/\s[k].toNat<=56
   .obtain⟨b2,a0⟩:=E;have q:Y (uT s[k]=Zk):=X (by unfold uT;rw[qJ b2,qJ a0];rfl);cases a
    .by_cases J:8<d.length+(s[k].toNat-48)
     .have l:Y (jL s.data.toList=N):=X (zn s k r (by rw[H.a];unfold zZ;simp only[q.a,YS,Xo,qJ J]));exact IL
     .go_wp2;go_region;go_wp2;go_loopg [5,45] (s[k].toNat-48) (λg a5 jj wr=>∃j:Nat,j+g=s[k].toNat-48/\jj=j/\∃b:List Int,b=d++List.replicate j 46/\a5=b.length/\∃(v:I0)(n:Nat),wr=((w.alloc (Z #[I Zg 0,I Zg 0,I Zg 0,I Zg 0,I Zg 0,I Zg 0,I Zg 0,I Zg 0] 277)).alloc (Z v 277)).drewN n/\yu b v)
      case atStart=>exact⟨0,O,R,d,WU,R,v,_,R,hR.a⟩
      case round=>
       obtain⟨j,j1,rfl,b,f,rfl,K,n',rfl,m⟩:=hrel;have h:=X f;have p:=X m;have o:b.length=d.length+j:=(by rw[f];simp);clear f m;by_cases hj:j<s[k].toNat-48
       .have P:b.length<8:=O;have a1:=p.a.1;have Q:b.length<K.size:=O;clear o;have b1:((w.alloc (Z #[I Zg 0,I Zg 0,I Zg 0,I Zg 0,I Zg 0,I Zg 0,I Zg 0,I Zg 0] 277)).alloc (Z K 277)).cell? ⟨w+1,b.length,N⟩=K[b.length]'Q:=UB;go_wp2;go_roundg (gk-1)
        case measure=>omega
        case rel=>refine⟨j+1,O,Vg,b++[46],?_,WU,_,_,R,p.a.snoc P _⟩;rw[h.a,qS,<-List.replicate_succ']
       .have a7:j=s[k].toNat-48:=O;clear o;go_wp2;go_roundg (s.size-k-1)
        case measure=>omega
        case rel=>have M:=h.a;rw[a7]at M;refine⟨k+1,O,Vg,b,Zk,?_,R,R,K,_,R,p.a,by rw[M];simp;omega⟩;rw[xi s k r,vj,H.a,M];unfold zZ;simp only[q.a,YS,Xo,qE J,qR,YH]
    .have l:Y (jL s.data.toList=N):=X (zn s k r (by rw[H.a];unfold zZ;simp only[q.a,YS,Bool.true_or]));exact IL
   .have q:Y (uT s[k]=Zl):=X (by unfold uT;rw[<-Bool.decide_and];exact qE E);have E:s[k].toNat<49\/56<s[k].toNat:=O;have hu:(s[k].toNat:Int).toNat.toUInt8=s[k]:=WU;have a6:Y (bz s[k]=!decide (e_ xU s[k]<0)):=X R;generalize W:e_ xU s[k]=ix at a6;have a3:e_ [80,78,66,82,81,75,112,110,98,114,113,107] s[k]=ix:=W;clear W;by_cases b0:ix<0
    .have l:Y (jL s.data.toList=N):=X (zn s k r (by rw[H.a];unfold zZ;simp only[q.a,a6.a,qJ b0];rfl));exact WN
    .have a8:Y (bz s[k]=Zk):=X (by rw[a6.a,qE b0];rfl);by_cases J:8<d.length+1
     .have l:Y (jL s.data.toList=N):=X (zn s k r (by rw[H.a];unfold zZ;simp only[q.a,a8.a,qR,YH,YS,J]));exact WN
     .obtain E|E:=E;all_goals
       go_wp2;go_region;go_wp2_with(go_at_call 200;refine Z1 (Tryz.strings_IndexByte _ _ _) ?_);go_loopg [5,45] (1) (λg a5 jj wr=>∃j:Nat,j+g=1/\jj=j/\∃b:List Int,b=d++List.replicate j (s[k].toNat:Int)/\a5=b.length/\∃(v:I0)(n:Nat),wr=((w.alloc (Z #[I Zg 0,I Zg 0,I Zg 0,I Zg 0,I Zg 0,I Zg 0,I Zg 0,I Zg 0] 277)).alloc (Z v 277)).drewN n/\yu b v)
       case atStart=>exact⟨0,O,R,d,WU,R,v,_,R,hR.a⟩
       case round=>
        obtain⟨j,j1,rfl,b,f,rfl,K,n',rfl,m⟩:=hrel;have h:=X f;have p:=X m;have o:b.length=d.length+j:=(by rw[f];simp);clear f m;by_cases hj:j<1
        .have P:b.length<8:=O
         have a1:=p.a.1;have Q:b.length<K.size:=O
         clear o;have b1:((w.alloc (Z #[I Zg 0,I Zg 0,I Zg 0,I Zg 0,I Zg 0,I Zg 0,I Zg 0,I Zg 0] 277)).alloc (Z K 277)).cell? ⟨w+1,b.length,N⟩=K[b.length]'Q:=UB
         go_wp2;go_roundg (gk-1)
         case measure=>omega
         case rel=>refine⟨j+1,O,Vg,b++[(s[k].toNat:Int)],?_,WU,_,_,R,p.a.snoc P _⟩;rw[h.a,qS,<-List.replicate_succ']
        .have a7:j=1:=O
         clear o;go_wp2;go_roundg (s.size-k-1)
         case measure=>omega
         case rel=>have M:=h.a;rw[a7]at M;refine⟨k+1,O,Vg,b,Zl,?_,R,R,K,_,R,p.a,by rw[M];simp;omega⟩;rw[xi s k r,vj,H.a,M];unfold zZ;simp only[q.a,a8.a,qR,YH,YS,J];rfl
  .have ek:k=s.size:=O;subst ek;have a9:s.data.toList.take s.size=s.data.toList:=Yk WU;rw[a9]at H;clear a9;by_cases J:d.length=8
   .have F:=hR.a.done J;obtain⟨u,x,y,z,A,B,C,D,rfl⟩:=uU hR.a;have G:Y (yf s.data.toList (Zd (Ze #[Zc #[I Zg u,I Zg x,I Zg y,I Zg z,I Zg A,I Zg B,I Zg C,I Zg D],Zk]))) :=
     X (Zi ⟨d,by unfold jL;rw[H.a];simp[J],by rw[<-F]⟩)
    clear hR F H;go_wp2;refine ZS (v:=Ze #[Zc #[I Zg u,I Zg x,I Zg y,I Zg z,I Zg A,I Zg B,I Zg C,I Zg D],Zk]) Vr R ⟨G.a,?_⟩;exact OC
   .obtain⟨u,x,y,z,A,B,C,D,rfl⟩:=uU hR.a;have G:Y (yf s.data.toList (Zd (Ze #[Zc #[I Zg u,I Zg x,I Zg y,I Zg z,I Zg A,I Zg B,I Zg C,I Zg D],Zl]))) :=
     X (Zj ⟨by unfold jL;rw[H.a];simp[J],_,_,_,_,_,_,_,_,R⟩)
    have a4:((d.length:Int)==8)=Zl:=WX;clear hR H J;go_wp2;refine ZS (v:=Ze #[Zc #[I Zg u,I Zg x,I Zg y,I Zg z,I Zg A,I Zg B,I Zg C,I Zg D],Zl]) Vr R ⟨G.a,?_⟩;exact OC
def qj5{P:Program}{q:Array Oper}{o:Oper}{a:Act}{w:I6}{K:Act->I6->Prop}{Q:Exit->Act->I6->Prop}{E:Prop}(u:o.guard=N)(d s:Operand)(dT sT:TypeId)(C:o.op=.call { callee:=.builtin .copy,args:=#[d,s],argTypes:=#[dT,sT] }) (e:TypeId) (F:P.underlying dT=S (.slice e)) (x:(P.info? e).map (·.size)=S 1)(g f b k:Nat) (r:Addr) (i l:Nat) (z:a.eval d=.slice (S ⟨g,f,N⟩) b k) (D:a.eval s=.slice (S r) i l)(cur:I0) (t:TypeId) (A:w.heap[g]?=Z cur t (0,0)) (cs:List I7) (B:cs.length=Nat.min i b)(p:∀j v,cs[j]?=S v->w.cell? (r.add j)=S v) (m:f+cs.length<=cur.size) (y:∀v∈cs,v.oneCell'=Zk)(h:K (a.put o.dst (goInt cs.length)) (w.setRow g (cur.toList.take f++(cs++cur.toList.drop (f+cs.length))).toArray)):if Region.wanted o (yielded q a.tmps)=Zk then Oper.wp P o a w K Q else E:=by
 have G:Region.wanted o (yielded q a.tmps)=Zk:=by simp[Region.wanted,u]
 rw[qI G];have n:=run_copy_row (P:=P) w dT sT o.type e g f b k r i l cur t cs F x A B p m y;unfold Oper.wp;simp[execOp,C,resolve,invoke,builtin,z,D,n,Result.andThen];exact h
def jK(xs:I3):Option (List (List Int)):=
 match xs with
 | []=>S []
 | x::r=>match jL x.data.toList,jK r with
  | some a,S b=>S (a::b)
  | _,_=>N
theorem uJ(d:I3)(x:I4):jK (d++[x])=match jK d,jL x.data.toList with
 | some a,S b=>S (a++[b])
 | _,_=>N:=by
 induction d with
 | nil=>simp only[Wj,jK];cases jL x.data.toList<;>rfl
 | cons y r ih=>
  simp only[YA,jK,ih];cases jL y.data.toList<;>cases jK r<;>cases jL x.data.toList<;>rfl
def eY(a:I3)(k:Nat)(h:k<a.length)(b:jL (a[k]).data.toList=N):jK a=N:=by
 induction a generalizing k with
 | nil=>simp at h
 | cons y r ih=>
  cases k with
  | zero=>simp only[jK];simp at b;rw[b]
  | succ k=>simp only[jK];rw[ih k Vq VE];cases jL y.data.toList<;>rfl
def xL(c:UInt8)(n:Nat)(s:I4):I3:=Lib.splitB ⟨#[c]⟩ 0 (min n (s.size+1)-1) s
def j7(s:I4):Option (List Int):=
 if(xL 47 9 s).length=8 then match jK (xL 47 9 s)with
  | some rs=>S rs.reverse.flatten
  | none=>N
 else N
def iL(A:I0):Prop:=A.size=64/\A.all (·.oneCell')=Zk
def vm(s:I4)(e:Ending):Prop:=(∃b,j7 s=S b/\b.length=64/\e=Zd (Ze #[Zc (b.map (I Zg)).toArray,Za Zk]))\/(j7 s=N/\∃A:I0,iL A/\e=Zd (Ze #[Zc A,Za Zl]))
def kH(rs:List (List Int)):List I7:=List.replicate (64-8*rs.length) (I Zg 0)++(rs.reverse.flatten).map (I Zg)
def yw(rs:List (List Int)):Prop:=∀r∈rs,r.length=8
theorem qxe:∀(rs:List (List Int)),yw rs->rs.flatten.length=8*rs.length
 | [],_=>rfl
 | r::t,h=>by
  rw[List.flatten_cons,qZ,qxe t (λx a=>h x VM),h r WU];simp;omega
def qvu{rs:List (List Int)}(h:yw rs):yw rs.reverse:=λr a=>h r VS
def tV(rs:List (List Int))(h:yw rs)(a:rs.length<=8):(kH rs).length=64:=by rw[kH,qZ,YD,qxe _ (qvu h)];simp;omega
def gb(rs:List (List Int))(h:yw rs)(b:rs.length<=8):iL (kH rs).toArray:=by
 refine⟨by simpa using tV rs h b,?_⟩;rw[List.all_toArray,qW];intro v a;unfold kH at a;rw[Yi]at a;obtain a|a:=a
 .rw[(List.mem_replicate.mp a).2];rfl
 obtain⟨z,_,rfl⟩:=YL.mp a;rfl
def m8(rs:List (List Int))(r:List Int)(b:rs.length<8)(a:r.length=8):((kH rs).toArray.toList.take (8*(7-rs.length))++(r.map (I Zg)++(kH rs).toArray.toList.drop (8*(7-rs.length)+(r.map (I Zg)).length)))=kH (rs++[r]):=by unfold kH;rw[YD,a];rw[Wg WX,List.take_replicate,show min (8*(7-rs.length)) (64-8*rs.length)=64-8*(rs++[r]).length from WX];rw[List.drop_append,List.drop_replicate,show 64-8*rs.length-(8*(7-rs.length)+8)=0 from O,List.length_replicate,show 8*(7-rs.length)+8-(64-8*rs.length)=0 from O];simp
def gB{l:I1}{a:List Int}(h:jL l=a):a.length=8:=by grind[jL]
theorem jg:∀(g:I3) (rs:List (List Int)),jK g=rs->yw rs/\rs.length=g.length
 | [],rs,h=>by simp[jK]at h;subst h;exact⟨λr d=>by simp at d,R⟩
 | x::t,rs,h=>by
  unfold jK at h;cases e:jL x.data.toList with
  | none=>rw[e]at h;simp at h
  | some a=>
   cases f:jK t with
   | none=>rw[e,f]at h;simp at h
   | some b=>
    rw[e,f]at h;simp at h;subst h;obtain⟨i,j⟩:=jg t b f;exact⟨λr d=>by obtain rfl|d:=Yj.mp d;exact gB e;exact i r d,by simp[j]⟩
theorem zc(a:I4):∀(k:Nat)(s x:I4),x∈Lib.splitB a 0 k s->x.size<=s.size
 | 0,s,x,h=>by simp[Lib.splitB]at h;subst h;exact Zy
 | k+1,s,x,h=>by
  unfold Lib.splitB at h;split at h
  .simp at h;subst h;exact Zy
  obtain rfl|h:=Yj.mp h
  .rw[Wu];omega
  have:=zc a k _ x h;rw[Wu]at this;omega
def x7:(Tryz.prog.info? 67).map (·.size)=S 64:=WR
def EZ:(Tryz.prog.info? 5).map (·.size)=S 1:=WR
def qj{P:Program}{b:Func}{p q:Tmp}{ty:TypeId}(h:b.results=#[.cell p ty,.tmp q])(tmps:I0)(w:I6)(g:Nat)(t:TypeId)(cs:I0)(fr:Nat×Nat)(d:TypeDesc)(j:tmps.getD p m_=.pointer (S ⟨g,0,N⟩)) (f:w.heap[g]?=Z cs t fr)(k:P.underlying ty=d) (e:(match d with|.struct _|.array _ _=>Zk|_=>Zl)=Zk) (i:(P.info? ty).map (·.size)=S cs.size):(results b tmps).run P w=.ok (Ze #[cs,tmps.getD q m_]) w:=by
 have a:tmps[p]?.getD m_=.pointer (S ⟨g,0,N⟩):=by simpa using j
 simp[results,h,a,asAddr,run_loadVar_row w g t ty cs fr d f k e i]
def lM(w:I6)(a b c:Obj):(((w.alloc a).alloc b).alloc c).heap[w.heap.size]?=a/\(((w.alloc a).alloc b).alloc c).heap[w.heap.size+1]?=b/\(((w.alloc a).alloc b).alloc c).heap[w.heap.size+2]?=c:=by
 have e:(((w.alloc a).alloc b).alloc c).heap=((w.heap.push a).push b).push c:=R;rw[e];refine⟨?_,?_,?_⟩
 .simp only[Array.getElem?_push,Array.size_push];rw[qF O,qF O,qI x_]
 .simp only[Array.getElem?_push,Array.size_push];rw[qF O,qI x_]
 simp only[Array.getElem?_push,Array.size_push];rw[qI x_]
def BAt(w:I6)(N:Nat)(xs:I3)(sq:I0)(wr:I6):Prop:=(∃A,iL A/\wr.heap[w.heap.size]?=S (Z A 67))/\wr.heap[w.heap.size+1]?=S (Z sq 67)/\wr.heap[w.heap.size+2]?=S (Z (Lib.cellsOf xs N) 9)/\w.heap.size+3<=wr.heap.size/\Gr w wr
def iY(s:I4)(b:s.size<4294967281)(m:Int)(w:I6)(a:w.cell? ⟨4,0,N⟩=I L m):i_ Tryz.prog 136 #[s,Zb ⟨#[47]⟩,I L 9] w λe w'=>e=Zq (S w) (xL 47 9 s).length (min 9 (s.size+1))/\w'=w.alloc (Z (Lib.cellsOf (xL 47 9 s) (min 9 (s.size+1))) 9):=Tryz.strings_SplitN s ⟨#[47]⟩ 9 m w b a WW O O
def qjn(a:I3)(b k:Nat)(h:k<a.length):(Lib.cellsOf a b)[k]?=a[k]:=by rw[Lib.cellsOf,Xu,List.getElem?_append_left Vq];simp[h]
def kQ:I0:=#[I Zg 0,I Zg 0,I Zg 0,I Zg 0,I Zg 0,I Zg 0,I Zg 0,I Zg 0,I Zg 0,I Zg 0,I Zg 0,I Zg 0,I Zg 0,I Zg 0,I Zg 0,I Zg 0,I Zg 0,I Zg 0,I Zg 0,I Zg 0,I Zg 0,I Zg 0,I Zg 0,I Zg 0,I Zg 0,I Zg 0,I Zg 0,I Zg 0,I Zg 0,I Zg 0,I Zg 0,I Zg 0,I Zg 0,I Zg 0,I Zg 0,I Zg 0,I Zg 0,I Zg 0,I Zg 0,I Zg 0,I Zg 0,I Zg 0,I Zg 0,I Zg 0,I Zg 0,I Zg 0,I Zg 0,I Zg 0,I Zg 0,I Zg 0,I Zg 0,I Zg 0,I Zg 0,I Zg 0,I Zg 0,I Zg 0,I Zg 0,I Zg 0,I Zg 0,I Zg 0,I Zg 0,I Zg 0,I Zg 0,I Zg 0]
def qk5:iL kQ:=⟨R,WS⟩
def Cu:kQ=(kH []).toArray:=WR
def Gr.setRow{a b:I6}(h:Gr a b)(g:Nat)(d:a<=g)(cs:I0):Gr a (b.setRow g cs):=u_ h ⟨R,R,R,by simp[World.setRow],λk e=>setRow_other b g k cs O⟩
def nO(s:I4)(y:s.size<4294967281)(m:Int)(w:I6)(u:w.cell? ⟨4,0,N⟩=S (I L m))(z:4<w.heap.size)(r:(xL 47 9 s).length≠8):i_ Tryz.prog 137 #[Zb s] w λe w'=>vm s e/\Gr w w':=by
 have p:=u;clear u;have f:vm s (Zd (Ze #[kQ,Zl])):=Zj ⟨by rw[j7,qF r],kQ,qk5,R⟩;have x:(((xL 47 9 s).length:Int)==8)=Zl:=WX;clear r;go_enter Tryz.func137,Tryz.ntmps137;go_wp2_with fail;refine(iY s y m _ ?_).mono ?_
 .rw[YZ _ _ _ WX,YZ _ _ _ z];exact p
 rintro e q ⟨rfl,b⟩;have o:=lM w (Z kQ 67) (Z kQ 67) (Z (Lib.cellsOf (xL 47 9 s) (min 9 (s.size+1))) 9);have n:Gr w q:=by rw[b];exact ZN.al.al
 have g:q.heap[w.heap.size]?=Z kQ 67:=by rw[b];exact o.1
 have h:q.heap[w.heap.size+1]?=Z kQ 67:=by rw[b];exact o.2.1
 clear o b;generalize k:kQ=v at g h f;have j:v.size=64:=by rw[<-k];rfl
 have l:v.all (·.oneCell')=Zk:=by rw[<-k];exact qk5.2
 clear k;have d:=g;have i:=h;have a:=j;clear g h j;go_wp2_with(first|(refine ZV R 67 _ R (w+1) R 67 v (0,0) _ i Tryz.underlying67 rfl (by rw[a];exact x7) ?_)|(refine ZU R 67 _ _ R w v R R 67 v d (by rw[a];exact x7) R l ?_));exact ZS (v:=Ze #[v,Zl]) (qj Tryz.results137 _ _ w 67 v (0,0) _ R (Zt d) Tryz.underlying67 rfl (by rw[a];exact x7)) R ⟨f,n.setRow _ Zy _⟩
def GJ(l:List Int)(h:l.length=8):∃a b c d e f g i,l=[a,b,c,d,e,f,g,i]:=by
 match l,h with
 | [a,b,c,d,e,f,g,i],_=>exact⟨a,b,c,d,e,f,g,i,R⟩
def nR(s:I4)(hs:s.size<4294967281)(m:Int)(w:I6)(hm:w.cell? ⟨4,0,N⟩=S (I .i64 m))(hz:4<w.heap.size)(L:(xL 47 9 s).length=8):i_ Tryz.prog 137 #[Zb s] w λe w'=>vm s e/\Gr w w':=by
 have b2:=X hm;clear hm;have q:Y (jK (xL 47 9 s)=N->∀A,iL A->vm s (Zd (Ze #[Zc A,Za Zl]))) :=
  X (λh A hA=>Zj ⟨by unfold j7;rw[qI L,h],A,hA,R⟩)
 have l:Y (∀rs,jK (xL 47 9 s)=S rs->vm s (Zd (Ze #[Zc (kH rs).toArray,Za Zk]))):=X (by
  intro rs h;obtain⟨e1,e2⟩:=jg _ _ h;refine Zi ⟨rs.reverse.flatten,by unfold j7;rw[qI L,h],?_,?_⟩
  .rw[qxe _ (qvu e1),List.length_reverse,e2,L]
  .unfold kH;rw[e2,L];simp)
 have d5:Y (∀x∈xL 47 9 s,x.size<=s.size):=X (λx hx=>zc _ _ _ _ hx);go_enter Tryz.func137,Tryz.ntmps137;go_wp2_with fail;refine(iY s hs m _ ?_).mono ?_
 .rw[YZ _ _ _ WX,YZ _ _ _ hz];exact b2.a
 rintro e w3 ⟨rfl,a9⟩;have d:BAt w (min 9 (s.size+1)) (xL 47 9 s) (kH []).toArray w3:=by have hh:=lM w (Z kQ 67) (Z kQ 67) (Z (Lib.cellsOf (xL 47 9 s) (min 9 (s.size+1))) 9);rw[a9];exact⟨⟨kQ,qk5,hh.1⟩,by rw[<-Cu];exact hh.2.1,hh.2.2,Nat.le_of_eq (by rw[Z3,Z3,Z3]),ZN.al.al⟩
 clear a9;generalize xL 47 9 s=D at L q l d5 d|-;generalize min 9 (s.size+1)=c5 at d|-;have F:=X d;have c6:=X L;clear d;go_wp2;go_loopg [18] 8 (λg i wr=>∃k:Nat,k+g=8/\i=I .i64 k/\∃rs,jK (D.take k)=S rs/\BAt w c5 D (kH rs).toArray wr)
 case atStart=>exact⟨0,R,R,[],R,F.a⟩
 case round=>
  clear F;obtain⟨k,k1,rfl,rs,C,⟨A0,P,Q⟩,d0,d4,a8,V⟩:=hrel;have E:=X C;have b:=X (jg _ _ C);have p:=X Q;have u:=X d0;have y:=X d4;have H:=X V;have r:=X P;clear C Q d0 d4 V P;by_cases W:k<8
  .have hk:k<D.length:=(by rw[c6.a];exact W);have J:wr.cell? ⟨w.heap.size+2,k,N⟩=S (Zb D[k]):=(by rw[Zs y.a];exact qjn D c5 k hk);have a:=X (gb rs b.a.1 UT);go_wp2_with fail;refine(rh D[k] (by have:=d5.a D[k] (Xs hk);unfold maxLen;omega) _).mono ?_;rintro e M ⟨hr,n⟩;have h0:Y (∀o,(M.alloc o).heap[w.heap.size]?=S (Z A0 67)):=X (λo=>by rw[heap_alloc_old _ _ Tu,Zz n O];exact p.a);have h1:Y (∀o,(M.alloc o).heap[w.heap.size+1]?=S (Z (kH rs).toArray 67)):=X (λo=>by rw[heap_alloc_old _ _ Tu,Zz n O];exact u.a);have h2:Y (∀o,(M.alloc o).heap[w.heap.size+2]?=S (Z (Lib.cellsOf D c5) 9)):=X (λo=>by rw[heap_alloc_old _ _ Tu,Zz n O];exact y.a);have T:Y (∀c,Gr w (M.alloc (Z c 277))):=X (λc=>(H.a.trans n).alloc _ _);have b6:w.heap.size+3<=M.heap.size:=Tu;clear p u y J a8;obtain⟨b0,ha,rfl⟩|⟨hn,a0,a1,a2,a3,a4,a5,a6,a7,rfl⟩:=hr
   .obtain⟨a0,a1,a2,a3,a4,a5,a6,a7,rfl⟩:=GJ b0 (gB ha);have b1:=X ha;clear ha;go_wp2;have d1:rs.length=k:=UT;have G:8*(7-k)+8<=(kH rs).toArray.size:=(by rw[a.a.1];omega);have d3:=X d1;clear d1;obtain⟨o,ho⟩:∃o:Nat,o=8*(7-k):=⟨_,R⟩;have b7:a_ .i64 (7-(k:Int))=7-(k:Int):=Vc;have c4:a_ .i64 (8*(7-(k:Int)))=(o:Int):=Vc;have b5:(o:Int)<=64:=O;have b4:o<=56:=O;have K:o+8<=(kH rs).toArray.size:=(by rw[ho];exact G);have b3:=X ho;clear ho G;go_region_law (refine qj5 R (.tmp 34) (.tmp 35) 145 145 rfl 5 Tryz.underlying145 EZ (w.heap.size+1) o (64-o) (64-o) ⟨M.heap.size,0,N⟩ 8 8 (by simp[Act.eval,Act.put];omega) (by simp[Act.eval,Act.put]) (kH rs).toArray 67 (h1.a _) [I Zg a0,I Zg a1,I Zg a2,I Zg a3,I Zg a4,I Zg a5,I Zg a6,I Zg a7] (Nat.min_eq_left (show 8<=64-o from O)).symm (by intro j v hj;rw[X2,Z2];show(World.alloc _ _).cell? _=_;rw[Z8 _ _ _ _ R];simpa using hj) K Vi ?_);go_wp2;go_roundg (gk-1)
    case measure=>omega
    case rel=>
     have d2:=m8 rs [a0,a1,a2,a3,a4,a5,a6,a7] (by rw[d3.a];exact W) R;rw[d3.a,<-b3.a]at d2;refine⟨k+1,O,Vg,rs++[[a0,a1,a2,a3,a4,a5,a6,a7]],?_,⟨A0,r.a,?_⟩,?_,?_,?_,?_⟩
     .rw[Yd hk,uJ,E.a,b1.a]
     .exact(Zu O).trans (h0.a _)
     .rw[<-d2];exact Zt (h1.a _)
     .exact(Zu O).trans (h2.a _)
     .rw[Xa];show _<=(World.alloc _ _).heap.size;rw[Z3];omega
     .exact(T.a _).drew.setRow _ O _
   .have z:=X (q.a (eY D k hk hn) _ a.a);clear hn q l;have f:=X a.a.1;go_wp2_with(first|(refine ZV R 67 _ R (w.heap.size+1) R 67 (kH rs).toArray (0,0) _ (h1.a _) Tryz.underlying67 rfl V7 ?_)|(refine ZU R 67 _ _ R w.heap.size (kH rs).toArray R R 67 A0 (h0.a _) V7 (by rw[r.a.1,f.a]) a.a.2 ?_));exact ZS (v:=Ze #[Zc (kH rs).toArray,Za Zl]) (qj Tryz.results137 _ _ w.heap.size 67 _ (0,0) _ R (Zt (h0.a _)) Tryz.underlying67 rfl V7) R ⟨z.a,(T.a _).setRow _ Zy _⟩
  .have ek:k=8:=O;subst ek;have B:D.take 8=D:=Yk (by rw[c6.a];exact Zy);rw[B]at E;have z:=X (l.a rs E.a);have a:=X (gb rs b.a.1 UT);have f:=X a.a.1;clear q l b E B;go_wp2_with(first|(refine ZV R 67 _ R (w.heap.size+1) R 67 (kH rs).toArray (0,0) _ u.a Tryz.underlying67 rfl V7 ?_)|(refine ZU R 67 _ _ R w.heap.size (kH rs).toArray R R 67 A0 p.a V7 (by rw[r.a.1,f.a]) a.a.2 ?_));exact ZS (v:=Ze #[Zc (kH rs).toArray,Za Zk]) (qj Tryz.results137 _ _ w.heap.size 67 _ (0,0) _ R (Zt p.a) Tryz.underlying67 rfl V7) R ⟨z.a,H.a.setRow _ Zy _⟩
def nQ(s:I4)(d:s.size<4294967281)(m:Int)(w:I6)(b:w.cell? ⟨4,0,N⟩=S (I L m))(f:4<w.heap.size):i_ Tryz.prog 137 #[Zb s] w λe w'=>vm s e/\Gr w w':=by
 by_cases a:(xL 47 9 s).length=8
 .exact nR s d m w b f a
 exact nO s d m w b f a
abbrev ZL(F:Nat)(x:I0)(w:I6)(v:I7):Prop:=i_ Tryz.prog F x w λe W=>e=Zd v/\Gr w W
theorem gX(a:Nat):∀(l:List I7)(k:Nat)(cells:I0),
 ((l.zipIdx k).foldl (λcs (p:I7×Nat)=>cs.setIfInBounds (a+p.2) p.1) cells).size=cells.size ∧
 ∀i,a+k+l.length<=cells.size->((l.zipIdx k).foldl (λcs (p:I7×Nat)=>cs.setIfInBounds (a+p.2) p.1) cells)[i]?=if a+k<=i/\i<a+k+l.length then l[i-(a+k)]? else cells[i]?
 | [],k,cells=>⟨R,λi _=>WX⟩
 | v::l,k,cells=>by
  obtain⟨d,f⟩:=gX a l (k+1) (cells.setIfInBounds (a+k) v);rw[List.zipIdx_cons,List.foldl_cons];refine⟨Oi,λi b=>?_⟩;rw[f i (by simp at b|-;omega)];by_cases e:i=a+k
  .subst e;rw[qF O,qI ⟨O,WU⟩,Yu,qI R,qI (by simp at b;omega)];simp
  .by_cases g:a+k<=i/\i<a+k+(v::l).length
   .rw[qI (by simp at g|-;omega),qI g,show i-(a+k)=(i-(a+(k+1)))+1 from O];simp
   .rw[qF (by simp at g|-;omega),qF g,Yu,qF O]
def P_(off:Nat)(v cells:I0):I0:=v.zipIdx.foldl (λcs (p:I7×Nat)=>cs.setIfInBounds (off+p.2) p.1) cells
theorem zo(a:Nat)(v cells:I0):(P_ a v cells).size=cells.size/\∀i,a+v.size<=cells.size->(P_ a v cells)[i]?=if a<=i/\i<a+v.size then v[i-a]? else cells[i]?:=by
 have h:=gX a v.toList 0 cells;have e:P_ a v cells=(v.toList.zipIdx 0).foldl (λcs (p:I7×Nat)=>cs.setIfInBounds (a+p.2) p.1) cells:=by unfold P_;rw[<-Array.foldl_toList,Array.toList_zipIdx]
 rw[e];refine⟨h.1,λi b=>?_⟩;rw[h.2 i VE];simp
def xv(a:Nat->Option (Nat×Nat))(cells:I0)(i d size:Nat)(v:I7)(b:List (Nat×I7))(e:a i=S (d,size))(f:v.cells.size=size)(g:d+size<=cells.size):Instr.fill a cells ((i,v)::b)=Instr.fill a (P_ d v.cells cells) b:=by
 conv=>lhs;unfold Instr.fill
 rw[e];simp only[f];rw[qF WX];rfl
def wD(a:List (Nat×I7)):c_.built 70 a=Instr.fill (λi=>(#[(0,64),(64,1),(65,4),(69,1),(70,1),(71,1)]:Array (Nat×Nat))[i]?) b_ a:=WR
def xF:b_.size=72:=WR
def kU(A:I0)(wh c0 c1 c2 c3:Bool)(b h f:Int):I0:=A++#[Za wh,Za c0,Za c1,Za c2,Za c3,I L b,I L h,I L f]
def gj(A:I0)(d:A.size=64)(wh c0 c1 c2 c3:Bool)(b h f:Int):c_.built 70 [(0,A),(1,wh),(2,Zc #[c0,c1,c2,c3]),(3,b),(4,h),(5,f)]=kU A wh c0 c1 c2 c3 b h f:=by
 rw[wD];have e:=zo 0 A b_;have p1:=zo 64 #[wh] (P_ 0 A b_);have p2:=zo 65 #[c0,c1,c2,c3] (P_ 64 #[wh] (P_ 0 A b_));have p3:=zo 69 #[b] (P_ 65 #[c0,c1,c2,c3] (P_ 64 #[wh] (P_ 0 A b_)));have p4:=zo 70 #[h] (P_ 69 #[b] (P_ 65 #[c0,c1,c2,c3] (P_ 64 #[wh] (P_ 0 A b_))));have p5:=zo 71 #[f] (P_ 70 #[h] (P_ 69 #[b] (P_ 65 #[c0,c1,c2,c3] (P_ 64 #[wh] (P_ 0 A b_)))));have z:=xF;rw[xv _ _ 0 0 64 _ _ R (by simpa[Value.cells]using d) O,
  xv _ _ 1 64 1 _ _ R R Vl,xv _ _ 2 65 4 _ _ R R Vl,
  xv _ _ 3 69 1 _ _ R R Vl,xv _ _ 4 70 1 _ _ R R Vl,xv _ _ 5 71 1 _ _ R R Vl]
 simp only[Instr.fill,Value.cells,Xh];apply YV;intro i;rw[p5.2 i WX,p4.2 i WX,p3.2 i WX,p2.2 i WX,p1.2 i WX,e.2 i O];unfold kU;rw[Y7,d];by_cases a:i<64
 .rw[qF O,qF O,qF O,qF O,qF O,qI ⟨O,O⟩,qI a];simp
 .by_cases g:i<72
  .have:i=64\/i=65\/i=66\/i=67\/i=68\/i=69\/i=70\/i=71:=O;rcases this with rfl|rfl|rfl|rfl|rfl|rfl|rfl|rfl<;>simp
  .rw[qF a,qF WX,qF WX,qF WX,qF WX,qF WX,qF O,Z6 O,Z6 WX]
def qqq{P:Program}{e:Array Oper}{d:List Oper}{o:Oper}{a:Act}{Q:Exit->Act->I6->Prop}(g:o.guard=N)(t:TypeId)(b:Array (Nat×Operand))(j:o.op=.build t b)(cells:I0)(f:P.built t (b.map λ(i,x)=>(i,a.eval x)).toList=cells)(h:wpList P e Q d (a.put o.dst cells) w):wpList P e Q (o::d) a w:=wpList_build g t b j T1 (by rw[f];exact h)
def iZ(s:I4)(b:s.size<4294967281)(m:Int)(w:I6)(a:w.cell? ⟨4,0,N⟩=I L m):i_ c_ 136 #[s,Zb ⟨#[32]⟩,I L 7] w λe w'=>e=Zq (S w) (xL 32 7 s).length (min 7 (s.size+1))/\w'=w.alloc (Z (Lib.cellsOf (xL 32 7 s) (min 7 (s.size+1))) 9):=Tryz.strings_SplitN s ⟨#[32]⟩ 7 m w b a WW O O
structure pH where
 board:List Int
 white:Bool
 castle:I5
 behind:Int
 half:Int
 full:Int
def jV(p:pH):I0:=kU (p.board.map (I Zg)).toArray p.white (p.castle 0) (p.castle 1) (p.castle 2) (p.castle 3) p.behind p.half p.full
def kO(s:I4):Option Bool:=if s.toList=[119]then S Zk else if s.toList=[98]then S Zl else N
def Ac(x0 x1 x2 x3 x4 x5:I4):Option pH:=
 match j7 x0,kO x1,vS x2.data.toList,v8 x3,vR x4.data.toList,vR x5.data.toList with
 | some b,S w,S c,S e,S h,S f=>S ⟨b,w,c,e,h,f⟩
 | _,_,_,_,_,_=>N
def xG(s:I4):Option pH:=
 match xL 32 7 s with
 | [x0,x1,x2,x3,x4,x5]=>Ac x0 x1 x2 x3 x4 x5
 | _=>N
def kS(s:I4)(e:Ending):Prop:=(∃p,xG s=S p/\p.board.length=64/\e=Zd (Ze #[Zc (jV p),Za Zk]))\/(xG s=N/\e=Zd (Ze #[Zc b_,Za Zl]))
def xH:b_.all (·.oneCell')=Zk:=WS
def q9:(c_.info? 70).map (·.size)=S 72:=WR
def s6(w:I6)(a b:Obj):((w.alloc a).alloc b).heap[w.heap.size]?=a/\((w.alloc a).alloc b).heap[w.heap.size+1]?=b:=⟨heap_alloc2_old w a b,heap_alloc2_new w a b⟩
def rX(s:I4)(n:s.size<4294967281)(m:Int)(w:I6)(j:w.cell? ⟨4,0,N⟩=S (I L m))(o:4<w.heap.size)(f:(xL 32 7 s).length≠6):i_ c_ 62 #[Zb s] w λe w'=>kS s e/\Gr w w':=by
 have i:=X j;clear j;have l:(((xL 32 7 s).length:Int)==6)=Zl:=WX;have d:Y (kS s (Zd (Ze #[Zc b_,Za Zl]))):=X (Zj ⟨by
  unfold xG;split
  .rename_i h;rw[h]at f;simp at f
  .rfl,R⟩)
 clear f;go_enter func62,ntmps62;go_wp2_with fail;refine(iZ s n m _ ?_).mono ?_
 .rw[YZ _ _ _ o];exact i
 rintro e k ⟨rfl,a⟩;have g:Gr w k:=by rw[a];exact ZN.alloc _ _
 have b:Y (k.heap[w.heap.size]?=Z b_ 70):=(by rw[a];exact(s6 w _ _).1);clear a;go_wp2_with(refine ZC w b_ b.a xF xH ?_);exact ZS (v:=Ze #[b_,Zl]) (qj results62 _ _ w 70 _ (0,0) _ R (Zt b) s_ rfl Vz) R ⟨d,g.setRow _ Zy _⟩
def vm.plain{s:I4}{e:Ending}(h:vm s e):∃A:I0,iL A/\e=Ze #[A,(j7 s).isSome]/\∀b,j7 s=S b->b.length=64/\A=(b.map (I Zg)).toArray:=by
 obtain⟨b,d,f,rfl⟩|⟨d,A,g,rfl⟩:=h
 .refine⟨(b.map (I Zg)).toArray,⟨Uq,?_⟩,by rw[d];rfl,λj a=>by rw[d]at a;simp at a;subst a;exact⟨f,R⟩⟩;rw[List.all_toArray,qW];intro v i;obtain⟨z,_,rfl⟩:=YL.mp i;rfl
 .exact⟨A,g,by rw[d];rfl,λb a=>by rw[d]at a;exact w_ a WU⟩
def Fu(s:I4):(s.toList==[119]||s.toList==[98])=(kO s).isSome/\∀b,kO s=S b->(s.toList==[119])=b:=by grind[kO]
def jr{a b d e f g:I4}(h:(j7 a).isSome=Zl\/(kO b).isSome=Zl\/(vS d.data.toList).isSome=Zl\/(v8 e).isSome=Zl\/(vR f.data.toList).isSome=Zl\/(vR g.data.toList).isSome=Zl):Ac a b d e f g=N:=by grind[Ac,j7,kO,vS,v8,vR]
def qbW(s:I4)(A:I0)(ok0:Bool)(wh ok1:Bool)(f:I5)(ok2:Bool)(b:Int)(ok3:Bool)(h:Int)(ok4:Bool)(g:Int)(ok5:Bool):Prop:=
 ((ok0=Zl\/ok1=Zl\/ok2=Zl\/ok3=Zl\/ok4=Zl\/ok5=Zl)->kS s (Zd (Ze #[Zc b_,Za Zl]))) ∧
 (ok0=Zk->ok1=Zk->ok2=Zk->ok3=Zk->ok4=Zk->ok5=Zk->kS s (Zd (Ze #[Zc (kU A wh (f 0) (f 1) (f 2) (f 3) b h g),Za Zk])))
def BV{s d a e i j k:I4}(Q:xL 32 7 s=[d,a,e,i,j,k])(B:∀b,j7 d=S b->b.length=64/\A=(b.map (I Zg)).toArray){f:I5} (E:∀g,vS e.data.toList=S g->f=g) (D:∀n,v8 i=S n->b=n) (G:∀n,vR j.data.toList=S n->h=(n:Int)) {g:Int} (F:∀n,vR k.data.toList=S n->g=(n:Int)):qbW s A (j7 d).isSome (a.toList==[119]) (kO a).isSome f (vS e.data.toList).isSome b (v8 i).isSome h (vR j.data.toList).isSome g (vR k.data.toList).isSome:=by
 have C:xG s=Ac d a e i j k:=by unfold xG;rw[Q]
 refine⟨λH=>Zj ⟨by rw[C];exact jr H,R⟩,?_⟩;intro J K T M V P;obtain⟨l,m⟩:=Xr.mp J;obtain⟨o,v⟩:=Xr.mp K;obtain⟨p,w⟩:=Xr.mp T;obtain⟨q,x⟩:=Xr.mp M;obtain⟨r,y⟩:=Xr.mp V;obtain⟨u,z⟩:=Xr.mp P;refine Zi ⟨⟨l,o,p,q,r,u⟩,?_,(B l m).1,?_⟩
 .rw[C];unfold Ac;rw[m,v,w,x,y,z]
 .rw[(B l m).2,(Fu a).2 o v,E p w,D q x,G r y,F u z];rfl
def DP(w:I6)(xs:I3)(bq:Nat)(A:I0)(wr:I6):Prop:=(∀(j:Nat)(h:j<xs.length),wr.cell? ⟨w.heap.size+1,j,N⟩=S (Zb xs[j]))/\wr.heap[w.heap.size]?=S (Z b_ 70)/\wr.heap[bq]?=S (Z A 67)/\w.heap.size+1<bq/\bq<wr.heap.size/\Gr w wr
def DP.gr{wr:I6}{e:I3}{b:Nat}(h:DP w e b A wr)(g:Gr wr a):DP w e b A a:=by
 obtain⟨f,i,k,l,d,m⟩:=h;exact⟨λj n=>by rw[ZW g (p:=⟨w+1,j,N⟩) (by show w+1<wr.heap.size;omega)];exact f j n,
  by rw[Zz g O];exact i,by rw[Zz g d];exact k,l,qN d (ZR g),m.trans g⟩
def E3(bc:Nat)(f:I5)(wr:I6):Prop:=wr.heap[bc]?=S (Z #[Za (f 0),Za (f 1),Za (f 2),Za (f 3)] 68)/\bc<wr.heap.size
def E3.gr{wr:I6}{b:Nat}{f:I5}(h:E3 b f wr)(g:Gr wr a):E3 b f a:=⟨by rw[Zz g h.2];exact h.1,qN h.2 (ZR g)⟩
def G3:(c_.info? 68).map (·.size)=S 4:=WR
def qzd(a:iL A)(wh c0 c1 c2 c3:Bool)(b h f:Int):(kU A wh c0 c1 c2 c3 b h f).size=72/\(kU A wh c0 c1 c2 c3 b h f).all (·.oneCell')=Zk:=by unfold kU;refine⟨by rw[Array.size_append,a.1];rfl,?_⟩;rw[Wo,a.2];simp[Value.oneCell']
def rU(s q n B C r u:I4)(hs:s.size<4294967281)(m:Int)(w:I6)(hm:w.cell? ⟨4,0,N⟩=S (I L m))(hz:4<w.heap.size)(hx:xL 32 7 s=[q,n,B,C,r,u]):i_ c_ 62 #[Zb s] w λe w'=>kS s e/\Gr w w':=by
 have a8:=X hm;clear hm;have k:∀x∈xL 32 7 s,x.size<=s.size:=λx hx=>zc _ _ _ _ hx;rw[hx]at k;have z0:=k q WU;have z4:=k r WU;have z5:=k u WU;clear k;have b1:=X hx;go_enter func62,ntmps62;go_wp2_with fail;refine(iZ s hs m _ ?_).mono ?_
 .rw[YZ _ _ _ hz];exact a8.a
 rintro e M ⟨rfl,z⟩;have v:Gr w M:=by rw[z];exact ZN.alloc _ _
 have b7:w.heap.size+2<=M.heap.size:=by rw[z];exact Nat.le_of_eq (by rw[Z3,Z3])
 have a0:Y (M.heap[w.heap.size]?=S (Z b_ 70)):=X (by rw[z];exact(s6 w _ _).1);have D:Y (M.heap[w.heap.size+1]?=S (Z (Lib.cellsOf [q,n,B,C,r,u] (min 7 (s.size+1))) 9)):=X (by rw[z,<-hx];exact(s6 w _ _).2);clear z;rw[hx];clear hx;generalize min 7 (s.size+1)=f4 at D|-;have b2:M.cell? ⟨w.heap.size+1,0,N⟩=S (Zb q):=by rw[Zs D.a];exact qjn _ f4 0 WU
 have E:M.cell? ⟨4,0,N⟩=S (I L m):=(ZW v (p:=⟨4,0,N⟩) hz).trans a8.a;go_wp2_with fail;refine(nQ q O m _ E O).mono ?_;rintro e l ⟨he,y⟩;obtain⟨A,a2,rfl,a1⟩:=he.plain;clear he b2 E;have d3:M.heap.size<=l.heap.size:=ZR y;have a4:∀(j:Nat)(h:j<6),l.cell? ⟨w.heap.size+1,j,N⟩=S (Zb ([q,n,B,C,r,u][j])):=by intro j h;rw[ZW y (p:=⟨w.heap.size+1,j,N⟩) (by show w.heap.size+1<M.heap.size;omega),Zs D.a];exact qjn _ f4 j Vq
 have T:∀o,Y (DP w [q,n,B,C,r,u] l.heap.size A ((l.alloc (Z o 67)).setRow l.heap.size A)):=λo=>X (by
  have Q:Gr l ((l.alloc (Z o 67)).setRow l.heap.size A):=ZN.setRow _ Zy _;refine⟨λj hj=>?_,?_,Zt Zv,O,by rw[Xa,Z3];omega,(v.trans y).trans Q⟩
  .rw[ZW Q (p:=⟨w.heap.size+1,j,N⟩) (by show w.heap.size+1<l.heap.size;omega)];exact a4 j hj
  .rw[Zz Q O,Zz y O];exact a0.a)
 have G:=X a1;have i:=X a2;clear a4 a0 D v y a1 a2 b7;have b3:∀o,((l.alloc (Z o 67)).setRow l.heap.size A).cell? ⟨w.heap.size+1,1,N⟩=S (Zb n):=λo=>(qa (T o)).1 1 WU;go_wp2_with(refine ZU R 67 _ _ R l.heap.size A R R 67 _ Zv (by rw[i.a.1];exact x7) (by rw[i.a.1];rfl) i.a.2 ?_);refine Z0 (rD n _) λw5 b0=>?_;have F:DP w [q,n,B,C,r,u] l.heap.size A w5:=by rw[b0];exact qa (T _)
 clear b0 b3 T;rw[(Fu n).1];generalize l.heap.size=bq at F|-;have E:w5.cell? ⟨w.heap.size+1,2,N⟩=S (Zb B):=F.1 2 WU;have J:=X F;clear F;go_wp2_with fail;refine(fq B _).mono ?_;rintro e w6 ⟨⟨f,rfl,hf⟩,a6⟩;have a5:=X hf;have V:∀o,Y (DP w [q,n,B,C,r,u] bq A (w6.alloc (Z o 68))):=λo=>X (J.a.gr (Gr.alloc a6 _ _));clear E J a6 hf;have b4:∀o,(w6.alloc (Z o 68)).cell? ⟨w.heap.size+1,3,N⟩=S (Zb C):=λo=>(qa (V o)).1 3 WU;go_wp2_with fail;refine(hO C _).mono ?_;rintro e w7 ⟨⟨b,rfl,hb⟩,P⟩;have a3:=X hb;have W:=(qa (V _)).gr P;have f0:E3 w6.heap.size f w7:=E3.gr ⟨Zv,Vj⟩ P;clear b4 V P hb;generalize w6.heap.size=bc at f0|-;have b5:w7.cell? ⟨w.heap.size+1,4,N⟩=S (Zb r):=W.1 4 WU;have K:=X W;have H:=X f0;clear W f0;go_wp2_with fail;refine(gc r Vk _).mono ?_;rintro e w8 ⟨⟨h,rfl,hh⟩,d5⟩;have a7:=X hh;have d4:DP w [q,n,B,C,r,u] bq A w8:=by rw[d5];exact K.a
 have a9:E3 bc f w8:=by rw[d5];exact H.a
 have b6:w8.cell? ⟨w.heap.size+1,5,N⟩=S (Zb u):=d4.1 5 WU;have f3:=X d4;have f2:=X a9;clear d4 a9 K H d5 b5 hh;go_wp2_with fail;refine(gc u Vk _).mono ?_;rintro e w9 ⟨⟨g,rfl,hg⟩,f1⟩;have hR:Y (DP w [q,n,B,C,r,u] bq A w9):=X (by rw[f1];exact f3.a);have p:Y (E3 bc f w9):=X (by rw[f1];exact f2.a);have a:=X (BV b1.a G.a a5.a a3.a a7.a hg);clear f3 f2 f1 b6 hg b1 G a5 a3 a7;generalize (j7 q).isSome=c4 at a|-;generalize (n.toList==[119])=wh at a|-;generalize (kO n).isSome=c5 at a|-;generalize (vS B.data.toList).isSome=c6 at a|-;generalize (v8 C).isSome=d0 at a|-;generalize (vR r.data.toList).isSome=d1 at a|-;generalize (vR u.data.toList).isSome=d2 at a|-;cases c4
 .exact ZK
 .cases c5
  .exact ZK
  .cases c6
   .exact ZK
   .cases d0
    .exact ZK
    .cases d1
     .exact ZK
     .cases d2
      .exact ZK
      .have d:=X (a.a.2 R R R R R R);have hP:=X (qzd i.a wh (f 0) (f 1) (f 2) (f 3) b h g);clear a;go_wp2_with(first|(refine ZV R 67 _ R bq R 67 A (0,0) _ hR.a.2.2.1 t_ rfl (by rw[i.a.1];exact x7) ?_)|(refine ZV R 68 _ R bc R 68 #[Za (f 0),Za (f 1),Za (f 2),Za (f 3)] (0,0) _ p.a.1 underlying68 rfl G3 ?_)|(refine qqq R 70 #[(0,.tmp 88),(1,.tmp 89),(2,.tmp 90),(3,.tmp 91),(4,.tmp 92),(5,.tmp 93)] R (kU A wh (f 0) (f 1) (f 2) (f 3) b h g) ?_ ?_;focus (simp[Act.eval];exact gj A i.a.1 wh (f 0) (f 1) (f 2) (f 3) b h g))|(refine ZU R 70 _ _ R w.heap.size (kU A wh (f 0) (f 1) (f 2) (f 3) b h g) R R 70 b_ hR.a.2.1 (by rw[hP.a.1];exact q9) (by rw[hP.a.1,xF]) hP.a.2 ?_));exact ZS (v:=Ze #[Zc (kU A wh (f 0) (f 1) (f 2) (f 3) b h g),Za Zk]) (qj results62 _ _ w.heap.size 70 _ (0,0) _ R (Zt hR.a.2.1) s_ rfl (by rw[hP.a.1];exact q9)) R ⟨d.a,hR.a.2.2.2.2.2.setRow _ Zy _⟩
def rY(s:I4)(d:s.size<4294967281)(m:Int)(w:I6)(b:w.cell? ⟨4,0,N⟩=S (I L m))(f:4<w.heap.size):i_ c_ 62 #[Zb s] w λe w'=>kS s e/\Gr w w':=by
 by_cases a:(xL 32 7 s).length=6
 .match hx:xL 32 7 s,a with
  | [x0,x1,x2,x3,x4,x5],_=>exact rU s x0 x1 x2 x3 x4 x5 d m w b f hx
 .exact rX s d m w b f a
def qq4(w:I6)(a:Addr)(cap:Nat)(l:I1)(b:∀i (h:i<l.length),w.cell? (a.add i)=I Zg (l[i]).toNat):(convert 145 9 (Zq (S a) l.length cap)).run c_ w=.ok (Zb ⟨l.toArray⟩) w:=run_convert_bytes_back w 145 9 5 a cap l underlying145 underlying5 underlying9 b
def xQ(n:Nat):I1:=[j_ (97+n%8),j_ (49+n/8)]
def oO(n:Int):I1:=if n=-1 then[45]else xQ n.toNat
def E5(f:Nat->Bool):Nat->I1
 | 0=>[]
 | i+1=>E5 f i++(if f i then[vn i]else[])
def eE(f:I5):I1:=if(E5 f 4).isEmpty then[45]else E5 f 4
def oN(f:I5)(i:Nat):E5 f (i+1)=E5 f i++(if f i then[vn i]else[]):=R
def ur(g:Nat):I1:=if g=0 then[]else[j_ (48+g)]
def DV(z:Nat->UInt8):Nat->I1×Nat
 | 0=>([],0)
 | k+1=>if z k=46 then((DV z k).1,(DV z k).2+1)else((DV z k).1++ur (DV z k).2++[z k],0)
def oJ(z:I2):I1:=(DV z 8).1++ur (DV z 8).2
def oH(z:I2)(i:Nat):I1:=oJ (λf=>z (8*(7-i)+f))
def eB(z:I2):I3:=(h_ 8).map (λi=>⟨(oH z i).toArray⟩)
def dA(z:I2):I1:=f_ ((eB z).map (·.data.toList)) [47]
def Gr.setCell{b:I6}(h:Gr a b){p:Addr}(d:a<=p.block)(v:I7):Gr a (b.setCell p v):=Yr h d v
def HG (w:I6):Prop:= Lib.TabIs c_ w "internal/strconv.uint64pow10" Zh Lib.pow10Tab
def bX:∃ g, c_.globalNamed "internal/strconv.uint64pow10" = S g:= ⟨8, WR⟩
def HG.gr(h:HG w)(g:Gr w w'):HG w':=by
 obtain⟨i,d⟩:=bX;unfold HG Lib.TabIs World.var? at h|-;rw[d]at h|-;simp only[Option.bind_some]at h|-;have b:i<w:=by
  obtain a|a:=Nat.lt_or_ge i w
  .exact a
  .rw[Z6 a]at h;cases h
 rw[YG g i b];exact h
def Gr.grow(w:I6)(k:Nat)(os:Array Obj):Gr w (Go.Sort.grow (w.drewN k) os):=by
 refine⟨R,R,R,?_,λi a=>?_⟩
 .show w<=(w.heap++os).size;simp
 .show(w.heap++os)[i]?=_;rw[Y7,qI a]
def PS(w:I6)(A:List I7)(wh c0 c1 c2 c3:Bool)(b h f:Int)(w':I6):Prop:=w'.rangeAt w.heap.size 0 A/\w'.cell? ⟨w.heap.size,64,N⟩=S (Za wh)/\w'.cell? ⟨w.heap.size,65,N⟩=S (Za c0)/\w'.cell? ⟨w.heap.size,66,N⟩=S (Za c1)/\w'.cell? ⟨w.heap.size,67,N⟩=S (Za c2)/\w'.cell? ⟨w.heap.size,68,N⟩=S (Za c3)/\w'.cell? ⟨w.heap.size,69,N⟩=S (I L b)/\w'.cell? ⟨w.heap.size,70,N⟩=S (I L h)/\w'.cell? ⟨w.heap.size,71,N⟩=S (I L f)/\(w.heap.size<w'.heap.size/\Gr w w'/\HG w')
def PS.gr{A:List I7}{c0 c1 c2 c3:Bool}{f:Int}(p:PS w A wh c0 c1 c2 c3 b h f w1)(g:Gr w1 a):PS w A wh c0 c1 c2 c3 b h f a:=by obtain⟨m,p1,p2,p3,p4,p5,p6,n,q,d,e,i⟩:=p;have k:∀o,a.cell? ⟨w,o,N⟩=w1.cell? ⟨w,o,N⟩:=λo=>ZW g (p:=⟨w,o,N⟩) d;exact⟨λj v l=>(k _).trans (m j v l),(k _).trans p1,(k _).trans p2,(k _).trans p3,(k _).trans p4,(k _).trans p5,(k _).trans p6,(k _).trans n,(k _).trans q,qN d (ZR g),e.trans g,i.gr g⟩
def oI(z:I2)(wh:Bool)(f:I5)(b h g:Int):I1:=f_ [dA z,[if wh then 119 else 98],eE f,oO b,Lib.itoa h,Lib.itoa g] [32]
def vy{q:Prop}(h:Gr w1 a/\q):Gr w1 a:=h.1
def P'{A:List I7}{c0 c1 c2 c3:Bool}{f:Int}(p:PS w A wh c0 c1 c2 c3 b h f w1)(g:Gr w1 w'):Gr w1 w'/\w'.rangeAt w 0 A/\w'.cell? ⟨w,64,N⟩=Za wh/\w'.cell? ⟨w,65,N⟩=Za c0/\w'.cell? ⟨w,66,N⟩=Za c1/\w'.cell? ⟨w,67,N⟩=Za c2/\w'.cell? ⟨w,68,N⟩=Za c3/\w'.cell? ⟨w,69,N⟩=I L b/\w'.cell? ⟨w,70,N⟩=I L h/\w'.cell? ⟨w,71,N⟩=I L f:=by obtain⟨a,p1,p2,p3,p4,p5,p6,d,e,_⟩:=p.gr g;exact⟨g,a,p1,p2,p3,p4,p5,p6,d,e⟩
def kL(w:I6):Prop:=TabAt 2 Lib.deBruijn64tab w
def kL.gr(h:kL w)(g:Gr w w'):kL w':=λj b=>by
 have a:=h j b;exact(ZW g (Ye w _ a)).trans a
def kL.below{n₀:Nat}(h:kL w)(g:Below n₀ w w')(b:2<n₀):kL w':=λj a=>(g.cell (p:=⟨_,j,N⟩) b).trans (h j a)
def eI(s:BitVec 64)(t:Nat)(a:s.getLsbD t=Zk)(b:∀j,j<t->s.getLsbD j=Zl)(w:I6)(d:kL w):i_ c_ 208 #[I Zh (U s)] w λe w'=>e=Zd t/\w'=w:=by have:=Any7.bits_TrailingZeros64 Tryz.lays7x29 s.toNat s.isLt w (λ_=>d);rw[Em s t a b]at this;exact this
def Dc(n:Nat)(Q:1<=n)(l Bn n₀:Nat)(F:Bn<n₀)(y:2<n₀)(s:BitVec 64)(J C:List Nat->I6->Prop)(K:∀a x W,J a W->a.length<(vD s).length->YieldAt Fence.wide (n-1) c_ l #[(x:Nat)] W λe h=>(e=Zd Zk/\J (a++[x]) h/\Below n₀ W h)\/(e=Zd Zl/\C (a++[x]) h))(W:I6) (H:W.cell? Bn=I Zh (U s)) (T:kL W) (G:J [] W):CallsIn Fence.wide n c_ 207 #[.func (.yield l) #[] #[],ZI Bn] W λe h=>(∃v,e=Zd v) ∧((∃E,E=vD s/\J E h)\/(∃a,a <+:vD s/\C a h)):=by
 refine callsIn_of_wp func207 rfl x_ ?_ R;simp only[ntmps207,Nat.reduceAdd,Nat.reduceSub,Zr];gi_wp2;gi_loopw [3] (λp wr=>∃(a:List Nat)(r:BitVec 64),p=I Zh (U r)/\vD s=a++vD r/\kL wr/\J a wr) (λp _=>(vD (BitVec.ofInt 64 (intOf p))).length)
 case atStart=>exact⟨[],s,R,R,T,G⟩
 case round=>
  obtain⟨a,r,rfl,i,m,j⟩:=hrel;by_cases q:r=0#64
  .subst q;have a2:(U 0#64 !=0)=Zl:=WS;rw[qv8,Yh]at i;have d:=X i;clear i;gi_wp2;go_end0;exact⟨⟨_,R⟩,Zi ⟨a,d.symm,j⟩⟩
  .obtain⟨t,M,A,B⟩:=qji r q;have g:=qv9 r t M A B;have a1:(U r !=0)=Zk:=VN;have z:=X (eI r t A B);obtain⟨P,tmps,o,D,a0,hR⟩:=K a t wr j (by rw[i,g];simp);have d:=X i;have b:=X g;have f:=X m;clear i g m q A B;gi_wp2_with (refine⟨x_,?_⟩;gi_at_call 208;refine(ZY.2 (z _ f)).mono ?_;rintro e w' ⟨rfl,rfl⟩);apply hR.mono;rintro e W3 (⟨rfl,u,w⟩|⟨rfl,k⟩)
   .have a3:a_ Zh (U r-1)=U (r-1#64):=VP;have V:bits .and Zh (U r) (U (r-1#64))=U (r&&&(r-1#64)):=im _ _;gi_wp2;go_roundw
    case rel=>exact⟨a++[t],r&&&(r-1#64),R,Ui,f.below w y,u⟩
    case measure=>simp only[intOf];rw[jh,jh,b.a];simp
   .gi_wp2;apply ZS (XS R _ _ _) R;exact⟨⟨_,R⟩,Zj ⟨a++[t],⟨vD (r&&&(r-1#64)),Ui⟩,k⟩⟩
def oz(n:Nat)(k:1<=n)(Bn n₀:Nat)(d:Bn<n₀)(a:2<n₀)(s:BitVec 64)(w:I6)(hn₀:n₀<=w)(j:w.cell? Bn=I Zh (U s))(h:kL w):SeqStopsK Fence.wide n c_ 207 #[ZI Bn] (λx:Nat=>#[I L (x:Int)]) (Below n₀) (λm=>m=vD s) (λb=>b <+:vD s) (vD s).length w:=λl J f W e _ _ i g=>
 Dc n k l Bn n₀ d a s J f i W ((e.cell (p:=Bn) (qN d hn₀)).trans j) (h.below e (qN a hn₀)) g
def qi{t:TypeId}(h:W.heap[B]?=Z #[v] t (0,0)):W.cell? B=v/\W.frozen? B=Zl:=by constructor<;>simp[World.cell?,World.frozen?,h]
def qq5(W:I6)(v:I7)(t:TypeId):(W.alloc (Z #[v] t)).cell? W=v/\(W.alloc (Z #[v] t)).frozen? W=Zl:=qi (ZQ W _)
def dI(s:BitVec 64):(vD s).length<=64:=by have:=Y8 (λi=>s.getLsbD i) (h_ 64);unfold vD;exact OY
def xn(s:BitVec 64)(w:I6):i_ c_ 132 #[I Zh (U s)] w λe w'=>e=Zd (.func (.func 207) #[] #[ZI w])/\w'=w.alloc (Z #[I Zh (U s)] 195):=by have b:=qmf;go_in;exact Wz
def mT(x:Int)(w:I6):i_ c_ 264 #[x] w λe w'=>e=Zd (I L 1)/\w'=w:=by go_in;exact Wz
def l6{a:List Nat}(i:W.cell? ⟨w+1,0,N⟩=(a.length:Nat))(j:W.frozen? ⟨w+1,0,N⟩=Zl)(d:W.cell? w=v)(h:Below w w W):let b:=(W.setCell ⟨w+1,0,N⟩ (I L ((a.length:Int)+1))).drew
 KeepsOthers W b/\Below w W b/\(b.cell? ⟨w+1,0,N⟩=((a++[x]).length:Nat)/\b.frozen? ⟨w+1,0,N⟩=Zl/\b.cell? w=v)/\Below w w b:=by
 intro b;have e:b.cell? ⟨w+1,0,N⟩=I L ((a.length:Int)+1):=World.cell?_setCell_same' W _ _ (by rw[i];rfl);have f:b.frozen? ⟨w+1,0,N⟩=Zl:=by show(W.setCell ⟨w+1,0,N⟩ (I L ((a.length:Int)+1))).frozen? ⟨w+1,0,N⟩=Zl;rw[World.frozen?_setCell];exact j
 have g:b.cell? w=v:=by show(W.setCell ⟨w+1,0,N⟩ (I L ((a.length:Int)+1))).cell? w=v;rw[X9 (w:=W) (Yg W ⟨w+1,0,N⟩ _ w WU)];exact d
 refine⟨(KeepsOthers.setCell W _ _).trans (KeepsOthers.drew _),((XL w W).setCell (p:=⟨w+1,0,N⟩) WU _).drew,⟨?_,f,g⟩,(h.setCell (p:=⟨w+1,0,N⟩) WU _).drew⟩;rw[e];simp
def Aa(s:BitVec 64)(f:Nat)(w:I6)(i:f<w.heap.size)(k:2<w.heap.size)(j:w.cell? f=S (I Zh (U s)))(y:kL w):ZL 263 #[.func (.func 207) #[] #[ZI f],.func (.func 264) #[] #[]] w (I L (vD s).length):=by
 refine(ZY (n:=3)).1 ?_;refine callsIn_of_wp_marks func263 rfl x_ ?_ R;simp only[ntmps263,Nat.reduceAdd,Nat.reduceSub,Zr];gi_wp2;have b:=qq5 (w.alloc (Z #[.func (.func 264) #[] #[]] 276)) (I L 0) 3;have d:=(qq5 w (.func (.func 264) #[] #[]) 276).1;have g:Below w w ((w.alloc (Z #[.func (.func 264) #[] #[]] 276)).alloc (Z #[I L 0] 3)):=((XL _ w).alloc Zy _).alloc WU _;have m:((w.alloc (Z #[.func (.func 264) #[] #[]] 276)).alloc (Z #[I L 0] 3)).cell? w.heap.size=S (.func (.func 264) #[] #[]) :=
  (ZW (p:=w.heap.size) ((XL (w.heap.size+1) _).alloc WU _) (Nat.lt_succ_self _)).trans d
 rw[Z3]at b;refine wpIn_rangeFunc_ownF R O (gf:=207) (lb:=#[ZI f]) R x_ (YC func207 WR R)
  (oz _ O f w.heap.size i k s _ WX ((g.cell (p:=f) i).trans j) (y.below g k)) belowK_t (XZ WX) (XL _ _) (λ_=>R)
  (λa W=>(W.cell? ⟨w.heap.size+1,0,N⟩=S (I L (a.length:Nat))/\W.frozen? ⟨w.heap.size+1,0,N⟩=Zl/\W.cell? w.heap.size=S (.func (.func 264) #[] #[]))/\Below w.heap.size w W)
  (λ_ _ _=>False)
  (OwnFrom.and (Own.from (λs A B row b o r=>⟨cell_kept b.1 o r,(frozen_kept b.1 o r).trans b.2.1,cell_kept b.2.2 o r⟩) _) (ownFrom_below Zy WX))
  (λ_ _ _ _ _ b _ _=>b)
  ⟨⟨b.1,b.2,m⟩,g⟩
  (λx=>{ tmps:=#[.func (.func 207) #[] #[ZI f],.func (.func 264) #[] #[],m_,ZI w.heap.size,I L 0,ZI (w.heap.size+1),I L (x:Nat),.func (.func 207) #[] #[ZI f],I L (x:Nat),m_,m_,m_,m_,m_,m_],defers:=[] }) ?assign ?body ?done ?stop
 case assign=>intro l x W K hK;gi_wp2;simpa using hK
 case body=>
  rintro l a x W ⟨⟨j,u,d⟩,i⟩ q;have v:=qN q (dI s);gi_wp2;have z:W.drew.cell? ⟨w+1,0,N⟩=(a.length:Nat):=j;have C:W.drew.frozen? ⟨w+1,0,N⟩=Zl:=u;have E:W.drew.cell? w=S (.func (.func 264) #[] #[]):=d;gi_region_with (refine⟨x_,?_⟩;gi_at_call 264;refine((ZY.2 (mT _ _)).inRound l).mono ?_;rintro e w' ⟨rfl,rfl⟩);all_goals
   gi_wp2;rw[show a_ L ((a.length:Int)+1)=(a.length:Int)+1 from Vc];exact l6 j u d i
 case done=>rintro D F W hD rfl ⟨⟨j,_,_⟩,i⟩ hK;gi_wp2;refine⟨WU,Zi ⟨_,_,R,YU hK,?_⟩⟩;exact⟨_,Wh R _ _ _,R,i.trans (XZ (w:=w) Zy W D _ _ (by simp at hD;omega) hK R R)⟩
 case stop=>rintro D c a W _ _ h _;exact h.elim
def m9(s:BitVec 64)(a:Nat)(w:I6)(d:a<w.heap.size)(b:2<w.heap.size)(g:w.cell? a=S (I Zh (U s)))(f:kL w):ZL 218 #[.func (.func 207) #[] #[ZI a]] w (I L (vD s).length):=by unfold ZL;go_in;go_wp2_with(go_at_call 263;refine Z0 (Aa s a w d b g f) λw' h=>?_);go_ret;exact⟨R,h⟩
def jS(m:I8)(M:I0):Prop:=M.size=12/\∀i,i<12->M[i]?=S (I Zh (U (m i)))
def bg(b:Bool):Nat:=if b then 0 else 6
def FJ(b:Bool)(w:I6):i_ c_ 131 #[b] w λe w'=>e=Zd (bg b)/\w'=w:=by
 cases b
 .go_in;exact Wz
 .go_in;exact Wz
def io(b:Bool):bg b<=6:=by cases b<;>decide
def FL(m:I8)(M:I0)(d:jS m M)(b:Bool)(w:I6):ZL 213 #[M,b] w (I Zh (U (m (bg b+5)))):=by
 have f:=io b;have g:(w.alloc (Z M 197)).cell? ⟨w,bg b+5,N⟩=I Zh (U (m (bg b+5))):=by rw[Z8 _ _ _ _ R];exact d.2 _ O
 clear d;have a:=X (FJ b);generalize bg b=k at f g a|-;unfold ZL;go_in;go_wp2_with(go_at_call 131;apply Z1 (a _));exact WM
def qxm(m:I8)(M:I0)(d:jS m M)(b:Bool)(w:I6):ZL 219 #[M,b] w (I Zh (U (m (bg b)))):=by
 have f:=io b;have g:(w.alloc (Z M 197)).cell? ⟨w,bg b,N⟩=I Zh (U (m (bg b))):=by rw[Z8 _ _ _ _ R];exact d.2 _ O
 clear d;have a:=X (FJ b);generalize bg b=k at f g a|-;unfold ZL;go_in;go_wp2_with(go_at_call 131;apply Z1 (a _));exact WM
def wZ(m:Nat->BitVec 64)(base:Nat):Nat->BitVec 64
 | 0=>0#64
 | k+1=>wZ m base k|||m (base+k)
def xZ(m:I8)(b:Bool):BitVec 64:=wZ m (bg b) 6
def jp(m:I8)(M:I0)(j:jS m M)(b:Bool)(w:I6):ZL 205 #[M,b] w (I Zh (U (xZ m b))):=by
 have o:=io b;unfold xZ;have d:=X (FJ b);generalize bg b=q at o d|-;have f:=X j;clear j;have h:U 0#64=0:=WS;unfold ZL;go_in;go_wp2;go_loopg [5,7] 6 (λg a n wr=>∃k:Nat,k+g=6/\n=k/\a=I Zh (U (wZ m q k))/\wr=w.alloc (Z M 197))
 case atStart=>exact⟨0,R,R,by rw[show wZ m q 0=0#64 from R,h],R⟩
 case round=>
  obtain⟨k,u,rfl,rfl,rfl⟩:=hrel;by_cases p:k<6
  .have r:(w.alloc (Z M 197)).cell? ⟨w,q+k,N⟩=I Zh (U (m (q+k))):=(by rw[Z8 _ _ _ _ R];exact f.2 _ O);have i:bits .or Zh (U (wZ m q k)) (U (m (q+k)))=U (wZ m q (k+1)):=uQ _ _;go_wp2_with(go_at_call 131;apply Z1 (d _));go_roundg (gk-1)
   case measure=>omega
   case rel=>exact⟨k+1,O,Vg,by first|rfl|rw[i],R⟩
  .have l:k=6:=O;subst l;go_wp2;exact WM
def j0(m:I8):BitVec 64:=xZ m Zk|||xZ m Zl
def vA(bw:Bool)(i:Nat):Int:=if i=0 then(if bw then 2 else 1)else(i:Int)+2
def uk(m:I8)(sq:Int)(bw:Bool)(i:Nat):Bool:=bits .and Zh (yL (vA bw i) sq (U (j0 m))) (U (m (bg bw+i)))!=0
def xV(m:I8)(sq:Int)(bw:Bool):Bool:=(h_ 6).any (uk m sq bw)
def uF:(c_.info? 197).map (·.size)=S 12:=WR
def BX(a:Bool)(k:Nat)(h:k<6):1<=vA a k/\vA a k<=7:=by
 unfold vA;by_cases b:k=0
 .rw[qI b];cases a<;>decide
 .rw[qF b];omega
def zR(bw:Bool):I0:=#[I L (vA bw 0),I L 3,I L 4,I L 5,I L 6,I L 7]
def DI:(c_.info? 204).map (·.size)=S 6:=WR
def gQ(a:Bool)(w:I6):ZL 130 #[!a] w (zR a):=by
 cases a
 .unfold ZL;go_in;go_wp2;exact ZS (v:=(zR Zl)) (Yp results130 _ _ w 204 _ (0,0) _ R Zv underlying204 rfl DI) R ⟨R,ZN⟩
 .unfold ZL;go_in;go_wp2;exact ZS (v:=(zR Zk)) (Yp results130 _ _ w 204 _ (0,0) _ R Zv underlying204 rfl DI) R ⟨R,ZN⟩
def Gt(w:I6):(l_ 204 (zR Zk) (I L 0)).run c_ w=.ok (vA Zk 0) w:=WR
def Gs(w:I6):(l_ 204 (zR Zk) (I L 1)).run c_ w=.ok (vA Zk 1) w:=WR
def Gq(w:I6):(l_ 204 (zR Zk) (I L 2)).run c_ w=.ok (vA Zk 2) w:=WR
def Gp(w:I6):(l_ 204 (zR Zk) (I L 3)).run c_ w=.ok (vA Zk 3) w:=WR
def Gn(w:I6):(l_ 204 (zR Zk) (I L 4)).run c_ w=.ok (vA Zk 4) w:=WR
def Gm(w:I6):(l_ 204 (zR Zk) (I L 5)).run c_ w=.ok (vA Zk 5) w:=WR
def Gz(w:I6):(l_ 204 (zR Zl) (I L 0)).run c_ w=.ok (vA Zl 0) w:=WR
def Gy(w:I6):(l_ 204 (zR Zl) (I L 1)).run c_ w=.ok (vA Zl 1) w:=WR
def Gx(w:I6):(l_ 204 (zR Zl) (I L 2)).run c_ w=.ok (vA Zl 2) w:=WR
def Gw(w:I6):(l_ 204 (zR Zl) (I L 3)).run c_ w=.ok (vA Zl 3) w:=WR
def Gv(w:I6):(l_ 204 (zR Zl) (I L 4)).run c_ w=.ok (vA Zl 4) w:=WR
def Gu(w:I6):(l_ 204 (zR Zl) (I L 5)).run c_ w=.ok (vA Zl 5) w:=WR
def sn(a:Bool):∀k:Nat,k<6->∀w:I6,(l_ 204 (zR a) ((k:Nat))).run c_ w=.ok (vA a k) w:=by
 intro k b w;have:k=0\/k=1\/k=2\/k=3\/k=4\/k=5:=O;cases a
 .obtain rfl|rfl|rfl|rfl|rfl|rfl:=this
  .exact Gz w
  .exact Gy w
  .exact Gx w
  .exact Gw w
  .exact Gv w
  .exact Gu w
 .obtain rfl|rfl|rfl|rfl|rfl|rfl:=this
  .exact Gt w
  .exact Gs w
  .exact Gq w
  .exact Gp w
  .exact Gn w
  .exact Gm w
def vh(b:Nat)(M:I0)(w:I6):Prop:=b<w.heap.size/\w.rangeAt b 0 M.toList/\M.size=12
def vh.gr{b:Nat}(h:vh b M w)(g:Gr w w'):vh b M w':=⟨qN h.1 (ZR g),λj v a=>(ZW g (p:=⟨b,0+j,N⟩) h.1).trans (h.2.1 j v a),h.2.2⟩
def St(w1:I6)(b:Nat)(M:I0)(w:I6):Prop:=vh b M w/\Gr w1 w
def St.gr{b:Nat}(h:St w1 b M w)(g:Gr w w'):St w1 b M w':=⟨h.1.gr g,o_ h.2 g⟩
def pd{d:Array Oper}{op:Oper}{a:Act}(j:M.size=12){S:I6->Prop}(g:Region.wanted op (yielded d a.tmps)=Zk)(x:Operand)(f:op.op=.load 197 x)(b:Nat)(i:a.eval x=ZI b)(e:∀w,S w->vh b M w):YieldsIf c_ d S op M a:=by have:=XW (P:=c_) g 197 x f b 0 i M.toList _ (λw h=>(e w h).2.1) underlying197 rfl (by rw[uF];simp[j]);rwa[Yb]at this
def Co{f:I5}(a:k<6)(h:f k=Zk):(h_ 6).any f=Zk:=qY.2 ⟨k,qK.2 a,h⟩
def wP{f:I5}(h:∀j,j<6->f j=Zl):(h_ 6).any f=Zl:=by rw[XD];intro j a;rw[h j (qK.1 a)];decide
def St.cell{b:Nat}{m:I8}(h:St w1 b M w)(d:jS m M)(k:Nat)(e:k<12):w.cell? ⟨b,k,N⟩=I Zh (U (m k)):=by have a:=h.1.2.1 k _ (by rw[qO];exact d.2 k e);rwa[Z2]at a
def qq0(m:I8)(M:I0)(T:jS m M)(z:Int)(h0:0<=z)(h1:z<=63)(b:Bool)(w:I6):ZL 127 #[M,z,b] w (xV m z b):=by
 have A:=X T;have hz:=X T.1;have a4:vh w M (w.alloc (Z M 197)):=⟨Vj,(by intro j v hv;rw[Z8 _ _ _ _ R,Z2,<-qO];exact hv),T.1⟩;have G:Y (Gr w (w.alloc (Z M 197))):=X ZN;have F:=X (FJ b);have a5:=X (gQ b);have B:=X (sn b);have hq:=io b;obtain⟨f,p⟩:∃f,Y (f=uk m z b):=⟨_,X R⟩;have u:Y (∀k,f k=(bits .and Zh (yL (vA b k) z (U (j0 m))) (U (m (bg b+k)))!=0)):=(by rw[p.a];intro k;rfl);have o:xV m z b=(h_ 6).any f:=by rw[p.a];rfl
 rw[o];clear o p;generalize bg b=q at F hq u;generalize zR b=KA at a5 B;clear T;unfold ZL;go_in;go_wp2;generalize w.alloc _=w1 at a4 G|-;have Q:St w1 w M w1.drew:=⟨a4.gr ZO.drew,ZO.drew⟩;clear a4;refine ZT (S:=St w1 w M) WR Q (λd=>?_);apply C.ty 0 M R (pd hz Vb _ R w R (λ_ h=>h.1)) d;apply C.ty 2 M R (pd hz Vb _ R w R (λ_ h=>h.1)) d;refine C.rd 1 λK hK=>?_;go_simp;refine Z0 (jp m M A Zk _) λwa a8=>?_;refine hK.out _ _ (d.gr a8) λd=>?_;clear hK K Q a8;refine C.rd 3 λK hK=>?_;go_simp;refine Z0 (jp m M A Zl _) λwb a=>?_;refine hK.out _ _ (d.gr a) λd=>?_;clear hK K a;have a1:=uQ;refine C.ty 4 (I Zh (U (j0 m))) R (Zi ⟨Vb,λw _=>?_⟩) d ?_
 .go_simp;rfl
 refine C.rd 5 λK hK=>?_;go_simp;refine hK.out _ _ d λd=>?_;clear hK K a1;refine ZZ WR ?_ _;have V:=X (λk W=>St.cell d A k W);have a:=X (o_ G d.2);clear d G hz A;generalize U _=tk at u|-;go_wp2_with(go_at_call 130;refine Z0 (a5 _) λwk H=>?_);replace V:Y (∀k,k<12->wk.cell? ⟨w,k,N⟩=I Zh (U (m k))):=X λk W=>(ZW H (p:=⟨w,k,N⟩) (Ye wb _ (V k W))).trans (V k W);replace a:Y (Gr w wk):=X (o_ a H);clear H;go_loopg [18] 6 (λg n wr=>∃k:Nat,k+g=6/\n=k/\(∀j,j<k->f j=Zl)/\wr=wk)
 case atStart=>exact⟨0,R,R,λj hj=>w_ hj (Yy j),R⟩
 case round=>
  obtain⟨k,k1,rfl,k3,rfl⟩:=hrel;have a6:=X k3;clear k3;by_cases J:k<6
  .have b0:=V (q+k) O;have a9:=B k J;have P:=BX b k J;have r:=u k;generalize vA b k=kd at a9 P r;have a2:0<=(k:Int):=O;have a3:(k:Int)<6:=O;obtain⟨D,E⟩:=P;by_cases a7:bits .and Zh (yL kd z tk) (U (m (q+k)))=0
   .have i:f k=Zl:=(by rw[r,a7];rfl);clear r;have l:=X i;clear i;go_wp2_with(first|(go_at_call 131;refine(F _).mono ?_;rintro e w' ⟨rfl,rfl⟩)|(go_at_call 206;refine(qjg kd z tk D E h0 h1 _).mono ?_;rintro e w' ⟨rfl,rfl⟩));go_roundg (gk-1)
    case measure=>omega
    case rel=>exact⟨k+1,O,Vg,(by
     intro j hj;by_cases a0:j=k
     .subst a0;exact l
     .exact a6 j O),R⟩
   .have i:f k=Zk:=(by rw[r];exact qU.2 a7);clear r;have l:=X i;clear i;go_wp2_with(first|(go_at_call 131;refine(F _).mono ?_;rintro e w' ⟨rfl,rfl⟩)|(go_at_call 206;apply Z1 (qjg kd z tk D E h0 h1 _)));go_ret;exact⟨by rw[Co J l.a];rfl,a⟩
  .have ek:k=6:=O;subst ek;go_wp2;go_ret;exact⟨by rw[wP a6.a];rfl,a⟩
def G1(B:I0)(k:Nat)(e:k<64)(v:Int)(b:B[k]?=I Zg v)(w:I6):(l_ 67 B ((k:Nat))).run c_ w=.ok (I Zg v) w:=by have a:0<=(k:Int)/\(k:Int)<64:=O;have d:=t_;simp[l_,run_underlying d,asIntOf,a,go_sem,b];intro h;omega
def xD(z:Nat->UInt8):Nat->Nat->BitVec 64
 | 0,_=>0#64
 | k+1,p=>xD z k p|||(if e_ xU (z k)=(p:Int)then 1#64<<<k else 0#64)
def ew(c:UInt8):Bool:=c==46||decide (0<=e_ xU c)
def xO(z:I2):Bool:=(h_ 64).all λi=>ew (z i)
def yI:I0:=#[I Zh 0,I Zh 0,I Zh 0,I Zh 0,I Zh 0,I Zh 0,I Zh 0,I Zh 0,I Zh 0,I Zh 0,I Zh 0,I Zh 0]
def gM{p:Nat}(h:e_ xU (z k)≠(p:Int)):xD z (k+1) p=xD z k p:=by show xD z k p|||(if _ then _ else _)=_;rw[qF h];simp
def sc{p:Nat}(h:e_ xU (z k)=(p:Int)):xD z (k+1) p=xD z k p|||1#64<<<k:=by show xD z k p|||(if _ then _ else _)=_;rw[qI h]
def fM(h:e_ xU (z k)<0)(a:jS (xD z k) M):jS (xD z (k+1)) M:=⟨a.1,λi b=>by rw[gM O];exact a.2 i b⟩
def mw{p:Nat}(d:p<12)(h:e_ xU (z k)=(p:Int))(a:jS (xD z k) M):jS (xD z (k+1)) (M.setIfInBounds p (I Zh (U (xD z (k+1) p)))):=by
 refine⟨by simpa using a.1,λi b=>?_⟩;rw[Yu];by_cases e:p=i
 .subst e;rw[qI R,qI (by rw[a.1];exact d)]
 .rw[qF e,gM O];exact a.2 i b
def uo:e_ xU 46=-1:=WS
def G4:∀c:UInt8,e_ xU c<12:=by intro c;have:∀n,n<256->e_ xU (j_ n)<12:=WS;have h:=this c.toNat c.toNat_lt;simpa using h
def dj(z:I2):jS (xD z 0) yI:=by refine⟨R,λi a=>?_⟩;have:i=0\/i=1\/i=2\/i=3\/i=4\/i=5\/i=6\/i=7\/i=8\/i=9\/i=10\/i=11:=O;rcases this with rfl|rfl|rfl|rfl|rfl|rfl|rfl|rfl|rfl|rfl|rfl|rfl<;>rfl
def jS.ones{m:I8}(h:jS m M):M.all (·.oneCell')=Zk:=by rw[Array.all_eq_true];intro i b;have a:=h.2 i (by rw[<-h.1];exact b);rw[qQ b]at a;rw[qP a];simp[Value.oneCell']
def jS.info{m:I8}(h:jS m M):(c_.info? 197).map (·.size)=S M.size:=by rw[uF,h.1]
def E2(z:I2)(e:Ending):Prop:=∃M,e=Zd (Ze #[Zc M,Za (xO z)])/\(∃m,jS m M)/\(xO z=Zk->jS (xD z 64) M)
def mg(a:k<64)(h:ew (z k)=Zl):xO z=Zl:=by unfold xO;rw[Wv];exact⟨k,qK.2 a,by rw[h];decide⟩
def Fy(h:∀j,j<64->ew (z j)=Zk):xO z=Zk:=by unfold xO;rw[qW];intro j a;exact h j (qK.1 a)
def lE(z:I2)(B:I0)(W:B.size=64)(Q:∀i,i<64->B[i]?=I Zg (z i).toNat)(w:I6):i_ c_ 126 #[B] w λe w'=>E2 z e/\Gr w w':=by
 have P:=X W;have G:=X Q;clear W Q;have u:=X (lM w);go_in;go_wp2_with(refine ZV R 67 _ R w R 67 B (0,0) _ (u.a _ _ _).1 t_ rfl (by rw[P.a];exact x7) ?_);go_loopg [9] 64 (λg n wr=>∃k:Nat,k+g=64/\n=k/\(∀j,j<k->ew (z j)=Zk)/\∃(M:I0)(d:Nat),jS (xD z k) M/\wr=(((w.alloc (Z B 67)).alloc (Z yI 197)).alloc (Z M 197)).drewN d)
 case atStart=>exact⟨0,R,R,λj v=>w_ v (Yy j),yI,0,dj z,R⟩
 case round=>
  obtain⟨k,k1,rfl,a2,M,d,H,rfl⟩:=hrel;have A:=X a2;have b:=X H;have a5:=H.1;clear a2 H;by_cases l:k<64
  .have a6:=G1 B k l _ (G.a k l);have a3:0<=(k:Int):=O;have a9:(k:Int)<64:=O;by_cases a:z k=46
   .have q:((z k).toNat:Int)=46:=(by rw[a];rfl);rw[q]at a6;go_wp2;go_roundg (gk-1)
    case measure=>omega
    case rel=>exact⟨k+1,O,Vg,(by
     intro j v;by_cases x:j=k
     .subst x;unfold ew;rw[a];rfl
     .exact A.a j O),M,d,fM (by rw[a,uo];decide) b.a,R⟩
   .have q:(((z k).toNat:Int)==46)=Zl:=(by rw[qM];intro h;apply a;apply q6.1;have:(z k).toNat=46:=O;rw[this];rfl);have r:=X a;clear a;have hu:((z k).toNat:Int).toNat.toUInt8=z k:=WU;have y:Y (ew (z k)=Zm (0<=e_ xU (z k))):=X (by unfold ew;rw[qM.2 r.a,Xo]);have F:=G4 (z k);have K:Y (e_ xU (z k)=e_ xU (z k)):=X R;generalize f:e_ xU (z k)=E at y F;have o:=X f;have a7:e_ [80,78,66,82,81,75,112,110,98,114,113,107] (z k)=E:=f;clear f K;by_cases a8:E<0
    .have m:Y (xO z=Zl):=X (mg l (by rw[y.a];exact qE O));go_wp2_with(first|(go_at_call 200;refine(Tryz.strings_IndexByte _ _ _).mono ?_;rintro e w' ⟨rfl,rfl⟩)|(refine ZU R 197 _ _ R (w+1) yI R R 197 yI (u.a _ _ _).2.1 uF R (dj z).ones ?_));exact ZS (v:=Ze #[yI,Zl]) (qj results126 _ _ (w+1) 197 yI (0,0) _ R (Zt (u.a _ _ _).2.1) underlying197 rfl uF) R ⟨⟨yI,by rw[m.a],⟨_,dj z⟩,λh=>by rw[m.a]at h;cases h⟩,(r_ ZN.al.al _).setRow _ O _⟩
    .obtain⟨p,rfl⟩:∃p:Nat,E=p:=⟨E.toNat,O⟩;have T:p<12:=O;have a1:0<=(p:Int):=O;have V:(p:Int)<12:=O;have J:(((w.alloc (Z B 67)).alloc (Z yI 197)).alloc (Z M 197)).cell? ⟨w+1+1,p,N⟩=I Zh (U (xD z k p)):=(by rw[Zs (u.a _ _ _).2.2];exact b.a.2 p T);have a0:bits .or Zh (U (xD z k p)) (v6 (k:Int))=U (xD z (k+1) p):=(by rw[rp k l,uQ,sc o.a]);go_wp2_with(go_at_call 200;refine(Tryz.strings_IndexByte _ _ _).mono ?_;rintro e w' ⟨rfl,rfl⟩);have D:=X (A9 (k:Int) a3 O);go_region_with (go_at_call 204;refine Z1 (D.a _) ?_);all_goals
      go_wp2;go_roundg (gk-1)
      case measure=>omega
      case rel=>exact⟨k+1,O,Vg,(by
       intro j v;by_cases x:j=k
       .subst x;rw[y.a];exact qJ O
       .exact A.a j O),_,_,mw T o.a b.a,R⟩
  .have a4:k=64:=O;subst a4;have C:=X (Fy A);go_wp2_with(first|(refine ZV R 197 _ R (w+2) R 197 M (0,0) _ (u.a _ _ _).2.2 underlying197 rfl b.a.info ?_)|(refine ZU R 197 _ _ R (w+1) M R R 197 yI (u.a _ _ _).2.1 b.a.info a5.symm b.a.ones ?_));exact ZS (v:=Ze #[M,Zk]) (qj results126 _ _ (w+1) 197 M (0,0) _ R (Zt (u _ _ _).2.1) underlying197 rfl b.info) R ⟨⟨M,by rw[C.a],⟨_,b⟩,λ_=>b⟩,(r_ ZN.al.al _).setRow _ O _⟩
structure jE(z:I2)(wh:Bool)(f:I5)(b h g:Int)(PA:I0):Prop where
 size:PA.size=72
 sq:∀i,i<64->PA[i]?=S (I Zg (z i).toNat)
 wh:PA[64]?=S (Za wh)
 c:∀i,i<4->PA[65+i]?=S (Za (f i))
 b:PA[69]?=S (I L b)
 h:PA[70]?=S (I L h)
 g:PA[71]?=S (I L g)
def zP(h g:Int):Bool:=Zm (0<=h)&&Zm (h<=65535)&&Zm (1<=g)&&Zm (g<=65535)
def fh{f:I5}{g:Int}(r:jE z wh f b h g PA)(w:I6):ZL 145 #[PA] w (zP h g):=by
 have l:(w.alloc (Z PA 70)).cell? ⟨w,70,N⟩=h:=by rw[Z8 _ _ _ _ R];exact r.h
 have m:(w.alloc (Z PA 70)).cell? ⟨w,71,N⟩=g:=by rw[Z8 _ _ _ _ R];exact r.g
 clear r;obtain⟨v,a⟩:=Zn (zP h g);rw[a.a];by_cases j:0<=h;by_cases k:h<=65535;by_cases d:1<=g;by_cases i:g<=65535;have e:Zk=v:=by rw[<-a.a];simp[zP,j,k,d,i]
 rotate_left;have e:Zl=v:=by rw[<-a.a];simp[zP,i]
 rotate_left;have e:Zl=v:=by rw[<-a.a];simp[zP,d]
 rotate_left;have e:Zl=v:=by rw[<-a.a];simp[zP,k]
 rotate_left;have e:Zl=v:=by rw[<-a.a];simp[zP,j]
 all_goals
  subst e;clear a;unfold ZL;go_in;go_wp2;go_ret;exact⟨R,ZN⟩
def xX(z:I2)(wh:Bool)(b:Int):Bool:=
 Zm (b=-1)||(if wh then Zm (40<=b)&&Zm (b<48)&&Zm (((z b.toNat).toNat:Int)=46)&&Zm (((z (b+8).toNat).toNat:Int)=46)&&Zm (((z (b-8).toNat).toNat:Int)=112)
  else Zm (16<=b)&&Zm (b<24)&&Zm (((z b.toNat).toNat:Int)=46)&&Zm (((z (b-8).toNat).toNat:Int)=46)&&Zm (((z (b+8).toNat).toNat:Int)=80))
def Ci{f:I5}{g:Int}(r:jE z Zk f b h g PA)(i:b≠-1)(w:I6):ZL 144 #[PA] w (xX z Zk b):=by
 have d:∀o,(w.alloc (Z PA 70)).cell? ⟨w,o,N⟩=PA[o]?:=λo=>Z8 _ _ _ _ R;have q:(w.alloc (Z PA 70)).cell? ⟨w,64,N⟩=Zk:=by rw[d];exact r.wh
 have u:(w.alloc (Z PA 70)).cell? ⟨w,69,N⟩=b:=by rw[d];exact r.b
 by_cases K:40<=b
 .by_cases Q:b<48
  .obtain⟨n,rfl⟩:∃n:Nat,b=n:=⟨b.toNat,O⟩;have M:40<=n:=O;have P:((n:Int)+-8).toNat=n-8:=O;have T:n<48:=O;have k:(w.alloc (Z PA 70)).cell? ⟨w,n,N⟩=I Zg (z n).toNat:=(by rw[d];exact r.sq n O);have l:(w.alloc (Z PA 70)).cell? ⟨w,n+8,N⟩=I Zg ((z (n+8)).toNat:Int):=Ut;have m:(w.alloc (Z PA 70)).cell? ⟨w,n-8,N⟩=I Zg ((z (n-8)).toNat:Int):=Ut;have j:xX z Zk (n:Int)=(Zm (((z n).toNat:Int)=46)&&Zm (((z (n+8)).toNat:Int)=46)&&Zm (((z (n-8)).toNat:Int)=112)):=(by have G:((n:Int)+8).toNat=n+8:=O;have H:((n:Int)-8).toNat=n-8:=O;have D:Zm ((n:Int)=-1)=Zl:=qE O;have E:Zm ((40:Int)<=n)=Zk:=qJ O;have F:Zm ((n:Int)<48)=Zk:=qJ O;unfold xX;rw[D,E,F,G,H,YE];simp only[Xo,Xc,YS,YH,qR]);rw[j];clear j r d;generalize ((z n).toNat:Int)=A at k|-;generalize ((z (n+8)).toNat:Int)=B at l|-;generalize ((z (n-8)).toNat:Int)=C at m|-;obtain⟨v,a⟩:=Zn (Zm (A=46)&&Zm (B=46)&&Zm (C=112));rw[a.a];by_cases x:A=46
   .by_cases y:B=46
    .by_cases p:C=112
     .have e:Zk=v:=(by rw[<-a.a];simp[x,y,p]);exact WF
     .have e:Zl=v:=(by rw[<-a.a];simp[p]);subst e;clear a;have J:=qM.2 p;exact WG
    .have e:Zl=v:=(by rw[<-a.a];simp[y]);exact WF
   .have e:Zl=v:=(by rw[<-a.a];simp[x]);exact WF
  .obtain⟨v,a⟩:=Zn (xX z Zk b);exact IP
 .obtain⟨v,a⟩:=Zn (xX z Zk b);exact IP
def Cl{f:I5}{g:Int}(r:jE z Zl f b h g PA)(i:b≠-1)(w:I6):ZL 144 #[PA] w (xX z Zl b):=by
 have d:∀o,(w.alloc (Z PA 70)).cell? ⟨w,o,N⟩=PA[o]?:=λo=>Z8 _ _ _ _ R;have q:(w.alloc (Z PA 70)).cell? ⟨w,64,N⟩=Zl:=by rw[d];exact r.wh
 have u:(w.alloc (Z PA 70)).cell? ⟨w,69,N⟩=b:=by rw[d];exact r.b
 by_cases J:16<=b
 .by_cases K:b<24
  .obtain⟨n,rfl⟩:∃n:Nat,b=n:=⟨b.toNat,O⟩;have Q:16<=n:=O;have M:n<24:=O;have k:(w.alloc (Z PA 70)).cell? ⟨w,n,N⟩=I Zg (z n).toNat:=(by rw[d];exact r.sq n O);have l:(w.alloc (Z PA 70)).cell? ⟨w,n-8,N⟩=I Zg ((z (n-8)).toNat:Int):=Ut;have m:(w.alloc (Z PA 70)).cell? ⟨w,n+8,N⟩=I Zg ((z (n+8)).toNat:Int):=Ut;have j:xX z Zl (n:Int)=(Zm (((z n).toNat:Int)=46)&&Zm (((z (n-8)).toNat:Int)=46)&&Zm (((z (n+8)).toNat:Int)=80)):=(by have G:((n:Int)+8).toNat=n+8:=O;have H:((n:Int)-8).toNat=n-8:=O;have D:Zm ((n:Int)=-1)=Zl:=qE O;have E:Zm ((16:Int)<=n)=Zk:=qJ O;have F:Zm ((n:Int)<24)=Zk:=qJ O;unfold xX;rw[D,E,F,G,H,YE];simp only[Xo,Xc,YS,YH,qR]);rw[j];clear j r d;generalize ((z n).toNat:Int)=A at k|-;generalize ((z (n-8)).toNat:Int)=B at l|-;generalize ((z (n+8)).toNat:Int)=C at m|-;obtain⟨v,a⟩:=Zn (Zm (A=46)&&Zm (B=46)&&Zm (C=80));rw[a.a];by_cases x:A=46
   .by_cases y:B=46
    .by_cases p:C=80
     .have e:Zk=v:=(by rw[<-a.a];simp[x,y,p]);exact WF
     .have e:Zl=v:=(by rw[<-a.a];simp[p]);subst e;clear a;have P:=qM.2 p;exact WG
    .have e:Zl=v:=(by rw[<-a.a];simp[y]);exact WF
   .have e:Zl=v:=(by rw[<-a.a];simp[x]);exact WF
  .obtain⟨v,a⟩:=Zn (xX z Zl b);exact IP
 .obtain⟨v,a⟩:=Zn (xX z Zl b);exact IP
def Cj{f:I5}{g:Int}(r:jE z wh f (-1) h g PA)(w:I6):ZL 144 #[PA] w (xX z wh (-1)):=by
 have a:(w.alloc (Z PA 70)).cell? ⟨w,69,N⟩=I L (-1):=by rw[Z8 _ _ _ _ R];exact r.b
 clear r;have e:xX z wh (-1)=Zk:=by simp[xX]
 rw[e];clear e;exact WG
def nS{f:I5}{g:Int}(r:jE z wh f b h g PA)(w:I6):ZL 144 #[PA] w (xX z wh b):=by
 by_cases a:b=-1
 .subst a;exact Cj r w
 .cases wh
  .exact Cl r a w
  .exact Ci r a w
def jF(w:I6):Prop:=kL w/\2<w.heap.size
def jF.gr(h:jF w)(g:Gr w w'):jF w':=⟨h.1.below g.below h.2,qN h.2 (ZR g)⟩
def Sx(w1:I6)(b:Nat)(M:I0)(w:I6):Prop:=St w1 b M w/\jF w
def Sx.gr{b:Nat}(h:Sx w1 b M w)(g:Gr w w'):Sx w1 b M w':=⟨h.1.gr g,h.2.gr g⟩
def Sx.held{b:Nat}(h:Sx w1 b M w):vh b M w:=h.1.1
def Sx.tab{b:Nat}(h:Sx w1 b M w):jF w:=h.2
def Sx.grow{b:Nat}(h:Sx w1 b M w):Gr w1 w:=h.1.2
def qp{e:Array Oper}{d:List Oper}{o:Oper}{a:Act}{Q:Exit->Act->I6->Prop}(i:Region.wanted o (yielded e a.tmps)=Zk)(x:Operand)(g:o.op=.load 197 x)(b:Nat)(j:a.eval x=ZI b)(f:vh b M w)(h:wpList c_ e Q d (a.put o.dst M) w):wpList c_ e Q (o::d) a w:=wpList_step λK hK=>by rw[qI i];refine wp_load_mid (P:=c_) 197 x g b 0 j M.toList _ f.2.1 underlying197 rfl (by rw[uF];simp[f.2.2]) ?_;rw[Yb];exact hK _ _ h
def qx2(s:BitVec 64)(w:I6)(a:jF w):i_ c_ 218 #[.func (.func 207) #[] #[ZI w]] (w.alloc (Z #[I Zh (U s)] 195)) λe w'=>e=Zd ((vD s).length)/\Gr w w':=by have g:Gr w (w.alloc (Z #[I Zh (U s)] 195)):=ZN;refine(m9 s w _ Vj (a.gr g).2 Ug (a.gr g).1).mono ?_;rintro e w' ⟨b,d⟩;exact⟨b,o_ g d⟩
def vM(m:I8)(b:Bool):Bool:=Zm (((vD (m (bg b+5))).length:Int)=1)&&Zm (((vD (xZ m b)).length:Int)<=16)&&Zm (bits .and Zh (U (m (bg b))) 18374686479671623935=0)
def bO(m:I8)(M:I0)(l:jS m M)(b:Bool)(w:I6)(o:jF w):ZL 142 #[M,b] w (vM m b):=by
 have f:=X l;have h:Y (Gr w (w.alloc (Z M 197))):=X ZN;have a:Sx w w M (w.alloc (Z M 197)):=⟨⟨⟨Vj,(by intro j v g;rw[Z8 _ _ _ _ R,Z2,<-qO];exact g),l.1⟩,h⟩,o.gr h⟩;clear l o;obtain⟨v,g⟩:=Zn (vM m b);rw[g.a];by_cases i:((vD (m (bg b+5))).length:Int)=1;by_cases n:((vD (xZ m b)).length:Int)<=16;by_cases k:bits .and Zh (U (m (bg b))) 18374686479671623935=0;have e:Zk=v:=by rw[<-g.a];simp only[vM,qJ i,qJ n,qJ k];rfl
 subst e;clear g;rotate_left;have e:Zl=v:=by rw[<-g.a];simp only[vM,qE k,XU]
 subst e;clear g;have q:=qM.2 k;rotate_left;have e:Zl=v:=by rw[<-g.a];simp only[vM,qE n,XU,XK]
 subst e;clear g;rotate_left;have e:Zl=v:=by rw[<-g.a];simp only[vM,qE i,XK]
 subst e;clear g;have p:=qM.2 i;all_goals
  unfold ZL;go_in;go_wp2_with(first|(refine qp Vb _ R w R (Sx.held (w1:=w) ‹_›) ?_)|(go_at_call 213;refine Z0 (FL m M f _ _) λw' d=>?_;have a:=Sx.gr ‹_› d)|(go_at_call 205;refine Z0 (jp m M f _ _) λw' d=>?_;have a:=Sx.gr ‹_› d)|(go_at_call 219;refine Z0 (qxm m M f _ _) λw' d=>?_;have a:=Sx.gr ‹_› d)|(go_at_call 132;refine(xn _ _).mono ?_;rintro e w' ⟨rfl,rfl⟩)|(go_at_call 218;refine Z0 (qx2 _ _ (Sx.tab (w1:=w) (b:=w) (M:=M) ‹_›)) λw' d=>?_;have a:=Sx.gr ‹_› d));go_ret;exact⟨R,a.grow⟩
def vp:List I7:=[I L 4,I Zg 75,I L 7,I Zg 82,I L 4,I Zg 75,I L 0,I Zg 82,I L 60,I Zg 107,I L 63,I Zg 114,I L 60,I Zg 107,I L 56,I Zg 114]
def vJ(w:I6):Prop:=w.rangeAt 1 0 vp/\1<w.heap.size
def vJ.gr(h:vJ w)(g:Gr w w'):vJ w':=⟨λj v a=>(ZW g (p:=⟨_,0+j,N⟩) h.2).trans (h.1 j v a),qN h.2 (ZR g)⟩
def ss:(c_.info? 269).map (·.size)=S vp.length:=WR
def xN(z:I2)(f:I5)(ks:Nat)(kl:Int)(rs:Nat)(rl:Int)(k:Nat):Bool:=!(f k)||(Zm (((z ks).toNat:Int)=kl)&&Zm (((z rs).toNat:Int)=rl))
def zX(z:Nat->UInt8)(f:Nat->Bool):Nat->Bool
 | 0=>xN z f 4 75 7 82 0
 | 1=>xN z f 4 75 0 82 1
 | 2=>xN z f 60 107 63 114 2
 | 3=>xN z f 60 107 56 114 3
 | _=>Zk
def jH(z:I2)(f:I5):Bool:=(h_ 4).all (zX z f)
def xt{f:I5}(a:k<4)(h:zX z f k=Zl):jH z f=Zl:=by unfold jH;rw[Wv];exact⟨k,qK.2 a,by rw[h];decide⟩
def qvw{f:I5}(h:∀j,j<4->zX z f j=Zk):jH z f=Zk:=by unfold jH;rw[qW];intro j a;exact h j (qK.1 a)
def Gl(w:I6):(l_ 269 (vp.toArray) (I L 0)).run c_ w=.ok (Zc #[I L 4,I Zg 75,I L 7,I Zg 82]) w:=WR
def Gk(w:I6):(l_ 269 (vp.toArray) (I L 1)).run c_ w=.ok (Zc #[I L 4,I Zg 75,I L 0,I Zg 82]) w:=WR
def Gj(w:I6):(l_ 269 (vp.toArray) (I L 2)).run c_ w=.ok (Zc #[I L 60,I Zg 107,I L 63,I Zg 114]) w:=WR
def Gi(w:I6):(l_ 269 (vp.toArray) (I L 3)).run c_ w=.ok (Zc #[I L 60,I Zg 107,I L 56,I Zg 114]) w:=WR
def tj{f:I5}{g:Int}(r:jE z wh f b h g PA)(w:I6)(R:vJ w):ZL 143 #[PA] w (jH z f):=by
 have G:=X r;have Q:=X R;have W:Y (∀o,(w.alloc (Z PA 70)).cell? ⟨w,o,N⟩=PA[o]?):=λo=>Z8 _ _ _ _ rfl;have u:Y (Gr w (w.alloc (Z PA 70))):=X ZN;have a2:Y (w<(w.alloc (Z PA 70)).heap.size):=X Vj;generalize P:vp.toArray=a6;unfold ZL;go_in;go_wp2_with(refine Yo rfl 269 _ rfl 1 0 rfl vp _ (Q.a.gr u.a).1 underlying269 rfl ss ?_);go_loopg [6] 4 (λV n wr=>∃k:Nat,k+V=4/\n=k/\(∀j,j<k->zX z f j=Zk)/\Gr (w.alloc (Z PA 70)) wr)
 case atStart=>exact⟨0,rfl,rfl,λj p=>w_ p (Yy j),ZO⟩
 case round=>
  obtain⟨k,k1,rfl,a3,H⟩:=hrel;have B:=X a3;have a:=X H;have i:∀o v,PA[o]?=S v->wr.cell? ⟨w,o,N⟩=S v:=λo v J=>(ZW H (p:=⟨w,o,N⟩) a2).trans ((W o).trans J);have K:w<wr.heap.size:=qN a2 (ZR H);by_cases a5:k<4
  .have a4:k=0\/k=1\/k=2\/k=3:=O;obtain rfl|rfl|rfl|rfl:=a4
   .have D:=Gl;rw[P]at D;have A:∀o v,PA[o]?=S v->(wr.alloc (Z #[I L 4,I Zg 75,I L 7,I Zg 82] 268)).cell? ⟨w,o,N⟩=S v:=λo v J=>(ZW ZN (p:=⟨w,o,N⟩) K).trans (i o v J);have a0:(wr.alloc (Z #[I L 4,I Zg 75,I L 7,I Zg 82] 268)).cell? ⟨w,65,N⟩=(f 0):=A _ _ (G.c 0 WW);have hK:(wr.alloc (Z #[I L 4,I Zg 75,I L 7,I Zg 82] 268)).cell? ⟨w,4,N⟩=I Zg (z 4).toNat:=A _ _ (G.sq 4 WW);have hR:(wr.alloc (Z #[I L 4,I Zg 75,I L 7,I Zg 82] 268)).cell? ⟨w,7,N⟩=I Zg (z 7).toNat:=A _ _ (G.sq 7 WW);obtain⟨C,d⟩:=Zn (f 0);obtain⟨x,E⟩:=Zn ((z 4).toNat:Int);obtain⟨y,F⟩:=Zn ((z 7).toNat:Int);rw[d.a]at a0;rw[E.a]at hK;rw[F.a]at hR;cases C
    .skip;go_wp2;go_quiet(fail);go_wp2;go_roundg (gk-1)
     case measure=>omega
     case rel=>exact⟨0+1,O,Vg,(by
      intro j p;by_cases l:j=0
      .subst l;show xN z f 4 75 7 82 0=Zk;unfold xN;rw[d.a];rfl
      .exact B j O),r_ (a.a.alloc _ _) _⟩
    .by_cases m:x=75
     .subst m;by_cases q:y=82
      .subst q;go_wp2;go_quiet(fail);go_wp2;go_roundg (gk-1)
       case measure=>omega
       case rel=>exact⟨0+1,O,Vg,(by
        intro j p;by_cases l:j=0
        .subst l;show xN z f 4 75 7 82 0=Zk;unfold xN;rw[d.a,E.a,F.a];rfl
        .exact B j O),r_ (a.a.alloc _ _) _⟩
      .have a1:=qU.2 q;have e:=X (show jH z f=Zl from xt (k:=0) WW (show xN z f 4 75 7 82 0=Zl from VY));exact WE
     .have M:=qU.2 m;have e:=X (show jH z f=Zl from xt (k:=0) WW (show xN z f 4 75 7 82 0=Zl from VZ));exact WE
   .have D:=Gk;rw[P]at D;have A:∀o v,PA[o]?=S v->(wr.alloc (Z #[I L 4,I Zg 75,I L 0,I Zg 82] 268)).cell? ⟨w,o,N⟩=S v:=λo v J=>(ZW ZN (p:=⟨w,o,N⟩) K).trans (i o v J);have a0:(wr.alloc (Z #[I L 4,I Zg 75,I L 0,I Zg 82] 268)).cell? ⟨w,66,N⟩=(f 1):=A _ _ (G.c 1 WW);have hK:(wr.alloc (Z #[I L 4,I Zg 75,I L 0,I Zg 82] 268)).cell? ⟨w,4,N⟩=I Zg (z 4).toNat:=A _ _ (G.sq 4 WW);have hR:(wr.alloc (Z #[I L 4,I Zg 75,I L 0,I Zg 82] 268)).cell? w=I Zg (z 0).toNat:=A _ _ (G.sq 0 WW);obtain⟨C,d⟩:=Zn (f 1);obtain⟨x,E⟩:=Zn ((z 4).toNat:Int);obtain⟨y,F⟩:=Zn ((z 0).toNat:Int);rw[d.a]at a0;rw[E.a]at hK;rw[F.a]at hR;cases C
    .skip;go_wp2;go_quiet(fail);go_wp2;go_roundg (gk-1)
     case measure=>omega
     case rel=>exact⟨1+1,O,Vg,(by
      intro j p;by_cases l:j=1
      .subst l;show xN z f 4 75 0 82 1=Zk;unfold xN;rw[d.a];rfl
      .exact B j O),r_ (a.a.alloc _ _) _⟩
    .by_cases m:x=75
     .subst m;by_cases q:y=82
      .subst q;go_wp2;go_quiet(fail);go_wp2;go_roundg (gk-1)
       case measure=>omega
       case rel=>exact⟨1+1,O,Vg,(by
        intro j p;by_cases l:j=1
        .subst l;show xN z f 4 75 0 82 1=Zk;unfold xN;rw[d.a,E.a,F.a];rfl
        .exact B j O),r_ (a.a.alloc _ _) _⟩
      .have a1:=qU.2 q;have e:=X (show jH z f=Zl from xt (k:=1) WW (show xN z f 4 75 0 82 1=Zl from VY));exact WE
     .have M:=qU.2 m;have e:=X (show jH z f=Zl from xt (k:=1) WW (show xN z f 4 75 0 82 1=Zl from VZ));exact WE
   .have D:=Gj;rw[P]at D;have A:∀o v,PA[o]?=S v->(wr.alloc (Z #[I L 60,I Zg 107,I L 63,I Zg 114] 268)).cell? ⟨w,o,N⟩=S v:=λo v J=>(ZW ZN (p:=⟨w,o,N⟩) K).trans (i o v J);have a0:(wr.alloc (Z #[I L 60,I Zg 107,I L 63,I Zg 114] 268)).cell? ⟨w,67,N⟩=(f 2):=A _ _ (G.c 2 WW);have hK:(wr.alloc (Z #[I L 60,I Zg 107,I L 63,I Zg 114] 268)).cell? ⟨w,60,N⟩=I Zg (z 60).toNat:=A _ _ (G.sq 60 WW);have hR:(wr.alloc (Z #[I L 60,I Zg 107,I L 63,I Zg 114] 268)).cell? ⟨w,63,N⟩=I Zg (z 63).toNat:=A _ _ (G.sq 63 WW);obtain⟨C,d⟩:=Zn (f 2);obtain⟨x,E⟩:=Zn ((z 60).toNat:Int);obtain⟨y,F⟩:=Zn ((z 63).toNat:Int);rw[d.a]at a0;rw[E.a]at hK;rw[F.a]at hR;cases C
    .skip;go_wp2;go_quiet(fail);go_wp2;go_roundg (gk-1)
     case measure=>omega
     case rel=>exact⟨2+1,O,Vg,(by
      intro j p;by_cases l:j=2
      .subst l;show xN z f 60 107 63 114 2=Zk;unfold xN;rw[d.a];rfl
      .exact B j O),r_ (a.a.alloc _ _) _⟩
    .by_cases m:x=107
     .subst m;by_cases q:y=114
      .subst q;go_wp2;go_quiet(fail);go_wp2;go_roundg (gk-1)
       case measure=>omega
       case rel=>exact⟨2+1,O,Vg,(by
        intro j p;by_cases l:j=2
        .subst l;show xN z f 60 107 63 114 2=Zk;unfold xN;rw[d.a,E.a,F.a];rfl
        .exact B j O),r_ (a.a.alloc _ _) _⟩
      .have a1:=qU.2 q;have e:=X (show jH z f=Zl from xt (k:=2) WW (show xN z f 60 107 63 114 2=Zl from VY));exact WE
     .have M:=qU.2 m;have e:=X (show jH z f=Zl from xt (k:=2) WW (show xN z f 60 107 63 114 2=Zl from VZ));exact WE
   .have D:=Gi;rw[P]at D;have A:∀o v,PA[o]?=S v->(wr.alloc (Z #[I L 60,I Zg 107,I L 56,I Zg 114] 268)).cell? ⟨w,o,N⟩=S v:=λo v J=>(ZW ZN (p:=⟨w,o,N⟩) K).trans (i o v J);have a0:(wr.alloc (Z #[I L 60,I Zg 107,I L 56,I Zg 114] 268)).cell? ⟨w,68,N⟩=(f 3):=A _ _ (G.c 3 WW);have hK:(wr.alloc (Z #[I L 60,I Zg 107,I L 56,I Zg 114] 268)).cell? ⟨w,60,N⟩=I Zg (z 60).toNat:=A _ _ (G.sq 60 WW);have hR:(wr.alloc (Z #[I L 60,I Zg 107,I L 56,I Zg 114] 268)).cell? ⟨w,56,N⟩=I Zg (z 56).toNat:=A _ _ (G.sq 56 WW);clear A i;obtain⟨C,d⟩:=Zn (f 3);obtain⟨x,E⟩:=Zn ((z 60).toNat:Int);obtain⟨y,F⟩:=Zn ((z 56).toNat:Int);rw[d.a]at a0;rw[E.a]at hK;rw[F.a]at hR;cases C
    .skip;go_wp2;go_quiet(fail);go_wp2;go_roundg (gk-1)
     case measure=>omega
     case rel=>exact⟨3+1,O,Vg,(by
      intro j p;by_cases l:j=3
      .subst l;show xN z f 60 107 56 114 3=Zk;unfold xN;rw[d.a];rfl
      .exact B j O),r_ (a.a.alloc _ _) _⟩
    .by_cases m:x=107
     .subst m;by_cases q:y=114
      .subst q;go_wp2;go_quiet(fail);go_wp2;go_roundg (gk-1)
       case measure=>omega
       case rel=>exact⟨3+1,O,Vg,(by
        intro j p;by_cases l:j=3
        .subst l;show xN z f 60 107 56 114 3=Zk;unfold xN;rw[d.a,E.a,F.a];rfl
        .exact B j O),r_ (a.a.alloc _ _) _⟩
      .have a1:=qU.2 q;have e:=X (show jH z f=Zl from xt (k:=3) WW (show xN z f 60 107 56 114 3=Zl from VY));exact WE
     .have M:=qU.2 m;have e:=X (show jH z f=Zl from xt (k:=3) WW (show xN z f 60 107 56 114 3=Zl from VZ));exact WE
  .have T:k=4:=O;subst T;go_wp2;go_ret;exact⟨by rw[qvw B.a];rfl,o_ u a⟩
def Db(n:Nat)(Q:1<=n)(l Bn n₀:Nat)(G:Bn<n₀)(z:2<n₀)(s:BitVec 64)(J D:List (Fin 64)->I6->Prop)(L:∀a x W,J a W->a.length<(vD s).length->YieldAt Fence.wide (n-1) c_ l #[I .i64 (x.val:Nat)] W λe h=>(e=Zd Zk/\J (a++[x]) h/\Below n₀ W h)\/(e=Zd Zl/\D (a++[x]) h))(W:I6) (a0:W.cell? Bn=I Zh (U s)) (K:kL W) (H:J [] W):CallsIn Fence.wide n c_ 207 #[.func (.yield l) #[] #[],ZI Bn] W λe h=>(∃v,e=Zd v) ∧((∃F:List (Fin 64),F.map (·.val)=vD s/\J F h)\/(∃a:List (Fin 64),a.map (·.val) <+:vD s/\D a h)):=by
 refine callsIn_of_wp func207 rfl x_ ?_ R;simp only[ntmps207,Nat.reduceAdd,Nat.reduceSub,Zr];gi_wp2;gi_loopw [3] (λp wr=>∃(a:List (Fin 64)) (r:BitVec 64),p=I Zh (U r)/\vD s=a.map (·.val)++vD r/\kL wr/\J a wr) (λp _=>(vD (BitVec.ofInt 64 (intOf p))).length)
 case atStart=>exact⟨[],s,R,R,K,H⟩
 case round=>
  obtain⟨a,r,rfl,i,m,j⟩:=hrel;by_cases q:r=0#64
  .subst q;have a1:(U 0#64 !=0)=Zl:=WS;rw[qv8,Yh]at i;have d:=X i;clear i;gi_wp2;go_end0;exact⟨⟨_,R⟩,Zi ⟨a,d.symm,j⟩⟩
  .obtain⟨t,u,B,C⟩:=qji r q;have g:=qv9 r t u B C;have M:(U r !=0)=Zk:=VN;have A:=X (eI r t B C);obtain⟨P,tmps,o,E,V,hR⟩:=L a ⟨t,u⟩ wr j (by rw[i,g];simp);have d:=X i;have b:=X g;have f:=X m;clear i g m q B C;gi_wp2_with (refine⟨x_,?_⟩;gi_at_call 208;refine(ZY.2 (A _ f)).mono ?_;rintro e w' ⟨rfl,rfl⟩);apply hR.mono;rintro e W3 (⟨rfl,w,y⟩|⟨rfl,k⟩)
   .have a2:a_ Zh (U r-1)=U (r-1#64):=VP;have T:bits .and Zh (U r) (U (r-1#64))=U (r&&&(r-1#64)):=im _ _;gi_wp2;go_roundw
    case rel=>exact⟨a++[⟨t,u⟩],r&&&(r-1#64),R,Ui,f.below y z,w⟩
    case measure=>simp only[intOf];rw[jh,jh,b.a];simp
   .gi_wp2;apply ZS (XS R _ _ _) R;exact⟨⟨_,R⟩,Zj ⟨a++[⟨t,u⟩],⟨vD (r&&&(r-1#64)),Ui⟩,k⟩⟩
def l8(n:Nat)(k:1<=n)(Bn n₀:Nat)(d:Bn<n₀)(a:2<n₀)(s:BitVec 64)(w:I6)(hn₀:n₀<=w)(j:w.cell? Bn=I Zh (U s))(h:kL w):SeqStopsK Fence.wide n c_ 207 #[ZI Bn] (λx:Fin 64=>#[I L ((x.val:Nat):Int)]) (Below n₀) (λm=>m.map (·.val)=vD s) (λb=>b.map (·.val) <+:vD s) (vD s).length w:=λl J f W e _ _ i g=>
 Db n k l Bn n₀ d a s J f i W ((e.cell (p:=Bn) (qN d hn₀)).trans j) (h.below e (qN a hn₀)) g
def Gr.others(g:Gr W a):KeepsOthers W a:=⟨ZR g,λk _ b _=>(YG g k (qB.1 b).1).trans b⟩
def xf{F:Fence}{g:Array Oper}{d:List Oper}{o:Oper}{a:Act}{Q:Exit->Act->I6->Prop}(l:o.guard=N)(x:Operand)(i:o.op=.load 197 x)(b:Nat)(p:a.eval x=ZI b)(j:vh b M w)(h:wpListIn F n c_ g Q d (a.put o.dst M) w):wpListIn F n c_ g Q (o::d) a w:=
 wpListIn_plain l λK hK=>by
  refine⟨λf k=>?_,?_⟩
  .simp[Oper.about,i]at k
  .rw[Oper.semAt_eq _ _ _ (by rw[i];intro c e;cases e)];have m:(execOp a.eval o).run c_ w=.ok (.value M) w:=(by have:=run_loadVar_mid (P:=c_) w b 0 197 M.toList _ j.2.1 underlying197 rfl (by rw[uF];simp[j.2.2]);rw[Yb]at this;unfold execOp;simp only[i,p,Instr.loadAt,Instr.sureAddr,Sem.run_bind,Sem.run_pure,XV,this]);rw[m,Oper.uponIn_value];exact hK _ _ h
def jt{b:Nat}(h:W.heap[b]?=Z M 197)(d:M.size=12):vh b M W:=⟨(qB.1 h).1,λj v a=>by rw[Zs h,Z2,<-qO];exact a,d⟩
def jm{b:Nat}{u:I7}{t:TypeId}(h:W.heap[b]?=Z #[u] t):(W.setCell b v).heap[b]?=Z #[v] t:=by have d:=(qB.1 h).1;have a:=(qB.1 h).2;exact Iy
def DA{b D:Nat}{o o':Obj}(h:W.heap[b]?=o)(a:b≠D):(W.putObj D o').heap[b]?=o:=(Xw a).trans h
def ie(tmps:I0)(w:I6)(b:Nat)(v:I7)(e:tmps.getD 4 m_=ZI b)(d:w.cell? b=v):(results Tryz.f146 tmps).run c_ w=.ok v w:=by have a:tmps[4]?.getD m_=ZI b:=VI;simp[results,results146,a,asAddr,go_sem,d]
def kD(m:I8)(wh:Bool):Bool:=(vD (m (bg (!wh)+5))).any λy=>xV m (y:Int) wh
def mS(m:I8)(M:I0)(hM:jS m M)(wh:Bool)(w:I6)(hT:jF w):ZL 146 #[Zc M,Za wh] w (Za (kD m wh)):=by
 have z:=X hM;have c5:=X hT;clear hM hT;have hh:Y (∀o1 o2 o3,_):=X (lM w);have d:=jt (hh.a (Z M 197) (Z #[Za wh] 4) (Z #[Za Zl] 4)).1 z.a.1;refine(ZY (n:=3)).1 ?_;refine callsIn_of_wp_marks func146 rfl x_ ?_ R;simp only[ntmps146,Nat.reduceAdd,Nat.reduceSub,Zr];gi_wp2_with (first|(refine xf R _ R w.heap.size R d ?_)|(refine⟨x_,?_⟩;gi_at_call 213;refine(ZY.2 (FL m M z.a _ _)).mono ?_;rintro e V ⟨rfl,g⟩)|(refine⟨x_,?_⟩;gi_at_call 132;refine(ZY.2 (xn _ _)).mono ?_;rintro e b ⟨rfl,rfl⟩))
 clear d;obtain⟨h1,h2,h3⟩:=hh.a (Z M 197) (Z #[Za wh] 4) (Z #[Za Zl] 4);obtain⟨s,j⟩:=Zn (m (bg (!wh)+5));rw[j.a];obtain⟨b,q⟩:∃b,b=V.alloc (Z #[I Zh (U s)] 195):=⟨_,R⟩;rw[<-q];have i:Gr (((w.alloc (Z M 197)).alloc (Z #[Za wh] 4)).alloc (Z #[Za Zl] 4)) b:=by rw[q];exact g.alloc _ _
 have r:(((w.alloc (Z M 197)).alloc (Z #[Za wh] 4)).alloc (Z #[Za Zl] 4)).heap.size=w.heap.size+3:=WU;have b0:=(YG i w.heap.size Tx).trans h1;have T:=(YG i (w.heap.size+1) Tx).trans h2;have J:=(YG i (w.heap.size+2) Tx).trans h3;have b4:w.heap.size+3<=b.heap.size:=by rw[<-r];exact ZR i
 have B:Gr w b:=o_ ZN.al.al i;have b2:=c5.a.gr B;have b6:V.heap.size<b.heap.size:=by rw[q,Z3];omega
 have E:b.cell? ⟨V.heap.size,0,N⟩=S (I Zh (U s)):=by rw[q,Z8 _ _ _ _ R];rfl
 clear i q g h1 h2 h3 r hh;generalize V.heap.size=b1 at b6 E|-;refine wpIn_rangeFunc_ownF R O (gf:=207) (lb:=#[ZI b1]) R x_ (YC func207 WR R)
  (l8 _ O b1 b.heap.size b6 b2.2 s _ Zy E b2.1) belowK_t (XZ Zy) (XL _ _) (λ_=>R)
  (λu W=>(∀y∈u,xV m ((y:Fin 64).val:Int) wh=Zl)/\Below b.heap.size b W)
  (λc u W=>c=.ret/\(∃y∈u,xV m ((y:Fin 64).val:Int) wh=Zk)/\∃n:I6,(n.heap[w.heap.size+2]?=S (Z #[Za Zk] 4)/\Gr w n/\b.heap.size<=n.heap.size)/\Below b.heap.size n W)
  (OwnFrom.and (λ_ _ _ _ j _ _=>j) (ownFrom_below Zy Zy))
  (λ_ _ _ _ _ j g hr=>⟨j.1,j.2.1,j.2.2.choose,j.2.2.choose_spec.1,ownFrom_below (β:=List (Fin 64)) j.2.2.choose_spec.1.2.2 Zy [] _ _ _ j.2.2.choose_spec.2 g hr⟩)
  ⟨λy Q=>w_ Q (XC),XL _ _⟩
  (λx=>{ tmps:=#[Zc M,Za wh,ZI w.heap.size,ZI (w.heap.size+1),ZI (w.heap.size+1+1),I L ((x:Fin 64).val:Nat),Zc M,Za wh,Za !wh,I Zh (U s),.func (.func 207) #[] #[ZI b1],I L ((x:Fin 64).val:Nat),m_,m_,m_,m_],defers:=[] }) ?assign ?body ?done ?stop
 case assign=>intro l x W K hK;gi_wp2;simpa using hK
 case body=>
  rintro l u x W ⟨a,f⟩ a0;have a1:0<=(x.val:Int):=O;have a2:(x.val:Int)<=63:=by have:=x.isLt;omega
  have d0:=(YG f w.heap.size O).trans b0;have d1:=qi ((YG f (w.heap.size+1) O).trans T);have A:=(YG f (w.heap.size+2) O).trans J;have o:=jt d0 z.a.1;obtain⟨a5,a6⟩:=d1;obtain⟨v,H⟩:=Zn (xV m (x.val:Int) wh);have C:=X (qq0 m M z.a (x.val:Int) a1 a2 wh W);rw[H.a]at C;have G:=X a;have k:=X f;have c4:=X A;have b':=X (YB b0 (YB T J));have P:w.heap.size+1+1<W.heap.size:=by have:=ZR f;omega
  clear a f d0 A b0 T J E a0;cases v
  .gi_wp2_with (first|(refine xf R _ R w.heap.size R o ?_)|(refine⟨x_,?_⟩;gi_at_call 127;refine(Xe l (ZY.2 C.a)).mono ?_;rintro e w' ⟨rfl,g⟩))
   refine⟨g.others,Below.mono g (ZR k.a),λy Q=>?_,k.a.trans (Below.mono g (ZR k.a))⟩;obtain h|h:=Yi.1 Q
   .exact G.a y h
   .rw[qT]at h;subst h;exact H.a
  .gi_wp2_with (first|(refine xf R _ R w.heap.size R o ?_)|(refine⟨x_,?_⟩;gi_at_call 127;refine(Xe l (ZY.2 C.a)).mono ?_;rintro e w' ⟨rfl,g⟩;have d3:=(YG g (w.heap.size+1+1) P).trans c4.a;have d4:=qi d3;obtain⟨a9,b3⟩:=d4))
   exact⟨g.others.trans (KeepsOthers.setCell _ _ _),R,⟨x,Yi.2 (Zj (qT.2 R)),H.a⟩,_,⟨jm d3,Yr (o_ (o_ B k.a) g) (show w.heap.size<=w.heap.size+1+1 from O) _,by have e1:=ZR k.a;have e2:=ZR g;simp[World.setCell];omega⟩,XL _ _⟩
 case done=>rintro D ys W hD b5 ⟨a,f⟩ hK;have A:=(YG f (w.heap.size+1+1) O).trans J;obtain⟨a7,a8⟩:=qi A;have b7:=X ((KeepsOthers.setCell W ⟨w.heap.size+1+1,0,N⟩ (Za Zl)).same D _ hK R);have H:Y (kD m wh=Zl):=X (by unfold kD;rw[j.a,<-b5,XD];intro y Q;obtain⟨x,hx,rfl⟩:=YL.1 Q;rw[a x hx];decide);have p:=X (qi (DA (D:=D) (o':=.deferred N) (jm (v:=Za Zl) A) O)).1;have F:Y (Gr w ((W.setCell ⟨w.heap.size+1+1,0,N⟩ (Za Zl)).putObj D (.deferred N))):=X ((Yr (o_ B f) (show w.heap.size<=w.heap.size+1+1 from O) _).trans (XZ (w:=b) (n₀:=w.heap.size) O _ D _ _ hD b7.a R R));clear a b5 f b0 T J A;gi_wp2;refine⟨WU,Zi ⟨_,_,R,YU b7.a,?_⟩⟩;exact⟨_,ie _ _ _ _ R p.a,by rw[H.a],F.a⟩
 case stop=>rintro D c u W hD a ⟨rfl,⟨y,a3,a4⟩,n,⟨c1,c2,c3⟩,f⟩ hK;have A:=(YG f (w.heap.size+2) O).trans c1;have H:Y (kD m wh=Zk):=X (by unfold kD;rw[j.a,qY];exact⟨y.val,a.subset (YL.2 ⟨y,a3,R⟩),a4⟩);have p:=X (qi (DA (D:=D) (o':=.deferred N) A O)).1;have F:Y (Gr w (W.putObj D (.deferred N))):=X ((u_ c2 (Below.mono f O)).trans (XZ (w:=b) (n₀:=w.heap.size) O _ D _ _ hD hK R R));gi_wp2;refine⟨WU,Zi ⟨_,_,R,YU hK,?_⟩⟩;exact⟨_,ie _ _ _ _ R p.a,by rw[H.a],F.a⟩
def zJ(b:Nat)(A:I0)(w:I6):Prop:=b<w.heap.size/\w.rangeAt b 0 A.toList
def zJ.gr{b:Nat}(h:zJ b A w)(g:Gr w w'):zJ b A w':=⟨qN h.1 (ZR g),λj v a=>(ZW g (p:=⟨b,0+j,N⟩) h.1).trans (h.2 j v a)⟩
def jJ:(c_.info? 70).map (·.size)=S 72:=WR
def ql{e:Array Oper}{d:List Oper}{o:Oper}{a:Act}{Q:Exit->Act->I6->Prop}(i:Region.wanted o (yielded e a.tmps)=Zk)(x:Operand)(g:o.op=.load 70 x)(b:Nat)(j:a.eval x=ZI b)(k:A.size=72)(f:zJ b A w)(h:wpList c_ e Q d (a.put o.dst A) w):wpList c_ e Q (o::d) a w:=wpList_step λK hK=>by rw[qI i];refine wp_load_mid (P:=c_) 70 x g b 0 j A.toList _ f.2 s_ rfl (by rw[jJ];simp[k]) ?_;rw[Yb];exact hK _ _ h
structure Sp(w:I6)(PA:I0)(bM:Nat)(M:I0)(wh:Bool)(cur:I6):Prop where
 row:zJ w.heap.size PA cur
 wh:cur.cell? ⟨w.heap.size,64,N⟩=S (Za wh)
 men:vh bM M cur
 tab:jF cur
 homes:vJ cur
 gr:Gr w cur
def Sp.next{cur:I6}{bM:Nat}(h:Sp w PA bM M wh cur)(g:Gr cur a):Sp w PA bM M wh a:=⟨h.row.gr g,(ZW g (p:=⟨w,64,N⟩) h.row.1).trans h.wh,h.men.gr g,h.tab.gr g,h.homes.gr g,o_ h.gr g⟩
def cK(z:I2)(wh:Bool)(f:I5)(b h g:Int)(m:I8):Bool:=vM m Zk&&vM m Zl&&jH z f&&xX z wh b&&zP h g&&!(kD m wh)
def k6(z:I2)(wh:Bool)(f:I5)(b h g:Int):Bool:=xO z&&cK z wh f b h g (xD z 64)
def db{B:I0}(a:xO z=Zk)(j:B.size=64)(f:∀i,i<64->B[i]?=S (I Zg (z i).toNat))(w:I6):i_ c_ 126 #[Zc B] w λe w'=>∃M,e=Zd (Ze #[Zc M,Za Zk])/\jS (xD z 64) M/\Gr w w':=(lE z B j f w).mono λe w' h=>by obtain⟨⟨M,b,_,d⟩,g⟩:=h;rw[a]at b;exact⟨M,b,d a,g⟩
def EJ{B:I0}(a:xO z=Zl)(j:B.size=64)(d:∀i,i<64->B[i]?=S (I Zg (z i).toNat))(w:I6):i_ c_ 126 #[Zc B] w λe w'=>∃M m,e=Zd (Ze #[Zc M,Za Zl])/\jS m M/\Gr w w':=(lE z B j d w).mono λe w' h=>by obtain⟨⟨M,b,⟨m,g⟩,_⟩,f⟩:=h;rw[a]at b;exact⟨M,m,b,g,f⟩
def t6{f:I5}{g:Int}(r:jE z wh f b h g PA)(w:I6)(hT:jF w)(hH:vJ w)(V:xO z=Zk):ZL 63 #[Zc PA] w (Za (cK z wh f b h g (xD z 64))):=by
 have D:Gr w (w.alloc (Z PA 70)):=ZN;have hc:∀o,(w.alloc (Z PA 70)).cell? ⟨w.heap.size,o,N⟩=PA[o]?:=λo=>Z8 _ _ _ _ R;have F:zJ w.heap.size PA (w.alloc (Z PA 70)):=⟨Vj,λj v p=>by rw[hc,Z2,<-qO];exact p⟩;have a1:(w.alloc (Z PA 70)).rangeAt w.heap.size 0 (PA.toList.take 64):=λj v p=>by
  rw[hc,Z2,<-qO];rw[Yv]at p;split at p
  .exact p
  cases p
 have B:(PA.toList.take 64).length=64:=by simp[r.size]
 have hB:∀i,i<64->(PA.toList.take 64).toArray[i]?=S (I Zg (z i).toNat):=λi hi=>by rw[Xu,Yv,qI hi,qO];exact r.sq i hi
 have n:=X (db V (by simpa using B) hB);have H:(w.alloc (Z PA 70)).cell? ⟨w.heap.size,64,N⟩=S (Za wh):=by rw[hc];exact r.wh
 have hz:=r.size;have r':=X r;have Q:=X (hT.gr D);have P:=X (hH.gr D);have E:=X D;have x:=X a1;have y:Y ((c_.info? 67).map (·.size)=S (PA.toList.take 64).length):=(by rw[B];exact x7);have l:=X F;have G:=X H;generalize PA.toList.take _=a7 at n x y;generalize xD _ _=m at n|-;have k0:Y (∀(a0:Bool)(M:I0)(W:I6),jS m M->jF W->ZL 142 #[Zc M,Za a0] W (Za (vM m a0))):=λa0 M W h t=>bO m M h a0 W t;have k2:Y (∀W:I6,vJ W->ZL 143 #[Zc PA] W (Za (jH z f))):=λW t=>tj r'.a W t;have k3:Y (∀W:I6,ZL 144 #[Zc PA] W (Za (xX z wh b))):=λW=>nS r'.a W;have k4:Y (∀W:I6,ZL 145 #[Zc PA] W (Za (zP h g))):=λW=>fh r'.a W;have k5:Y (∀(M:I0)(W:I6),jS m M->jF W->ZL 146 #[Zc M,Za wh] W (Za (kD m wh))):=λM W h t=>mS m M h wh W t;have d:Y (cK z wh f b h g m=(vM m Zk&&vM m Zl&&jH z f&&xX z wh b&&zP h g&&!(kD m wh))):=R;generalize vM m=qs at k0 d;generalize jH z f=q2 at k2 d;generalize xX _ _ _=q3 at k3 d;generalize zP h g=q4 at k4 d;generalize kD _ _=q5 at k5 d;obtain⟨q0,a3⟩:=Zn (qs Zk);obtain⟨q1,a4⟩:=Zn (qs Zl);have a6:Y (cK z wh f b h g m=(q0&&q1&&q2&&q3&&q4&&!q5)):=X (by rw[d.a,a3.a,a4.a]);unfold ZL;go_in;go_upto_region 2 with(first|(refine Yo R 67 _ R w.heap.size 0 R a7 _ x.a t_ rfl y.a ?_)|(go_at_call 126;refine(n.a _).mono ?_;rintro e u ⟨M,rfl,K,a5⟩)|(refine ZU R 197 _ _ R u.heap.size M R R 197 _ Zv K.info K.1.symm K.ones ?_));generalize J:(u.alloc (Z #[I Zh 0,I Zh 0,I Zh 0,I Zh 0,I Zh 0,I Zh 0,I Zh 0,I Zh 0,I Zh 0,I Zh 0,I Zh 0,I Zh 0] 197)).setRow u.heap.size M=w3;have a2:w3.heap[u.heap.size]?=S (Z M 197):=by rw[<-J];exact Zt (Z7 u _)
 have T:Gr u w3:=by rw[<-J];exact ZN.setRow _ Zy _
 have k:=o_ a5 T;have a:Sp w PA u.heap.size M wh w3:=⟨l.a.gr k,(ZW k (p:=⟨w.heap.size,64,N⟩) l.a.1).trans G.a,jt a2 K.1,Q.a.gr k,P.a.gr k,o_ E.a k⟩;have A:=a.wh;rcases(show q0=Zl\/q0=Zk/\(q1=Zl\/q1=Zk/\(q2=Zl\/q2=Zk/\(q3=Zl\/q3=Zk/\(q4=Zl\/q4=Zk/\(q5=Zl\/q5=Zk))))) from WU)with rfl|⟨rfl,rfl|⟨rfl,rfl|⟨rfl,rfl|⟨rfl,rfl|⟨rfl,rfl|rfl⟩⟩⟩⟩⟩;all_goals
  go_wp2_with(first|(refine qp Vb _ R u.heap.size R (Sp.men (w:=w) (PA:=PA) (wh:=wh) ‹_›) ?_)|(refine ql Vb _ R w.heap.size R hz (Sp.row (bM:=u.heap.size) (M:=M) (wh:=wh) ‹_›) ?_)|(go_at_call 142;refine Z0 (k0.a _ M _ K (Sp.tab (w:=w) (PA:=PA) (bM:=u.heap.size) (M:=M) (wh:=wh) ‹_›)) λw' C=>?_;(first|rw[a3.a]|rw[a4.a]);have a:=Sp.next ‹_› C;have A:=a.wh)|(go_at_call 143;refine Z0 (k2.a _ (Sp.homes (w:=w) (PA:=PA) (bM:=u.heap.size) (M:=M) (wh:=wh) ‹_›)) λw' C=>?_;have a:=Sp.next ‹_› C;have A:=a.wh)|(go_at_call 144;refine Z0 (k3.a _) λw' C=>?_;have a:=Sp.next ‹_› C;have A:=a.wh)|(go_at_call 145;refine Z0 (k4.a _) λw' C=>?_;have a:=Sp.next ‹_› C;have A:=a.wh)|(go_at_call 146;refine Z0 (k5.a M _ K (Sp.tab (w:=w) (PA:=PA) (bM:=u.heap.size) (M:=M) (wh:=wh) ‹_›)) λw' C=>?_;have a:=Sp.next ‹_› C;have A:=a.wh));go_ret;exact⟨by rw[a6.a];rfl,a.gr⟩
def Eo{f:I5}{g:Int}(r:jE z wh f b h g PA)(w:I6)(A:xO z=Zl):ZL 63 #[Zc PA] w (Za Zl):=by
 have q:Gr w (w.alloc (Z PA 70)):=ZN;have G:∀o,(w.alloc (Z PA 70)).cell? ⟨w,o,N⟩=PA[o]?:=λo=>Z8 _ _ _ _ R;have p:(w.alloc (Z PA 70)).rangeAt w.heap.size 0 (PA.toList.take 64):=λj v D=>by
  rw[G,Z2,<-qO];rw[Yv]at D;split at D
  .exact D
  cases D
 have l:(PA.toList.take 64).length=64:=by simp[r.size]
 have F:∀i,i<64->(PA.toList.take 64).toArray[i]?=I Zg (z i).toNat:=λi H=>by rw[Xu,Yv,qI H,qO];exact r.sq i H
 have k:=X (EJ A (by simpa using l) F);have n:=X q;have a:=X p;have d:Y ((c_.info? 67).map (·.size)=S (PA.toList.take 64).length):=(by rw[l];exact x7);have J:=r.size;generalize PA.toList.take _=P at k a d;unfold ZL;go_in;go_upto_region 2 with(first|(refine Yo R 67 _ R w 0 R P _ a.a t_ rfl d.a ?_)|(go_at_call 126;refine(k _).mono ?_;rintro e C ⟨M,m,rfl,E,x⟩)|(refine ZU R 197 _ _ R C M R R 197 _ Zv E.info E.1.symm E.ones ?_));generalize B:(C.alloc (Z #[I Zh 0,I Zh 0,I Zh 0,I Zh 0,I Zh 0,I Zh 0,I Zh 0,I Zh 0,I Zh 0,I Zh 0,I Zh 0,I Zh 0] 197)).setRow C M=K;have y:Gr C K:=by rw[<-B];exact ZN.setRow _ Zy _
 have u:=o_ n (o_ x y);go_wp2_with(fail);go_ret;exact⟨R,u⟩
def CX{f:I5}{g:Int}(r:jE z wh f b h g PA)(w:I6)(i:jF w)(d:vJ w):ZL 63 #[PA] w (k6 z wh f b h g):=by
 cases a:xO z
 .refine(Eo r w a).mono λe w' k=>⟨k.1.trans ?_,k.2⟩;rw[k6,a];rfl
 refine(t6 r w i d a).mono λe w' k=>⟨k.1.trans ?_,k.2⟩;rw[k6,a];rfl
def jB(c:UInt8):Int:=e_ xU c
def vE(c:UInt8):Int:=if 6<=jB c then jB c-6 else jB c
def vB(c:UInt8):Int:=if jB c<0 then 0 else if jB c<6 then 1 else -1
def xK(b:Bool):Int:=if b then 1 else -1
def zI(z:I2)(i:Nat):Int:=((z i).toNat:Int)
def zM(z:I2)(y:Int)(b:Bool):Bool:=(h_ 64).any λn=>Zm (vB (z n)=xK b)&&xS (zI z) (vE (z n)).toNat (xK b) (n:Int) y
def vk(b:Bool):UInt8:=if b then 75 else 107
def xR(z:I2)(b:Bool):Int:=match (h_ 64).find? (λn=>z n==vk b)with|some n=>(n:Int)|none=>-1
theorem rn(c:UInt8):-1<=jB c/\jB c<12:=by have:∀n:Fin 256,-1<=jB (j_ n.val)/\jB (j_ n.val)<12:=WS;have:=this ⟨c.toNat,c.toNat_lt⟩;exact OY
def vf(z:I2)(n:Nat):Bool:=!(z n==46)&&(Zm (vE (z n)<0)||(Zm (vE (z n)=0)&&(Zm (n/8=0)||decide (n/8=7))))
def ka(z:I2)(b:Bool)(k:Nat):Nat:=((h_ k).filter λn=>Zm (vB (z n)=xK b)).length
def vZ(z:I2)(b:Bool)(k:Nat):Nat:=((h_ k).filter λn=>Zm (jB (z n)=(bg b+5:Nat))).length
theorem dc(z:Nat->UInt8)(p:Nat):∀k,k<=64->∀n,n<64->(xD z k p).getLsbD n=Zm (n<k/\jB (z n)=(p:Int))
 | 0,_,n,_=>by
  show(0#64).getLsbD n=_;rw[XM];simp
 | k+1,hk,n,hn=>by
  have g:=dc z p k O n hn;show(xD z k p|||(if e_ xU (z k)=(p:Int)then 1#64<<<k else 0#64)).getLsbD n=_;rw[Yx,g];by_cases e:e_ xU (z k)=(p:Int)
  .rw[qI e,ze k O n hn];by_cases d:n=k
   .subst d;have f:jB (z n)=(p:Int):=e;simp[f]
   have:(n<k+1/\jB (z n)=(p:Int))↔(n<k/\jB (z n)=(p:Int)):=by constructor<;>rintro⟨a,b⟩<;>exact⟨O,b⟩
   simp[d,this]
  rw[qF e,XM,Bool.or_false]
  have:(n<k+1/\jB (z n)=(p:Int))↔(n<k/\jB (z n)=(p:Int)):=by
   constructor
   .rintro⟨a,b⟩;refine⟨?_,b⟩;by_cases d:n=k
    .subst d;exact w_ b e
    omega
   rintro⟨a,b⟩;exact⟨O,b⟩
  simp[this]
def vH(z:I2)(p n:Nat)(a:n<64):(xD z 64 p).getLsbD n=Zm (jB (z n)=(p:Int)):=by rw[dc z p 64 Zy n a];simp[a]
def qxd{f g:I5}(l:List Nat)(h:∀n∈l,f n=g n):l.filter f=l.filter g:=List.filter_congr h
def qxu(z:I2)(b:Bool):(vD (xD z 64 (bg b+5))).length=vZ z b 64:=by unfold vD vZ;rw[qxd _ (λn a=>vH z (bg b+5) n (qK.1 a))]
theorem iu(z:Nat->UInt8)(b n:Nat)(a:n<64):∀k,(wZ (xD z 64) b k).getLsbD n=Zm ((b:Int)<=jB (z n)/\jB (z n)<(b:Int)+k)
 | 0=>by
  show(0#64).getLsbD n=_;rw[XM];symm;rw[qX];omega
 | k+1=>by
  have d:=iu z b n a k;show(wZ (xD z 64) b k|||xD z 64 (b+k)).getLsbD n=_;rw[Yx,d,vH z (b+k) n a,<-Bool.decide_or];apply XB.2;omega
theorem qjt(z:I2)(b:Bool)(n:Nat)(a:n<64):(xZ (xD z 64) b).getLsbD n=Zm (vB (z n)=xK b):=by
 unfold xZ;rw[iu z (bg b) n a 6];apply XB.2;have:=rn (z n);unfold vB xK bg;cases b
 .simp only[qR,YH];exact Iu
 simp only[YS];exact Iu
def rC(z:I2)(b:Bool):(vD (xZ (xD z 64) b)).length=ka z b 64:=by unfold vD ka;rw[qxd _ (λn a=>qjt z b n (qK.1 a))]
def pi(z:I2)(n:Nat)(a:n<64):(j0 (xD z 64)).getLsbD n=Zm (0<=jB (z n)):=by grind[j0,qjt,rn,vB,xK,qR]
def aA:∀n,n<64->(18374686479671623935#64).getLsbD n=(Zm (n/8=0)||decide (n/8=7)):=WS
def qkw(s:BitVec 64):s=0#64↔∀n,n<64->s.getLsbD n=Zl:=by grind
def EK:(18374686479671623935:Int)=U 18374686479671623935#64:=WS
def qv2(s:BitVec 64):U s=0↔s=0#64:=by
 constructor
 .intro h;exact pE (h.trans WS)
 rintro rfl;decide +kernel
def Ft(z:I2)(b:Bool):bits .and Zh (U (xD z 64 (bg b))) 18374686479671623935=0↔∀n,n<64->jB (z n)=(bg b:Nat)->¬(n/8=0\/n/8=7):=by
 rw[EK,im,qv2,qkw];constructor
 .intro h n a e;have:=h n a;rw[Yl,vH z (bg b) n a,aA n a]at this;simp[e]at this;omega
 intro h n a;rw[Yl,vH z (bg b) n a,aA n a];by_cases e:jB (z n)=(bg b:Nat)
 .have:=h n a e;simp at this;simp[this]
 simp[e]
def bf(c:UInt8):ew c=(c==46||decide (0<=jB c)):=R
def lV(z:I2):((h_ 64).all λn=>!(vf z n))=Zk↔xO z=Zk/\∀b:Bool,∀n,n<64->jB (z n)=(bg b:Nat)->¬(n/8=0\/n/8=7):=by
 rw[qW];constructor
 .intro h;constructor
  .refine Fy λj p=>?_;have a:=h j (qK.2 p);rw[bf];have:=rn (z j);unfold vf vE at a;by_cases d:(z j==46)=Zk
   .simp[d]
   simp only[XH]at d;rw[d]at a|-;simp only[X3,Xc,YK,Bool.or_eq_false_iff,qX]at a;have g:=a.1;simp only[Xo,qG];split at g<;>omega
  intro b n k e u;have a:=h n (qK.2 k);have m:bg b=0\/bg b=6:=Tw;have d:(z n==46)=Zl:=by
   cases q:(z n==46)with
   | false=>rfl
   | true=>
    have:z n=46:=Ul
    rw[this]at e;have r:jB 46=-1:=uo;omega
  unfold vf vE at a;rw[d]at a;have i:(if 6<=jB (z n)then jB (z n)-6 else jB (z n))=0:=by split<;>omega
  rw[i]at a;simp at a;omega
 rintro⟨a,g⟩ n k;have f:=qK.1 k;have l:=qW.1 a n k;rw[bf]at l;have:=rn (z n);unfold vf vE;by_cases d:(z n==46)=Zk
 .simp[d]
 simp only[XH]at d;rw[d]at l|-;simp only[Xo,qG]at l;have o:=g Zk n f;have m:=g Zl n f;simp only[bg,YS,qR,YH]at o m;simp only[X3,Xc,YK,Bool.or_eq_false_iff,qX,Bool.and_eq_false_iff];refine⟨by split<;>omega,?_⟩;by_cases i:(if 6<=jB (z n)then jB (z n)-6 else jB (z n))=0
 .right;split at i
  .have:=m O;omega
  have:=o O;omega
 left;exact i
def fR{f g:Nat->Int}(h:∀n,n<64->(f n=46↔g n=46))(p:Nat->Int)(L:Nat)(d:∀i,i<=L->0<=p i/\p i<=63):B_ f p L=B_ g p L:=by grind[B_]
def iE{f g:Nat->Int}(h:∀n,n<64->(f n=46↔g n=46))(k:Nat)(s x y:Int)(a:0<=x)(d:x<=63)(i:0<=y)(j:y<=63):xS f k s x y=xS g k s x y:=by
 unfold xS;have e:∀b:Bool,(b=Zk->yd x y=Zk\/yg x y=Zk)->(b&&B_ f (pI x y) (LI x y))=(b&&B_ g (pI x y) (LI x y)):=λb l=>by
  cases b
  .rfl
  rw[fR h _ _ (Dp x y a d i j (l R))]
 rw[e (yg x y) (λh=>Zj h),e (yd x y) (λh=>Zi h),e (yd x y||yg x y) (λh=>Vq)]
def FI(f:Nat->Int)(k:Nat)(a:k≠0)(s t x y:Int):xS f k s x y=xS f k t x y:=by unfold xS;rw[qF a,qF a]
def kh(bw:Bool)(i:Nat):Nat:=if i=0 then(if bw then 2 else 1)else i+2
def BY(a:Bool)(i:Nat):vA a i=((kh a i:Nat):Int):=by
 unfold vA kh;by_cases h:i=0
 .rw[qI h,qI h];cases a<;>rfl
 rw[qF h,qF h];omega
def qbR(a:xO z=Zk)(n:Nat)(b:n<64):fT (j0 (xD z 64)) n=46↔zI z n=46:=by
 rw[tO,pi z n b,qX];have h:=qW.1 a n (qK.2 b);rw[bf]at h;unfold zI;constructor
 .intro d;have:z n=46:=by simpa[d]using h
  rw[this];rfl
 intro d;have:z n=46:=by apply q6.1;have:(z n).toNat=46:=O;rw[this];rfl
 rw[this];have e:jB 46=-1:=uo;omega
def F3(f:xO z=Zk)(d:Bool)(i:Nat)(j:i<6)(y n:Nat)(b:y<64)(a:n<64):(jW (kh d i) y (j0 (xD z 64))).getLsbD n=xS (zI z) i (xK d) (n:Int) (y:Int):=by
 by_cases h:i=0
 .subst h;cases d
  .show(jW 1 y _).getLsbD n=_;have e:jW 1 y (j0 (xD z 64))=E4 y:=R;rw[e,bY y b n a,wE n a y b];rfl
  show(jW 2 y _).getLsbD n=_;have e:jW 2 y (j0 (xD z 64))=FX y:=R;rw[e,<-bY n a y b,oL n a y b];rfl
 have g:kh d i=i+2:=by unfold kh;rw[qF h]
 rw[g,px (i+2) y n O O b a,mI (i+2) n O O a,bW (i+2) (n:Int) _ y b];unfold eV;have e:kR (i+2)=i:=by unfold kR;rw[qF O];omega
 rw[e,FI _ i h _ (xK d)];exact iE (λn a=>qbR f n a) i _ _ _ O O O O
def bQ(d:xO z=Zk)(b:Bool)(i:Nat)(k:i<6)(y:Nat)(j:y<64):uk (xD z 64) (y:Int) b i=Zk↔∃n,n<64/\jB (z n)=((bg b+i:Nat):Int)/\xS (zI z) i (xK b) (n:Int) (y:Int)=Zk:=by
 unfold uk;rw[BY,ik (kh b i) y (by unfold kh;split<;>(try split)<;>omega) (by unfold kh;split<;>(try split)<;>omega) j,im,qU];constructor
 .intro h;have f:jW (kh b i) y (j0 (xD z 64))&&&xD z 64 (bg b+i)≠0#64:=λe=>h (by rw[e];decide +kernel);refine Xd λl=>f ((qkw _).2 λn a=>?_);rw[Yl,vH z _ n a,F3 d b i k y n j a];by_cases e:jB (z n)=((bg b+i:Nat):Int)
  .cases g:xS (zI z) i (xK b) (n:Int) (y:Int)with
   | false=>rfl
   | true=>exact w_ ⟨n,a,e,g⟩ l
  simp only[e,decide_false,XU]
 rintro⟨n,a,e,g⟩ h;have f:=(qkw _).1 ((qv2 _).1 h) n a;rw[Yl,vH z _ n a,F3 d b i k y n j a,g]at f;simp[e]at f
def zq{c:UInt8}{a:Bool}(h:vB c=xK a):∃i,i<6/\jB c=((bg a+i:Nat):Int)/\(vE c).toNat=i:=by
 have:=rn c;unfold vB xK at h;unfold vE;cases a
 .simp only[qR,YH]at h;refine⟨(jB c-6).toNat,?_,?_,?_⟩
  .exact OH
  .show _=((6+(jB c-6).toNat:Nat):Int);exact OH
  rw[qI VR]
 simp only[YS]at h;refine⟨(jB c).toNat,?_,?_,?_⟩
 .exact OH
 .show _=((0+(jB c).toNat:Nat):Int);exact OH
 rw[qF VR]
def qkr{c:UInt8}{a:Bool}(b:i<6)(h:jB c=((bg a+i:Nat):Int)):vB c=xK a/\(vE c).toNat=i:=by
 unfold vB vE xK;rw[h];cases a
 .simp only[bg,qR,YH];refine⟨by rw[qF O,qF O],by rw[qI O];omega⟩
 simp only[bg,YS];refine⟨by rw[qF O,qI O],by rw[qF O];omega⟩
theorem xu(b:xO z=Zk)(d:Bool)(y:Nat)(k:y<64):xV (xD z 64) (y:Int) d=zM z (y:Int) d:=by
 rw[YW];unfold xV zM;rw[qY,qY];constructor
 .rintro⟨i,f,h⟩;have a:=qK.1 f;obtain⟨n,g,e,l⟩:=(bQ b d i a y k).1 h;obtain⟨c1,c2⟩:=qkr a e;exact⟨n,qK.2 g,by rw[c2,l];simp[c1]⟩
 rintro⟨n,g,h⟩;have j:=qK.1 g;simp only[qH,qG]at h;obtain⟨i,f,e,c2⟩:=zq h.1;refine⟨i,qK.2 f,(bQ b d i f y k).2 ⟨n,j,e,?_⟩⟩;rw[<-c2];exact h.2
def di(b:Bool):∀c:UInt8,(c==vk b)=Zm (jB c=((bg b+5:Nat):Int)):=by have:∀b:Bool,∀n:Fin 256,(j_ n.val==vk b)=Zm (jB (j_ n.val)=((bg b+5:Nat):Int)):=WS;intro c;have:=this b ⟨c.toNat,c.toNat_lt⟩;exact OY
def zT(z:I2)(wh:Bool)(f:I5)(b h g:Int):Bool:=((h_ 64).all λn=>!(vf z n))&&(Zm (vZ z Zk 64=1)&&Zm (vZ z Zl 64=1)&&Zm (ka z Zk 64<=16)&&Zm (ka z Zl 64<=16))&&jH z f&&xX z wh b&&!(zM z (xR z (!wh)) wh)&&zP h g
def js{b:Bool}(h:vZ z b 64=1):∃y,y<64/\vD (xD z 64 (bg b+5))=[y]/\xR z b=(y:Int):=by
 have k:=(qxu z b).trans h;obtain⟨y,g⟩:=List.length_eq_one_iff.1 k;have i:y∈vD (xD z 64 (bg b+5)):=by rw[g];simp
 have a:=((qbi _ _).1 i).1;have d:∀n,n<64->(z n==vk b)=(xD z 64 (bg b+5)).getLsbD n:=λn e=>by rw[di,vH z _ n e]
 refine⟨y,a,g,?_⟩;unfold xR;have:(h_ 64).find? (λn=>z n==vk b)=S y:=by
  cases f:(h_ 64).find? (λn=>z n==vk b)with
  | none=>
   have:=List.find?_eq_none.1 f y (qK.2 a);rw[d y a,((qbi _ _).1 i).2]at this;exact w_ R this
  | some n=>
   have j:=List.find?_some f;have e:=qK.1 (List.mem_of_find?_eq_some f);rw[d n e]at j;have:n∈vD (xD z 64 (bg b+5)):=(qbi _ _).2 ⟨e,j⟩;rw[g]at this;rw[qT.1 this]
 rw[this]
def aY(z:I2)(wh:Bool)(f:I5)(b h g:Int):zT z wh f b h g=k6 z wh f b h g:=by
 rw[YW];unfold zT k6 cK vM;simp only[qH,qG,qxu,rC];constructor
 .rintro⟨⟨⟨⟨⟨q,⟨⟨r,u⟩,v⟩,w⟩,e⟩,i⟩,a⟩,j⟩;obtain⟨d,n⟩:=(lV z).1 q;obtain⟨y,k,l,m⟩:=js (z:=z) (b:=!wh) (by cases wh<;>assumption);refine⟨d,⟨⟨⟨⟨⟨⟨⟨O,O⟩,(Ft z Zk).2 (n Zk)⟩,⟨⟨O,O⟩,(Ft z Zl).2 (n Zl)⟩⟩,e⟩,i⟩,j⟩,?_⟩⟩;unfold kD;rw[l];simp only[List.any_cons,List.any_nil,Bool.or_false];rw[xu d wh y k,<-m];exact a
 rintro⟨d,⟨⟨⟨⟨⟨⟨⟨r,v⟩,p1⟩,⟨⟨u,w⟩,p2⟩⟩,e⟩,i⟩,j⟩,a⟩⟩;have o:vZ z Zk 64=1:=O;have p:vZ z Zl 64=1:=O;obtain⟨y,k,l,m⟩:=js (z:=z) (b:=!wh) (by cases wh<;>assumption);refine⟨⟨⟨⟨⟨(lV z).2 ⟨d,λb=>?_⟩,⟨⟨o,p⟩,O⟩,O⟩,e⟩,i⟩,?_⟩,j⟩
 .cases b
  .exact(Ft z Zl).1 p2
  exact(Ft z Zk).1 p1
 unfold kD at a;rw[l]at a;simp only[List.any_cons,List.any_nil,Bool.or_false]at a;rwa[xu d wh y k,<-m]at a
def kL.fr(h:kL w)(f:Fr Q w w')(b:∀o,Q 2 o):kL w':=λj a=>f.cell (h j a) (λo _=>b o)
def o0(s:BitVec 64)(u:Nat)(T:Obj->Prop)(w:I6)(G:w.cell? u=I Zh (U s))(F:kL w):It c_ 207 #[ZI u] (λx:Nat=>#[I L (x:Int)]) T (λk=>k=u\/k=2) (vD s) w:=by
 intro l B J P W v V a2 a4 M a0;have K:=v.cell G (λ_ _=>Zi R);have z:=F.fr v (λ_=>Zj R);refine(ZY (n:=1)).1 ?_;refine callsIn_of_wp func207 rfl x_ ?_ R;simp only[ntmps207,Nat.reduceAdd,Nat.reduceSub,Zr];gi_wp2;gi_loopw [3] (λp wr=>∃(a:List Nat)(r:BitVec 64),p=I Zh (U r)/\vD s=a++vD r/\kL wr/\J a wr) (λp _=>(vD (BitVec.ofInt 64 (intOf p))).length)
 .exact⟨[],s,R,R,z,a0⟩
 obtain⟨a,r,rfl,h,m,i⟩:=hrel;by_cases q:r=0#64
 .subst q;have a7:(U 0#64 !=0)=Zl:=WS;rw[qv8,Yh]at h;have d:=X h;gi_wp2;go_end0;exact⟨⟨_,R⟩,Zi (by rw[d.a];exact i)⟩
 obtain⟨t,n,C,D⟩:=qji r q;have g:=qv9 r t n C D;have a6:(U r !=0)=Zk:=VN;have A:=X (eI r t C D);obtain⟨a5,tmps,o,E,a3,hR⟩:=M a t wr ⟨vD (r&&&(r-1#64)),by rw[h,g];simp⟩ i;have d:=X h;have b:=X g;have f:=X m;gi_wp2_with (refine⟨x_,?_⟩;gi_at_call 208;refine(ZY.2 (A _ f)).mono ?_;rintro e w' ⟨rfl,rfl⟩);apply hR.mono;rintro e W3 ⟨H,⟨rfl,y⟩|⟨rfl,j⟩⟩
 .have Q:a_ Zh (U r-1)=U (r-1#64):=VP;have a1:bits .and Zh (U r) (U (r-1#64))=U (r&&&(r-1#64)):=im _ _;gi_wp2;go_roundw
  case rel=>exact⟨a++[t],r&&&(r-1#64),R,Ui,f.fr H (λ_=>Zi (Zj R)),y⟩
  case measure=>simp only[intOf];rw[jh,jh,b.a];simp
 gi_wp2;apply ZS (XS R _ _ _) R;exact⟨⟨_,R⟩,Zj ⟨a++[t],⟨vD (r&&&(r-1#64)),Ui⟩,j⟩⟩
abbrev Mv:=Nat×Nat×UInt8
def gJ(x:Mv):I7:=Zc #[I L (x.1:Int),I L (x.2.1:Int),I Zg (x.2.2.toNat:Int)]
def vr(x:Mv):I0:=#[gJ x]
def kP:BitVec 64:=18374686479671623935#64
def xT(pawn:Bool)(f t:Nat):List Mv:=if pawn&&kP.getLsbD t then[(f,t,113),(f,t,114),(f,t,98),(f,t,110)]else[(f,t,0)]
def zw(k:FuncId):Fence.wide.fn k:=x_
def aB:∀t,t<64->bits .and Zh (U (1#64<<<t)) 18374686479671623935=if kP.getLsbD t then U (1#64<<<t)else 0:=WS
def sE:∀t,t<64->U (1#64<<<t)≠0:=WS
def AL(a f t:Nat)(E:a<6)(r:t<64)(q:(Zm (a=0)&&kP.getLsbD t)=Zl)(l B:Nat)(T:Obj->Prop)(C:Nat->Prop)(J u:List Mv->I6->Prop)(g:List Mv)(W:I6)(A:YieldAt Fence.wide 0 c_ l (vr (f,t,0)) W λe i=>Fr (jM B T C) W i/\((e=Zd Zk/\J (g++[(f,t,0)]) i)\/(e=Zd Zl/\u (g++[(f,t,0)]) i))):i_ c_ 135 #[a,f,t,.func (.yield l) #[] #[]] W λe i=>Fr (jM B T C) W i/\((e=Zd Zk/\J (g++[(f,t,0)]) i)\/(e=Zd Zl/\u (g++[(f,t,0)]) i)):=by
 obtain⟨x,tmps,d,m,v,hR⟩:=A;have h:=X (λW=>A9 (t:Int) O O W);rw[rp t r]at h;have k:=aB t r;have p:=sE t r;have D:(Instr.yield l #[Zc #[f,t,I Zg 0]]).run c_ W=.ok (.round l x tmps d m) W:=v;refine(ZY (n:=1)).1 ?_;refine callsIn_of_wp func135 rfl x_ ?_ R;simp only[ntmps135,Nat.reduceAdd,Nat.reduceSub,Zr];by_cases y:a=0;subst y;have w:kP.getLsbD t=Zl:=Ul;rw[w]at k;simp only[qR,YH]at k;gi_wp2_with (refine⟨x_,?_⟩;gi_at_call 204;refine(ZY.2 (h.a _)).mono ?_;rintro e w' ⟨rfl,rfl⟩);rotate_left;have z:((a:Int)!=0)=Zk:=WX;gi_wp2_with (with_reducible refine YB (zw _) ?_);all_goals
  refine hR.mono ?_;rintro e W3 ⟨o,⟨rfl,j⟩|⟨rfl,b⟩⟩
  .gi_wp2;go_ret;exact⟨o,Zi ⟨R,j⟩⟩
  gi_wp2;go_ret;exact⟨o,Zj ⟨R,b⟩⟩
def uA(k:Nat):UInt8:=if k=0 then 113 else if k=1 then 114 else if k=2 then 98 else 110
def qbI{b:Nat}(h:W.heap[b]?=Z #[I Zg 113,I Zg 114,I Zg 98,I Zg 110] 5 (4,5))(k:Nat)(a:k<4):W.cell? ⟨b,k,N⟩=I Zg (uA k).toNat:=by have:k=0\/k=1\/k=2\/k=3:=O;rcases this with rfl|rfl|rfl|rfl<;>(simp only[World.cell?];rw[h];rfl)
def oC(f t:Nat)(G:t<64)(Z:kP.getLsbD t=Zk)(l B:Nat)(T:Obj->Prop)(C:Nat->Prop)(V:∀c fr,¬T (.cells c 5 fr))(J H:List Mv->I6->Prop)(S:vu B T J)(a:List Mv)(W:I6)(K:B<=W)(a3:∀k v,k<4->J (a++(h_ k).map λi=>(f,t,uA i)) v->YieldAt Fence.wide 0 c_ l (vr (f,t,uA k)) v λe h=>Fr (jM B T C) v h/\((e=Zd Zk/\J (a++(h_ (k+1)).map λi=>(f,t,uA i)) h)\/(e=Zd Zl/\H (a++(h_ (k+1)).map λi=>(f,t,uA i)) h))) (R:J a W):i_ c_ 135 #[I L 0,f,t,.func (.yield l) #[] #[]] W λe h=>Fr (jM B T C) W h/\((e=Zd Zk/\J (a++(h_ 4).map λi=>(f,t,uA i)) h)\/(e=Zd Zl/\∃k,k<4/\H (a++(h_ (k+1)).map λi=>(f,t,uA i)) h)):=by
 have d:=X (λW=>A9 (t:Int) O O W);rw[rp t G]at d;have r:=aB t G;have F:(U (1#64<<<t)==0)=Zl:=by have:=sE t G;simpa using this
 rw[Z,qI rfl]at r;refine(ZY (n:=1)).1 ?_;refine callsIn_of_wp func135 rfl x_ ?_ rfl;simp only[ntmps135,Nat.reduceAdd,Nat.reduceSub,Zr];have E:=λ(w:I6)(C:I0)(n c:Nat)=>Lib.run_convert_bytes_const (P:=c_) w 145 5 C n c underlying145 underlying5;gi_wp2_with (refine⟨x_,?_⟩;gi_at_call 204;refine(ZY.2 (d.a _)).mono ?_;rintro e w' ⟨rfl,rfl⟩);generalize u:w'.alloc (.cells #[I Zg 113,I Zg 114,I Zg 98,I Zg 110] 5 (4,5))=M;have b:M.heap[w'.heap.size]?=some (.cells #[I Zg 113,I Zg 114,I Zg 98,I Zg 110] 5 (4,5)):=by rw[<-u];exact Zv
 have P:∀Q:Nat->Obj->Prop,Fr Q w' M:=λQ=>by rw[<-u];exact ZP.alloc _
 have A:=S _ _ _ R (P _);generalize w'.heap.size=a4 at b K|-;gi_loopw [27] (λp wr=>∃k:Nat,k<=4/\p=k/\J (a++(h_ k).map λi=>(f,t,uA i)) wr/\Fr (jM B T C) w' wr/\wr.heap[a4]?=some (.cells #[I Zg 113,I Zg 114,I Zg 98,I Zg 110] 5 (4,5))) (λp _=>4-(intOf p).toNat)
 .exact⟨0,O,rfl,by simpa using A,P _,b⟩
 obtain⟨k,hk,rfl,m,y,q⟩:=hrel;by_cases z:k<4
 .have a5:=qbI q k z;obtain⟨a2,tmps,g,j,a1,hR⟩:=a3 k wr z m;have a0:(Instr.yield l #[Zc #[f,t,I Zg (uA k).toNat]]).run c_ wr=.ok (.round l a2 tmps g j) wr:=a1;gi_wp2;refine hR.mono ?_;rintro e W3 ⟨x,⟨rfl,D⟩|⟨rfl,o⟩⟩
  .gi_wp2;go_roundw
   case rel=>refine⟨k+1,O,Vg,D,y.trans x,x.same _ _ q (Zj ⟨?_,V _ _⟩)⟩;have:=(qB.1 b).1;exact K
   case measure=>simp only[intOf];omega
  gi_wp2;go_ret;exact⟨y.trans x,Zj ⟨rfl,k,z,o⟩⟩
 have:k=4:=O;subst this;gi_wp2;go_ret;exact⟨y,Zi ⟨rfl,m⟩⟩
structure pO(m:I8)(wh:Bool)(own oth beh:BitVec 64)(fc:I5)(FA:I0):Prop where
 size:FA.size=20
 men:∀i,i<12->FA[i]?=S (I Zh (U (m i)))
 wh:FA[12]?=S (Za wh)
 own:FA[13]?=S (I Zh (U own))
 oth:FA[14]?=S (I Zh (U oth))
 beh:FA[15]?=S (I Zh (U beh))
 c:∀i,i<4->FA[16+i]?=S (Za (fc i))
def ky:(c_.info? 202).map (·.size)=S 20:=WR
def yk(b:Nat)(A:I0)(w:I6):Prop:=b<w.heap.size/\w.rangeAt b 0 A.toList
def yk.gr{b:Nat}(h:yk b A w)(g:Gr w w'):yk b A w':=⟨qN h.1 (ZR g),λj v a=>(ZW g (p:=⟨b,0+j,N⟩) h.1).trans (h.2 j v a)⟩
def yk.cell{b:Nat}(h:yk b A w)(a:A[i]?=v):w.cell? ⟨b,i,N⟩=v:=by have:=h.2 i v (by rw[qO];exact a);rwa[Z2]at this
def yk.new(w:I6)(A:I0)(t:TypeId):yk w A (w.alloc (Z A t)):=⟨Vj,λj v a=>by
 rw[Z8 _ _ _ _ R,Z2,<-qO];exact a⟩
def yk.take{b:Nat}(h:yk b A w)(n:Nat):w.rangeAt b 0 (A.toList.take n):=λj v a=>h.2 j v (by
 rw[Yv]at a;split at a
 .exact a
 cases a)
def cX{d:Array Oper}{op:Oper}{a:Act}{e:I0}(k:e.size=20){S:I6->Prop}(i:Region.wanted op (yielded d a.tmps)=Zk)(x:Operand)(g:op.op=.load 202 x)(b:Nat)(j:a.eval x=ZI b)(f:∀w,S w->yk b e w):YieldsIf c_ d S op e a:=by have:=XW (P:=c_) i 202 x g b 0 j e.toList _ (λw h=>(f w h).2) underlying202 rfl (by rw[ky];simp[k]);rwa[Yb]at this
def jd{e:Array Oper}{d:List Oper}{o:Oper}{a:Act}{Q:Exit->Act->I6->Prop}(i:Region.wanted o (yielded e a.tmps)=Zk)(x:Operand)(g:o.op=.load 202 x)(b:Nat)(j:a.eval x=ZI b)(k:A.size=20)(f:yk b A w)(h:wpList c_ e Q d (a.put o.dst A) w):wpList c_ e Q (o::d) a w:=wpList_step λK hK=>by rw[qI i];refine wp_load_mid (P:=c_) 202 x g b 0 j A.toList _ f.2 underlying202 rfl (by rw[ky];simp[k]) ?_;rw[Yb];exact hK _ _ h
def pK(x:BitVec 64)(r:Int):BitVec 64:=if r<0 then x>>>(-8*r).toNat else x<<<(8*r).toNat
def oV(x:BitVec 64)(r:Int):K_ (U x) r=U (pK x r):=by grind[K_,pK,rE,qaW]
def yV(wh:Bool):Int:=if wh then 1 else -1
def uB(wh:Bool):BitVec 64:=if wh then pK 255#64 2 else pK 18374686479671623680#64 (-2)
def iv(wh:Bool)(own oth:BitVec 64)(f:Nat):BitVec 64:=pK (1#64<<<f) (yV wh)&&&~~~(own|||oth)
def k7(wh:Bool)(own oth:BitVec 64)(f:Nat):BitVec 64:=iv wh own oth f|||(pK (iv wh own oth f&&&uB wh) (yV wh)&&&~~~(own|||oth))
section
variable {m:I8}{wh:Bool}{own oth beh:BitVec 64}{fc:I5}{FA:I0}
def p9(r:pO m wh own oth beh fc FA)(w:I6):ZL 258 #[FA] w (yV wh):=by
 have a:=(yk.new w FA 202).cell r.wh;cases wh;all_goals
  unfold ZL;go_in;go_wp2;go_ret;exact⟨R,ZN⟩
def GD(x:BitVec 64):bits .xor Zh (if Zh.signed=Zk then -1 else Zh.max) (U x)=U (~~~x):=by rw[show(if Zh.signed=Zk then -1 else Zh.max)=U (BitVec.allOnes 64)from WS,oF,BitVec.allOnes_xor]
def HF(w1:I6)(b:Nat)(FA:I0)(W:I6):Prop:=yk b FA W/\Gr w1 W
def HF.gr{d:I6}{b:Nat}{a:I0}(h:HF w1 b a W)(g:Gr W d):HF w1 b a d:=⟨h.1.gr g,o_ h.2 g⟩
def ni(r:pO m wh own oth beh fc FA)(f:Nat)(hf:f<64)(w:I6):ZL 209 #[FA,f] w (I Zh (U (k7 wh own oth f))):=by
 have j:=yk.new w FA 202;have v:=(q_ w).alloc FA 202;have a7:=X r.size;have k:=X (λW=>p9 r W);have i:=X (λW=>A9 (f:Int) O O W);rw[rp f hf]at i;have G:=j.cell r.wh;have H:=j.cell r.own;have a8:=j.cell r.oth;have n:Y (∀(x q:Int)(a5:-7<=q)(a6:q<=7)(W:I6),i_ c_ 253 #[I Zh x,q] W λe w'=>e=I Zh (K_ x q)/\w'=W):=X (λx q a5 a6 W=>Dw x q W a5 a6);have a1:∀x y:BitVec 64,bits .or Zh (U x) (U y)=U (x|||y):=uQ;have B:=GD (own|||oth);have l:Y (uB wh=if wh then pK 255#64 2 else pK 18374686479671623680#64 (-2)):=X R;obtain⟨d,F⟩:=Zn (yV wh);rw[F.a]at k;have M:(-7:Int)<=d/\d<=7:=by rw[<-F.a];cases wh<;>decide
 obtain⟨p,u⟩:=M;have a:Y (∀T:BitVec 64,T=uB wh->k7 wh own oth f=(pK (1#64<<<f) d&&&~~~(own|||oth))|||(pK ((pK (1#64<<<f) d&&&~~~(own|||oth))&&&T) d&&&~~~(own|||oth))):=X (λT a4=>by unfold k7 iv;rw[F.a,a4]);generalize k7 wh own oth f=a9 at a|-;generalize a4:uB wh=T at a l;replace a:=X (a.a _ R);have o:Y (U T=if wh then K_ 255 2 else K_ 18374686479671623680 (-2)):=X (by
  rw[l.a];rw[show(255:Int)=U 255#64 from WS,show(18374686479671623680:Int)=U 18374686479671623680#64 from WS,oV,oV];cases wh<;>rfl)
 generalize hN : ~~~(own|||oth)=a2 at a B;cases wh;all_goals
  have g:=o.a;simp only[qR,YH,YS]at g;unfold ZL;go_in;go_upto_region 5 with(go_at_call 253;refine(n _ _ WW WW _).mono ?_;rintro e w' ⟨rfl,rfl⟩);have J:HF w w FA (w.alloc (Z FA 202)).drew:=⟨j.gr ZO.drew,v.drew⟩;generalize w.alloc _=w1 at J|-;refine ZT (S:=HF w w FA) WR J (λb=>?_);apply tq 0 f b;apply ty 2 _ R (cX a7 Vb _ R w R (λ_ h=>h.1)) b;apply tq 5 _ b;refine rd 1 λK hK=>?_
  go_simp;apply Z1 (i _);refine hK.out _ _ b λb=>?_;refine rd 3 λK hK=>?_;go_simp;refine Z0 (k _) λwb z=>?_;refine hK.out _ _ (b.gr z) λb=>?_;refine rd 4 λK hK=>?_;go_simp;apply Z1 (n _ _ p u _);refine hK.out _ _ b λb=>?_;have Q:bits .and Zh (K_ (U (1#64<<<f)) d) (U a2)=U (pK (1#64<<<f) d&&&a2):=by rw[oV,im]
  generalize pK (1#64<<<f) d&&&a2=a3 at Q a;apply tq 6 _ b;refine rd 7 λK hK=>?_;go_simp;refine hK.out _ _ b λb=>?_;refine ZZ WR ?_ _;have V:∀y,U T=y->bits .and Zh (U a3) y=U (a3&&&T):=λy h=>by rw[<-h,im]
  have a0:=V _ g;have e3:bits .and Zh (K_ (U (a3&&&T)) d) (U a2)=U (pK (a3&&&T) d&&&a2):=by rw[oV,im]
  have A:=X b
  go_wp2_with(first|(go_at_call 258;refine Z0 (k _) λwr P=>?_)|(go_at_call 253;refine Z0 (n _ _ p u _) λw' D=>?_;have E:=D.symm;subst E)|(refine jd Vb _ R w R a7.a A.a.1 ?_));go_ret;exact⟨Vy,o_ A.2 P⟩
def vw(FA:I0):I0:=(FA.toList.take 12).toArray
def pO.isMen(r:pO m wh own oth beh fc FA):jS m (vw FA):=by refine⟨by simp[vw,r.size],λi a=>?_⟩;have:=r.men i a;rw[vw,Xu,Yv,qI a,qO];exact this
def pO.held(r:pO m wh own oth beh fc FA){b:Nat}(h:yk b FA W):vh b (vw FA) W:=by refine⟨h.1,?_,by simp[vw,r.size]⟩;have:=h.take 12;rwa[vw]
def ui{s:BitVec 64}(h:x∈vD s):x<64:=by unfold vD at h;exact qK.1 (qV.1 h).1
def C9{α:Type}{a b:List α}{x:α}(h:a++[x] <+:b):x∈b:=h.subset WU
def uG(m:I8)(s:BitVec 64)(wh:Bool):Bool:=(vD s).any λy=>xV m (y:Int) (!wh)
def ij(tmps:I0)(w:I6)(b:Nat)(v:I7)(e:tmps.getD 4 m_=ZI b)(d:w.cell? b=v):(results Tryz.f212 tmps).run c_ w=.ok v w:=by have a:tmps[4]?.getD m_=ZI b:=VI;simp[results,results212,a,asAddr,go_sem,d]
def x6(w:I6)(a b:Obj):((w.alloc a).alloc b).heap[w.heap.size]?=a/\((w.alloc a).alloc b).heap[w.heap.size+1]?=b:=by
 constructor
 .rw[YP _ _ _ WU];exact ZQ w _
 have:=ZQ (w.alloc a) b;rwa[Z3]at this
def qv0(r:pO m wh own oth beh fc FA)(s:BitVec 64)(w:I6)(hT:jF w):ZL 212 #[FA,I Zh (U s)] w (uG m s wh):=by
 have hM:=X r.isMen;have hr:=X r;have hz:=X r.size;refine(ZY (n:=3)).1 ?_;refine callsIn_of_wp_marks func212 rfl x_ ?_ R;simp only[ntmps212,Nat.reduceAdd,Nat.reduceSub,Zr];gi_wp2_with (refine⟨x_,?_⟩;gi_at_call 132;refine(ZY.2 (xn _ _)).mono ?_;rintro e w5 ⟨rfl,rfl⟩);obtain⟨h1,h2⟩:=x6 w (Z FA 202) (Z #[Zl] 4);generalize M:(w.alloc (Z FA 202)).alloc (Z #[Zl] 4)=b0 at h1 h2|-;have c6:b0=w.heap.size+2:=by rw[<-M];simp
 have Q:Gr w b0:=by rw[<-M];exact ZN.alloc _ _
 generalize C:b0.alloc (Z #[I Zh (U s)] 195)=i;have b5:i=w.heap.size+3:=by rw[<-C,Z3,c6]
 have z:Gr b0 i:=by rw[<-C];exact ZO.alloc _ _
 have V:i.heap[w.heap.size]?=Z FA 202:=(Zz z O).trans h1;have b1:i.heap[w.heap.size+1]?=Z #[Zl] 4:=(Zz z O).trans h2;have H:i.cell? b0=I Zh (U s):=by rw[<-C];exact(qq5 b0 _ _).1
 have F:=o_ Q z;have a0:=hT.gr F;have b3:=hT.2;rw[c6]at H;refine xj (gf:=207) (lb:=#[ZI (w+2)]) R (YC func207 WR R)
  (o0 s (w+2) (λ_=>False) i H a0.1) (λ_ h=>h.elim) (by rintro k (rfl|rfl)<;>omega) ZP (λ_=>R)
  (λg W=>(∀y∈g,xV m (y:Int) (!wh)=Zl)/\Below i i W)
  (λc g W=>c=.ret/\(∃y∈g,xV m (y:Int) (!wh)=Zk)/\W.heap[w.heap.size+1]?=Z #[Zk] 4/\Gr w W/\i<=W.heap.size)
  ?sI ?sX ⟨λy T=>w_ T (XC),XL _ _⟩ ?round ?done ?stop
 case sI=>exact λs A A' h f=>⟨h.1,h.2.trans (f.below h.2.size (λ_ _ hk=>Zi hk))⟩
 case sX=>exact λc s A A' h f=>⟨h.1,h.2.1,f.same _ _ h.2.2.1 (Zi O),u_ h.2.2.2.1 ((f.below h.2.2.2.2 (λ_ _ hk=>Zi hk)).mono O),q7 h.2.2.2.2 f.size⟩
 case round=>
  intro l g x W b4 hx hi hl;gi_wp2;refine⟨ZP,?_⟩;rintro b7-⟨a,E⟩ -;have b6:=ui (C9 hx);have a2:0<=(x:Int):=O;have a3:(x:Int)<=63:=O;have c4:=(YG E w O).trans V;have p:=(YG E (w+1) O).trans b1;have c5:yk w FA b7:=⟨(qB.1 c4).1,λj v B=>by rw[Zs c4,Z2,<-qO];exact B⟩;have b:=hr.held c5;have a6:=c5.cell hr.wh;have G:=X (qq0 m _ hM (x:Int) a2 a3 (!wh) b7);have d0:w+1<b7.heap.size:=(qB.1 p).1;have K:=X a;have u:=X E;have d1:=X p;have b':=X (YB V b1);obtain⟨v,B⟩:=Zn (xV m (x:Int) (!wh));rw[B.a]at G;cases v
  .gi_wp2_with (first|(refine xf R _ R w R b ?_)|(refine⟨x_,?_⟩;gi_at_call 127;refine(Xe l (ZY.2 G)).mono ?_;rintro e w' ⟨rfl,n⟩))
   refine⟨p_ n,λy T=>?_,u.trans (Below.mono n (ZR u))⟩;obtain h|h:=Yi.1 T
   .exact K y h
   rw[qT]at h;subst h;exact B
  gi_wp2_with (first|(refine xf R _ R w R b ?_)|(refine⟨x_,?_⟩;gi_at_call 127;refine(Xe l (ZY.2 G)).mono ?_;rintro e w' ⟨rfl,n⟩;have d3:=(YG n (w+1) d0).trans d1;have d4:=qi d3;obtain⟨a9,b2⟩:=d4))
  refine⟨(p_ n).setCell _ ?_,R,⟨x,Yi.2 (Zj (qT.2 R)),B⟩,jm d3,Yr (o_ (o_ F u) n) (show w<=w.heap.size+1 from O) _,?_⟩
  .rintro o-(q|q)
   .obtain q|q:=q
    .simp at q
    simp at q;omega
   have:=q.1;simp at this;omega
  have e1:=ZR u;have e2:=ZR n;simp[World.setCell];omega
 case done=>rintro D W hD ⟨a,E⟩ hK;have p:=(YG E (w+1) O).trans b1;obtain⟨a7,a8⟩:=qi p;have P:=X ((KeepsOthers.setCell W ⟨w+1,0,N⟩ Zl).same D _ hK R);have B:Y (uG m s wh=Zl):=(by unfold uG;rw[XD];intro y T;rw[a y T];decide);have d:=X (qi (DA (D:=D) (o':=.deferred N) (jm (v:=Zl) p) O)).1;have J:Y (Gr w ((W.setCell ⟨w+1,0,N⟩ Zl).putObj D (.deferred N))):=(Yr (o_ F E) (show w<=w.heap.size+1 from O) _).trans (XZ (w:=i) (n₀:=w) O _ D _ _ hD P R R);gi_wp2;refine⟨WU,Zi ⟨_,_,R,YU P,?_⟩⟩;exact⟨_,ij _ _ _ _ R d,by rw[B.a],J⟩
 case stop=>rintro D c g W hD a ⟨rfl,⟨y,a4,a5⟩,p,a1,_⟩ hK;have B:Y (uG m s wh=Zk):=(by unfold uG;rw[qY];exact⟨y,a.subset a4,a5⟩);have d:=X (qi (DA (D:=D) (o':=.deferred N) p O)).1;have J:Y (Gr w (W.putObj D (.deferred N))):=u_ a1 (XZ (w:=i) (n₀:=w) O _ D _ _ hD hK R R);gi_wp2;refine⟨WU,Zi ⟨_,_,R,YU hK,?_⟩⟩;exact⟨_,ij _ _ _ _ R d,by rw[B.a],J⟩
def uL(wh:Bool)(beh:BitVec 64)(place t:Nat):BitVec 64:=if place=0/\1#64<<<t=beh then pK beh (-(yV wh))else 1#64<<<t
def zS(m:I8)(q:Nat)(g:BitVec 64)(k:Nat):I8:=λi=>if q<=i/\i<q+k then m i&&&~~~g else m i
def zV(m:I8)(wh:Bool)(beh:BitVec 64)(place f t:Nat):I8:=λi=>
 if i=bg wh+place then zS m (bg (!wh)) (uL wh beh place t) 6 i ^^^ (1#64<<<f|||1#64<<<t)else zS m (bg (!wh)) (uL wh beh place t) 6 i
def qxx{m m':I8}(h:jS m M)(d:j<12)(b:∀i,i≠j->m' i=m i):jS m' (M.setIfInBounds j (I Zh (U (m' j)))):=by
 refine⟨by rw[Array.size_setIfInBounds];exact h.1,λi a=>?_⟩;by_cases e:i=j
 .subst e;rw[Yu,qI R,qI (by rw[h.1];exact a)]
 rw[Yu,qF (λh=>e h.symm),b i e];exact h.2 i a
def qv{b:Nat}{t:TypeId}(h:W.heap[b]?=Z A t):(W.setCell ⟨b,i,N⟩ v).heap[b]?=Z (A.setIfInBounds i v) t:=by have d:=(qB.1 h).1;have a:=(qB.1 h).2;exact Iy
structure Af(w:I6)(FA:I0)(W:I6):Prop where
 fa:yk w.heap.size FA W
 res:W.heap[w.heap.size+1]?=S (Z yI 197)
 gr:Gr w W
def Af.next(h:Af w FA W)(g:Gr W a):Af w FA a:=⟨h.fa.gr g,ZE g h.res,o_ h.gr g⟩
def Af.drew(h:Af w FA W):Af w FA W.drew:=h.next ZO.drew
def yk.put{b:Nat}(h:yk b A W)(a:b≠g):yk b A (W.setRow g M):=⟨by rw[Xa];exact h.1,λj v d=>by rw[cell_setRow_other _ _ _ _ a];exact h.2 j v d⟩
def Af.put(h:Af w FA W)(a:w+2<=g)(M:I0):Af w FA (W.setRow g M):=⟨h.fa.put O,by rw[Zu O];exact h.res,h.gr.setRow _ O _⟩
def oE(r:pO m wh own oth beh fc FA){d:Array Oper}{op:Oper}{a:Act}{S:I6->Prop}(g:Region.wanted op (yielded d a.tmps)=Zk)(x:Operand)(f:op.op=.load 197 x)(b:Nat)(i:a.eval x=ZI b)(e:∀w,S w->yk b FA w):YieldsIf c_ d S op (vw FA) a:=pd r.isMen.1 g x f b i (λW h=>r.held (e W h))
def Aw(w:I6)(FA:I0)(W:I6):Prop:=Af w FA W/\W.heap[w.heap.size+2]?=S (Z (vw FA) 197)
def Aw.next(h:Aw w FA W)(g:Gr W a):Aw w FA a:=⟨h.1.next g,ZE g h.2⟩
def Bf(w:I6)(M:I0)(W:I6):Prop:=W.heap[w.heap.size+2]?=S (Z M 197)/\W.heap[w.heap.size+1]?=S (Z yI 197)/\Gr w W
def nj(r:pO m wh own oth beh fc FA)(a f t:Nat)(hp:a<6)(hf:f<64)(ht:t<64)(w:I6):i_ c_ 211 #[Zc FA,I L a,I L f,I L t] w λe w'=>∃M,e=Zd (Zc M)/\jS (zV m wh beh a f t) M/\Gr w w':=by
 have u:=X r;have V:=X (λb W=>FJ b W);obtain⟨x1,x2⟩:=x6 w (Z FA 202) (Z yI 197);have a3:Af w FA ((w.alloc (Z FA 202)).alloc (Z yI 197)):=⟨(yk.new w FA 202).gr ZN,x2,ZN.al⟩;have a6:((w.alloc (Z FA 202)).alloc (Z yI 197)).heap.size=w.heap.size+2:=WU;clear x1 x2;go_in;go_upto_region 1 with fail;go_cut [9,10,11]from 14 to 22 (λs9 d4 d5 wx=>s9=ZI (w.heap.size+2)/\d4=I L (bg wh:Nat)/\d5=I L (bg (!wh):Nat)/\Af w FA wx/\wx.heap[w.heap.size+2]?=S (Z (vw FA) 197))
 case first=>
  have a1:=a3.drew;generalize c4:((w.alloc (Z FA 202)).alloc (Z yI 197))=W0 at a3 a1 a6;have b0:((w.alloc (Z FA 202)).alloc (Z #[I Zh 0,I Zh 0,I Zh 0,I Zh 0,I Zh 0,I Zh 0,I Zh 0,I Zh 0,I Zh 0,I Zh 0,I Zh 0,I Zh 0] 197))=W0:=c4;rw[b0];have j:(W0.alloc (Z yI 197)).drew.heap[w.heap.size+2]?=S (Z yI 197):=by rw[<-a6];exact Zv
  refine ZT (S:=Af w FA) WR a1 (λd=>?_);refine ZB 0 (ZI w.heap.size) R (λw E=>VA) d ?_;refine ty 1 (Zc (vw FA)) R (oE u.a Vb _ R w.heap.size R (λ_ h=>h.fa)) d ?_;refine ZB 2 (.pointer (S ⟨w.heap.size,12,N⟩)) R (λw E=>VA) d ?_;refine ZB 3 (Za wh) R (λw E=>VA) d ?_;refine ZB 5 (.pointer (S ⟨w.heap.size,12,N⟩)) R (λw E=>VA) d ?_;refine ZB 6 (Za wh) R (λw E=>VA) d ?_;refine ZB 7 (Za (!wh)) R (λw E=>VA) d ?_;refine Xk (rs:=[4,9]) WR WU ?_;refine Yc R (λK hK=>?_) (Yc R (λK hK=>?_) Xb);go_simp;refine(V.a _ _).mono ?_;rintro e wa ⟨rfl,rfl⟩;refine hK.out _ _ d λd=>?_;clear hK K;refine Xk (rs:=[8,9]) WR WU ?_;refine Yc R (λK hK=>?_) (Yc R (λK hK=>?_) Xb);go_simp;refine(V.a _ _).mono ?_;rintro e wa ⟨rfl,rfl⟩;refine hK.out _ _ d λd=>?_;clear hK K;refine rd 9 λK hK=>?_;go_simp;refine hK.out _ _ (d.next ZN) λd=>?_;rotate_left;go_simp;refine hK.out _ _ (d.next ZN) λd=>?_;clear hK K;refine rd 8 λK hK=>?_;go_simp;refine(V.a _ _).mono ?_;rintro e wa ⟨rfl,rfl⟩;refine hK.out _ _ d λd=>?_;rotate_left;go_simp;refine hK.out _ _ (d.next ZN) λd=>?_;clear hK K;refine rd 4 λK hK=>?_;go_simp;refine(V.a _ _).mono ?_;rintro e wa ⟨rfl,rfl⟩;refine hK.out _ _ d λd=>?_;clear hK K;refine rd 8 λK hK=>?_;go_simp;refine Z1 (V.a _ _) ?_;refine hK.out _ _ d λd=>?_;all_goals
   clear hK K;refine rd 10 λK hK=>?_;rw[qI Vb];refine YQ 197 _ _ R _ (vw FA) R R 197 yI j u.a.isMen.info u.a.isMen.1.symm u.a.isMen.ones ?_;refine hK.out _ _ (d.put Zy _) λd=>?_;clear hK K;simp only[py];refine rd 11 λK hK=>?_;go_simp;refine hK.out _ _ d λd=>?_;clear hK K;refine rd 12 λK hK=>?_;go_simp;refine hK.out _ _ d λd=>?_;clear hK K;refine ZZ WR ?_ _;go_wp2;go_meet
   case rel=>exact⟨R,R,R,d,Zt j⟩
 case rest=>
  obtain⟨rfl,rfl,rfl,hA,j⟩:=hcut;clear a3 a6;have A:=X (λ(x:Nat)(hx:x<64)(W:I6)=>A9 (x:Int) O O W);have a5:=A.a t ht;rw[rp t ht]at a5;have b2:=X a5;clear a5;go_upto_region 3 with(go_at_call 204;refine(b2.a _).mono ?_;rintro e w' ⟨rfl,rfl⟩);have a1:=hA;have b6:=j;have cb:w'.cell? ⟨w.heap.size,15,N⟩=S (I Zh (U beh)):=hA.fa.cell u.a.beh;have b4:=X (λW=>p9 u.a W);have P:Y (uL wh beh a t=if a=0/\1#64<<<t=beh then pK beh (-(yV wh))else 1#64<<<t):=X R;clear a1 b6;have D:Y (zV m wh beh a f t=λi=>if i=bg wh+a then zS m (bg (!wh)) (uL wh beh a t) 6 i ^^^ (1#64<<<f|||1#64<<<t)else zS m (bg (!wh)) (uL wh beh a t) 6 i):=X R;generalize a2:zV m wh beh a f t=AF at D;have J:=X a2;clear a2;generalize uL wh beh a t=G at D P;obtain⟨CB,B⟩:=Zn (Zm (a=0/\1#64<<<t=beh));go_cut [32]from 25 to 31 (λf1 wx=>f1=Za CB/\wx=w')
  case first=>
   by_cases h0:a=0
   .have e0:((a:Int)==0)=Zk:=WX;obtain⟨x,hx⟩:=Zo (U (1#64<<<t)==U beh);have a7:Y (CB=x):=X (by
     rw[<-B.a,<-hx];by_cases hb:1#64<<<t=beh
     .rw[qJ ⟨h0,hb⟩,hb];simp
     .rw[qE (λh=>hb h.2)];exact(qM.2 (λh=>hb (pE h))).symm)
    clear h0 B;cases x<;>(go_wp2;go_meet;exact⟨by rw[a7.a],R⟩)
   .have e1:((a:Int)==0)=Zl:=WX;have a7:Y (CB=Zl):=X (by rw[<-B.a,qE (λh=>h0 h.1)]);clear h0 B;go_wp2;go_meet
    case rel=>exact⟨by rw[a7.a],R⟩
  case rest=>
   obtain⟨rfl,l⟩:=hcut;have p:=l.symm;subst p;clear l;go_upto_if 32 with fail;go_cut [12]from 33 to 38 (λf0 wx=>f0=I Zh (U G)/\Aw w FA wx)
   case first=>
    cases CB
    .have hG:Y (G=1#64<<<t):=X (by rw[P.a,qF (of_decide_eq_false B.a)]);clear P B;go_wp2;go_meet
     case rel=>exact⟨by rw[hG.a],hA,j⟩
    .have hG:Y (G=pK beh (-(yV wh))):=X (by rw[P.a,qI (q8 B.a)]);have hz:=X u.a.size;clear P B;go_upto_region 4 with fail;have f2:a_ L (-(yV wh))=-(yV wh):=Vn;have b1:(-7:Int)<=-(yV wh)∧-(yV wh)<=7:=Vn;have b7:Aw w FA w'.drew:=⟨hA.drew,j⟩;refine ZT (S:=Aw w FA) WR b7 (λd=>?_);refine ZB 0 (.pointer (S ⟨w.heap.size,15,N⟩)) R (λw E=>UL) d ?_;refine ZB 1 (I Zh (U beh)) R (λw E=>UL) d ?_;refine ty 2 (Zc FA) R (cX hz.a Vb _ R w.heap.size R (λ_ h=>h.1.fa)) d ?_;refine rd 3 λK hK=>?_;go_simp;refine Z0 (b4.a _) λwb c6=>?_;refine hK.out _ _ (d.next c6) λd=>?_;clear hK K;refine ZB 4 (I L (-(yV wh))) R (λw E=>UL) d ?_;refine rd 5 λK hK=>?_;go_simp;refine Z1 (Dw _ _ _ b1.1 b1.2) ?_;refine hK.out _ _ d λd=>?_;clear hK K;refine rd 6 λK hK=>?_;go_simp;refine hK.out _ _ d λd=>?_;clear hK K;refine ZZ WR ?_ _;go_wp2;go_meet
     case rel=>exact⟨by rw[oV,<-hG.a],d⟩
   case rest=>
    clear hA j;obtain⟨rfl,hA,j⟩:=hcut;clear P b4 B;go_upto_region 6 with fail;clear cb;generalize hQ:bg (!wh)=q;have f9:q<=6:=(by rw[<-hQ];exact io _);have g3:=X hQ;clear hQ;have a4:Y (jS (zS m q G 0) (vw FA)):=X (by
     have e:zS m q G 0=m:=(by funext i;unfold zS;rw[qF O]);rw[e];exact u.a.isMen)
    have b5:=X j;have a9:=X hA;clear j hA;go_loopg [39] 6 (λgg n wr=>∃(k:Nat)(M:I0),k+gg=6/\n=I L k/\jS (zS m q G k) M/\wr.heap[w.heap.size+2]?=S (Z M 197)/\wr.heap[w.heap.size+1]?=S (Z yI 197)/\Gr w wr)
    case atStart=>exact⟨0,vw FA,O,R,a4.a,b5.a,a9.a.res,a9.a.gr⟩
    case round=>
     obtain⟨k,M,k1,rfl,kM,k9,k8,kG⟩:=hrel;have a0:=X kM;have Q:=X k9;have g1:=X k8;have g2:=X kG;by_cases d0:k<6
     .have b3:q+k<12:=O;have c5:wr.cell? ⟨w.heap.size+2,q+k,N⟩=S (I Zh (U (m (q+k)))):=(by rw[Zs k9,kM.2 _ b3];unfold zS;rw[qF O]);have f6:wr.frozen? ⟨w.heap.size+2,q+k,N⟩=Zl:=(by simp[World.frozen?,k9]);have f5:bits .andNot Zh (U (m (q+k))) (U G)=U (m (q+k)&&&~~~G):=qk1 _ _;have f7:0<=(k:Int):=O;have f8:(k:Int)<6:=O;clear kM k9 k8 kG;go_wp2;go_roundg (gk-1)
      case measure=>omega
      case rel=>
       refine⟨k+1,M.setIfInBounds (q+k) (I Zh (U (m (q+k)&&&~~~G))),O,Vg,?_,qv Q.a,?_,Yr g2.a (show w.heap.size<=w.heap.size+2 from O) _⟩
       .have e:zS m q G (k+1) (q+k)=m (q+k)&&&~~~G:=(by unfold zS;rw[qI O]);have:=qxx (m':=zS m q G (k+1)) (j:=q+k) a0.a b3 (λi hi=>by
         unfold zS;by_cases h:q<=i/\i<q+k
         .rw[qI h,qI O]
         .rw[qF h,qF O])
        rwa[e]at this
       .rw[Yg _ _ _ _ WU];exact g1.a
     .have ek:k=6:=O;subst ek;clear kM k9 k8 kG d0;have d3:=io wh;have g5:∀W:I6,Bf w M W->W.cell? ⟨w.heap.size+2,bg wh+a,N⟩=S (I Zh (U (zS m q G 6 (bg wh+a)))):=λW h=>(by rw[Zs h.1];exact a0.a.2 _ O);have d1:wr.drew.cell? ⟨w.heap.size+2,bg wh+a,N⟩=S (I Zh (U (zS m q G 6 (bg wh+a)))):=g5 wr ⟨Q.a,g1.a,g2.a⟩;have d2:wr.drew.frozen? ⟨w.heap.size+2,bg wh+a,N⟩=Zl:=(by show wr.frozen? _=Zl;simp[World.frozen?,Q.a]);clear g5;generalize bg wh=o at d3 D d1 d2|-;have f3:0<=(o:Int)+a:=O;have f4:(o:Int)+a<12:=O;have g0:a_ L ((o:Int)+a)=(o:Int)+a:=Vc;have e5:bits .or Zh (v6 (f:Int)) (v6 (t:Int))=U (1#64<<<f|||1#64<<<t):=(by rw[rp f hf,rp t ht,uQ]);have e6:bits .xor Zh (U (zS m q G 6 (o+a))) (U (1#64<<<f|||1#64<<<t))=U (zS m q G 6 (o+a) ^^^ (1#64<<<f|||1#64<<<t)):=oF _ _;go_upto_region 10 with fail;refine ZT (S:=λ_=>True) WR x_ (λd=>?_);refine tq 0 (I L o) d ?_;refine tq 1 (I L a) d ?_;refine tq 2 (I L ((o:Int)+a)) d ?_;refine tq 3 (.pointer (S ⟨w.heap.size+2,o+a,N⟩)) d ?_;refine tq 5 (I L f) d ?_;refine tq 7 (I L t) d ?_;refine Xk (rs:=[4,6]) WR WU ?_;refine Yc R (λK hK=>?_) (Yc R (λK hK=>?_) Xb);go_simp;refine hK.out _ _ x_ λd=>?_;clear hK K;refine rd 6 λK hK=>?_;go_simp;refine Z0 (A.a _ hf _) λw1 l=>?_;have p:=l.symm;subst p;clear l;refine hK.out _ _ x_ λd=>?_;clear hK K;refine rd 8 λK hK=>?_;go_simp;refine Z0 (A.a _ ht _) λw1 l=>?_;have p:=l.symm;subst p;clear l;refine hK.out _ _ x_ λd=>?_;clear hK K;refine tq 9 (I Zh (U (1#64<<<f|||1#64<<<t))) d ?_;rotate_left;go_simp;refine Z0 (A.a _ hf _) λw1 l=>?_;have p:=l.symm;subst p;clear l;refine hK.out _ _ x_ λd=>?_;clear hK K;refine Xk (rs:=[4,8]) WR WU ?_;refine Yc R (λK hK=>?_) (Yc R (λK hK=>?_) Xb);go_simp;refine hK.out _ _ x_ λd=>?_;clear hK K;refine rd 8 λK hK=>?_;go_simp;refine Z0 (A.a _ ht _) λw1 l=>?_;have p:=l.symm;subst p;clear l;refine hK.out _ _ x_ λd=>?_;clear hK K;refine tq 9 (I Zh (U (1#64<<<f|||1#64<<<t))) d ?_;rotate_left;go_simp;refine Z0 (A.a _ ht _) λw1 l=>?_;have p:=l.symm;subst p;clear l;refine hK.out _ _ x_ λd=>?_;clear hK K;refine tq 9 (I Zh (U (1#64<<<f|||1#64<<<t))) d ?_;refine rd 4 λK hK=>?_;go_simp;refine hK.out _ _ x_ λd=>?_;clear hK K;all_goals
       refine tq 10 (I Zh (U (zS m q G 6 (o+a) ^^^ (1#64<<<f|||1#64<<<t)))) d ?_;refine tq 11 (.pointer (S ⟨w.heap.size+2,o+a,N⟩)) d ?_;refine rd 12 λK hK=>?_;go_simp;refine hK.out _ _ x_ λd=>?_;clear hK K;refine ZZ WR ?_ _;have g:=X (qxx (m':=AF) (j:=o+a) a0.a O (λi hi=>by rw[D.a];simp only[qF hi,g3.a]));have T:AF (o+a)=zS m q G 6 (o+a) ^^^ (1#64<<<f|||1#64<<<t):=(by rw[D.a];simp only[YS,g3.a]);rw[T]at g;have y:=qv (i:=o+a) (v:=I Zh (U (zS m q G 6 (o+a) ^^^ (1#64<<<f|||1#64<<<t)))) Q.a;have F:(wr.setCell ⟨w.heap.size+2,o+a,N⟩ (I Zh (U (zS m q G 6 (o+a) ^^^ (1#64<<<f|||1#64<<<t))))).heap[w.heap.size+1]?=S (Z yI 197):=(by rw[Yg _ _ _ _ WU];exact g1.a);have g4:Gr w (wr.setCell ⟨w.heap.size+2,o+a,N⟩ (I Zh (U (zS m q G 6 (o+a) ^^^ (1#64<<<f|||1#64<<<t))))):=Yr g2.a (show w.heap.size<=w.heap.size+2 from O) _;generalize (wr.setCell ⟨w.heap.size+2,o+a,N⟩ (I Zh (U (zS m q G 6 (o+a) ^^^ (1#64<<<f|||1#64<<<t)))))=wz at y F g4|-;generalize M.setIfInBounds (o+a) (I Zh (U (zS m q G 6 (o+a) ^^^ (1#64<<<f|||1#64<<<t))))=z at y g;clear d1 d2;have g6:wz.drew.heap[w.heap.size+2]?=S (Z z 197):=y;have H:wz.drew.heap[w.heap.size+1]?=S (Z yI 197):=F;go_wp2_with(first|(refine ZV R 197 _ R (w.heap.size+2) R 197 z (0,0) _ g6 underlying197 rfl g.a.info ?_)|(refine ZU R 197 _ _ R (w.heap.size+1) z R R 197 yI H g.a.info g.a.1.symm g.a.ones ?_));exact ZS (v:=Zc z) (Yp results211 _ _ (w.heap.size+1) 197 z (0,0) _ R (Zt H) underlying197 rfl g.a.info) R ⟨z,R,(by rw[J.a];exact g.a),g4.drew.setRow _ O _⟩
def kE(m:I8)(wh:Bool)(beh:BitVec 64)(place f t:Nat):Bool:=!(uG (zV m wh beh place f t) (zV m wh beh place f t (bg wh+5)) wh)
def O_(FA M:I0):I0:=P_ 0 M FA
def pO.putMen{m':I8}(r:pO m wh own oth beh fc FA)(h:jS m' M):pO m' wh own oth beh fc (O_ FA M):=by
 have p:=zo 0 M FA;have d:=r.size;have a:∀i,(O_ FA M)[i]?=if i<12 then M[i]? else FA[i]?:=λi=>by have:=p.2 i (by rw[h.1,d];omega);unfold O_;rw[this,h.1];simp
 refine⟨by unfold O_;rw[p.1];exact d,λi b=>?_,?_,?_,?_,?_,λi b=>?_⟩
 .rw[a,qI b];exact h.2 i b
 .rw[a,qF O];exact r.wh
 .rw[a,qF O];exact r.own
 .rw[a,qF O];exact r.oth
 .rw[a,qF O];exact r.beh
 rw[a,qF O];exact r.c i b
theorem zx{b:Nat}(d:B<=b):∀(e:List I7)(o:Nat)(w:I6),Below B a w->Below B a (w.setCells b o e)
 | [],_,_,h=>h
 | v::r,o,_,h=>zx d r (o+1) _ (h.setCell (p:=⟨b,o,N⟩) d v)
def mN(b:FA.size=20)(a:M.size=12)(i:Nat):(O_ FA M)[i]?=if i<12 then M[i]? else FA[i]?:=by grind[zo,O_]
def bF{b:Nat}{t:TypeId}(h:W.heap[b]?=Z FA t)(d:n<=FA.size):W.there b 0 n:=λj a=>by
 constructor
 .rw[Zs h,qQ O];rfl
 simp[World.frozen?,h]
def yk.putMen{b:Nat}{t:TypeId}(h:W.heap[b]?=Z FA t)(f:FA.size=20)(a:M.size=12):yk b (O_ FA M) (W.setCells b 0 M.toList):=by
 refine⟨qN (qB.1 h).1 (zx (B:=0) (Nat.zero_le _) _ _ _ (XL _ _)).size,λj v d=>?_⟩;rw[qO,mN f a]at d;by_cases e:j<12
 .rw[qI e]at d;have:=World.cell?_setCells_in b M.toList 0 W (λi g=>(bF (n:=12) h (by rw[f];omega) i (by simpa[a]using g)).1) j (by simp[a];exact e);rw[this];rw[<-d,qQ (by rw[a];exact e)];simp
 rw[qF e]at d;rw[World.cell?_setCells_out b M.toList 0 W _ (λ_ _=>Zj (by simp[a];omega)),Zs h,Z2];exact d
def mf(r:pO m wh own oth beh fc FA)(a f t:Nat)(a1:a<6)(a3:f<64)(P:t<64)(w:I6)(a0:jF w):ZL 134 #[Zc FA,I L a,I L f,I L t] w (Za (kE m wh beh a f t)):=by
 have E:=X r;have y:=yk.new w FA 202;have z:=(q_ w).alloc FA 202;have k:=ZQ w (Z FA 202);have v:=X (λW=>nj r a f t a1 a3 P W);unfold ZL;go_in;go_upto_region 2 with(first|(go_at_call 211;refine(v _).mono ?_;rintro e w' ⟨M,rfl,j,g⟩)|(refine jd Vb _ R w R E.a.size y ?_)|(refine wpList_store_mid R 197 _ _ R w 0 M R R (bF ((Zz g Vj).trans k) (by rw[j.1,E.a.size];omega)) j.info j.ones ?_));have x:=(YG g w Vj).trans k;have b:=X (E.putMen j);have G:HF w w (O_ FA M) (w'.setCells w 0 M.toList).drew:=⟨(yk.putMen x E.size j.1).gr ZO.drew,(zx Zy _ _ _ (o_ z g)).drew⟩;have H:=X j;generalize w'.setCells w 0 M.toList=a4 at G|-;generalize p:O_ FA M=F at b G;have D:=X (λW=>FL (zV m wh beh a f t) _ b.isMen wh W);have i:=X (λs W a0=>qv0 b s W a0);have l:Y (kE m wh beh a f t=!(uG (zV m wh beh a f t) (zV m wh beh a f t (bg wh+5)) wh)):=R;generalize q:kE m wh beh a f t=a2 at l;have u:=X q;have J:=X b.size;generalize zV _ _ _ _ _ _=Q at b D i l H;refine ZT (S:=HF w w F) WR G (λd=>?_);apply ty 0 F R (cX J Vb _ R w R (λ_ h=>h.1)) d;apply ZB 1 (ZI w) R (λw n=>UZ) d;apply ty 2 (vw F) R (oE b Vb _ R w R (λ_ h=>h.1)) d;apply ZB 3 (.pointer (S ⟨w,12,N⟩)) R (λw n=>UZ) d;apply ZB 4 wh R (λw n=>UZ) d;refine rd 5 λK hK=>?_;go_simp;refine Z0 (D _) λT A=>?_;refine hK.out _ _ (d.gr A) λd=>?_;refine rd 6 λK hK=>?_;go_simp;refine Z0 (i _ _ (a0.gr d.2)) λV B=>?_;refine hK.out _ _ (d.gr B) λd=>?_;refine ZB 7 a2 R (λw n=>by rw[l.a];go_simp) d ?_;refine rd 8 λK hK=>?_;go_simp;refine hK.out _ _ d λd=>?_;refine ZZ WR ?_ _;go_wp2;go_ret;exact⟨by rw[u.a];rfl,d.2⟩
def xE(i:Nat):Nat:=if i=0 then 6 else if i=1 then 2 else if i=2 then 62 else 58
def yX(i:Nat):BitVec 64:=if i=0 then 96#64 else if i=1 then 14#64 else if i=2 then 6917529027641081856#64 else 1008806316530991104#64
def yW(i:Nat):BitVec 64:=if i=0 then 112#64 else if i=1 then 28#64 else if i=2 then 8070450532247928832#64 else 2017612633061982208#64
def yD(m:I8)(wh:Bool)(own oth:BitVec 64)(fc:I5)(i:Nat):Bool:=fc i&&(wh==Zm (i<2))&&Zm ((own|||oth)&&&yX i=0#64)&&!(uG m (yW i) wh)
def kp(m:Nat->BitVec 64)(wh:Bool)(own oth:BitVec 64)(fc:Nat->Bool):Nat->BitVec 64
 | 0=>0#64
 | k+1=>if yD m wh own oth fc k then kp m wh own oth fc k|||1#64<<<xE k else kp m wh own oth fc k
def pY:List I7:=[I L 6,I Zh 96,I Zh 112,I L 2,I Zh 14,I Zh 28,I L 62,I Zh 6917529027641081856,I Zh 8070450532247928832,I L 58,I Zh 1008806316530991104,I Zh 2017612633061982208]
def jQ(w:I6):Prop:=w.rangeAt 3 0 pY/\3<w.heap.size
def jQ.gr(h:jQ w)(g:Gr w w'):jQ w':=⟨λj v a=>(ZW g (p:=⟨_,0+j,N⟩) h.2).trans (h.1 j v a),qN h.2 (ZR g)⟩
def Bo:(c_.info? 315).map (·.size)=S pY.length:=WR
def qbQ(w:I6):(l_ 315 (pY.toArray) (I L 0)).run c_ w=.ok (Zc #[I L 6,I Zh 96,I Zh 112]) w:=WR
def qbP(w:I6):(l_ 315 (pY.toArray) (I L 1)).run c_ w=.ok (Zc #[I L 2,I Zh 14,I Zh 28]) w:=WR
def qbO(w:I6):(l_ 315 (pY.toArray) (I L 2)).run c_ w=.ok (Zc #[I L 62,I Zh 6917529027641081856,I Zh 8070450532247928832]) w:=WR
def qbN(w:I6):(l_ 315 (pY.toArray) (I L 3)).run c_ w=.ok (Zc #[I L 58,I Zh 1008806316530991104,I Zh 2017612633061982208]) w:=WR
def qbM(k:Nat)(a:k<4)(w:I6):(l_ 315 (pY.toArray) k).run c_ w=.ok (Zc #[(xE k:Nat),I Zh (U (yX k)),I Zh (U (yW k))]) w:=by
 have:k=0\/k=1\/k=2\/k=3:=O;obtain rfl|rfl|rfl|rfl:=this
 .exact(qbQ w).trans Vb
 .exact(qbP w).trans Vb
 .exact(qbO w).trans Vb
 exact(qbN w).trans Vb
def Uz(x:BitVec 64):U x=0↔x=0#64:=⟨λh=>pE (h.trans WS),λh=>by rw[h];decide +kernel⟩
def lP(k:Nat):xE k<64:=Oa
def aQ(r:pO m wh own oth beh fc FA)(w:I6)(e:jF w)(Z:jQ w):ZL 210 #[FA] w (I Zh (U (kp m wh own oth fc 4))):=by
 have K:=X r;have a7:=X r.size;have o:=X ((q_ w).alloc FA 202);have G:=X (yk.new w FA 202);have b1:=X Z;have T:=X e;generalize hL:pY.toArray=CL;unfold ZL;go_in;go_wp2_with(refine Yo R 315 _ R 3 0 R pY _ (b1.a.gr o.a).1 underlying315 rfl Bo ?_);generalize w.alloc _=w1 at o G|-;go_loopg [3,7] 4 (λgg x n wr=>∃k:Nat,k+gg=4/\n=k/\x=I Zh (U (kp m wh own oth fc k))/\Gr w1 wr)
 .exact⟨0,R,R,Vb,ZO⟩
 obtain⟨k,k1,rfl,rfl,H⟩:=hrel;have d:=X H;by_cases J:k<4
 .have a6:=qbM k J;rw[hL]at a6;have v:=X ((G.gr d).gr ((q_ wr).alloc #[(xE k:Nat),I Zh (U (yX k)),I Zh (U (yW k))] 314));have P:=v.cell K.wh;have Q:=v.cell K.own;have a8:=v.cell K.oth;have B:=v.cell (K.c k J);have a2:0<=(k:Int):=O;have a3:(k:Int)<4:=O;have g:=X (λW e=>qv0 K (yW k) W e);have z:=X (T.gr (o_ (o_ o d) ((q_ wr).alloc #[(xE k:Nat),I Zh (U (yX k)),I Zh (U (yW k))] 314)));have l:=X (λW=>A9 (xE k:Nat) O (by have:=lP k;omega) W);rw[rp _ (lP k)]at l;have a4:=uQ;have a0:=im;have a:Y (yD m wh own oth fc k=(fc k&&(wh==Zm (k<2))&&Zm ((own|||oth)&&&yX k=0#64)&&!(uG m (yW k) wh))):=R;have f:Y (kp m wh own oth fc (k+1)=if yD m wh own oth fc k then kp m wh own oth fc k|||1#64<<<xE k else kp m wh own oth fc k):=R;have b0:(U ((own|||oth)&&&yX k)==0)=Zm ((own|||oth)&&&yX k=0#64):=by rw[YW];simp[Uz]
  have a9:Zm ((k:Int)<2)=Zm (k<2):=WX;generalize yD _ _ _ _ _ _=OK at a f;generalize Zm ((own|||oth)&&&yX k=0#64)=c3 at a b0;generalize Zm (k<2)=c2 at a a9;generalize fc k=c1 at a B;generalize uG _ _ _=c4 at a g;generalize F:kp m wh own oth fc (k+1)=p at f;have b:=X F;have u:(wr.alloc (.cells #[(xE k:Nat),I Zh (U (yX k)),I Zh (U (yW k))] 314)).cell? ⟨wr,0,N⟩=(xE k:Nat):=Ug;have C:(wr.alloc (.cells #[(xE k:Nat),I Zh (U (yX k)),I Zh (U (yW k))] 314)).cell? ⟨wr,1,N⟩=I Zh (U (yX k)):=Ug;have D:(wr.alloc (.cells #[(xE k:Nat),I Zh (U (yX k)),I Zh (U (yW k))] 314)).cell? ⟨wr,2,N⟩=I Zh (U (yW k)):=Ug;have h:=X (d.alloc #[(xE k:Nat),I Zh (U (yX k)),I Zh (U (yW k))] 314);have E:wr<(wr.alloc (.cells #[(xE k:Nat),I Zh (U (yX k)),I Zh (U (yW k))] 314)).heap.size:=Vj;have j:=X E;go_upto_region 5 with fail;generalize wr.alloc _=wk at v z P Q a8 B u C D h j|-;generalize wr.heap.size=M at u C D j|-;by_cases A:(c1&&(wh==c2)&&c3)=Zk
  .obtain⟨⟨rfl,i⟩,rfl⟩:(c1=Zk/\(wh==c2)=Zk)/\c3=Zk:=(by simpa using A);cases c4
   .have hN:Y (p=kp m wh own oth fc k|||1#64<<<xE k):=(by rw[f.a,a.a,i];rfl);go_wp2_with(first|(go_at_call 212;refine Z0 (g _ z) λwa q=>?_;have a1:=(ZW q (p:=M) j).trans u)|(go_at_call 204;apply Z1 (l _))|(refine jd Vb _ R w R a7.a v.a ?_));exact Iv
   have hN:Y (p=kp m wh own oth fc k):=(by rw[f.a,a.a,i];rfl);go_wp2_with(first|(go_at_call 212;refine Z0 (g _ z) λwa q=>?_)|(refine jd Vb _ R w R a7.a v.a ?_));exact Iv
  have hN:Y (p=kp m wh own oth fc k):=X (by
   rw[f.a,a.a];have:(c1&&(wh==c2)&&c3)=Zl:=(by simpa using A);rw[this];rfl)
  cases c1
  .exact OR
  by_cases i:(wh==c2)=Zk
  .have V:c3=Zl:=by
    cases c3
    .rfl
    exact w_ (by rw[i];rfl) A
   subst V;exact OR
  have a5:(wh==c2)=Zl:=by simpa using i
  exact OR
 have ek:k=4:=O;subst ek;go_wp2;go_ret;exact⟨R,o_ o d⟩
def kN(m:I8)(wh:Bool)(own oth beh:BitVec 64)(fc:I5)(place kind f:Nat):BitVec 64:=
 if place=0 then(jW kind f (own|||oth)&&&(oth|||beh))|||k7 wh own oth f
 else if place=5 then(jW kind f (own|||oth)&&&~~~own)|||kp m wh own oth fc 4
 else jW kind f (own|||oth)&&&~~~own
def om(r:pO m wh own oth beh fc FA)(b g f:Nat)(M:1<=g)(a7:g<=7)(a3:f<64)(w:I6)(a2:jF w)(H:jQ w):ZL 133 #[FA,b,g,f] w (I Zh (U (kN m wh own oth beh fc b g f))):=by
 have d:=X r;have a4:=X r.size;have o:=yk.new w FA 202;have p:=(q_ w).alloc FA 202;have i:=o.cell r.own;have j:=o.cell r.oth;have k:=o.cell r.beh;have u:=X (λW=>qjg (g:Int) (f:Int) (U (own|||oth)) O O O O W);rw[ik g f M a7 a3]at u;have B:=X (λW=>ni r f a3 W);have D:=X (λW a2 H=>aQ r W a2 H);have A:=X (a2.gr p);have z:=X (H.gr p);have n:Y (kN m wh own oth beh fc b g f=if b=0 then(jW g f (own|||oth)&&&(oth|||beh))|||k7 wh own oth f else if b=5 then(jW g f (own|||oth)&&&~~~own)|||kp m wh own oth fc 4 else jW g f (own|||oth)&&&~~~own):=R;generalize a6:kN m wh own oth beh fc b g f=J at n;generalize jW _ _ _=e at u n;generalize k7 _ _ _ _=P at B n;generalize kp _ _ _ _ _ _=Q at D n;have a1:=uQ;have V:=im;have a0:=qk1;unfold ZL;go_in;go_upto_region 2 with(go_at_call 206;apply Z1 (u _));generalize a5:w.alloc (Z FA 202)=w1 at o p i j k A z|-;have T:HF w w FA w1.drew:=⟨o.gr ZO.drew,p.drew⟩;by_cases v:b=0
 .have a8:((b:Int)==0)=Zk:=WX;have hN:Y (J=e&&&(oth|||beh)|||P):=X (by rw[n.a,qI v]);go_upto_region 4 with fail;refine ZT (S:=HF w w FA) WR T (λl=>?_);apply ZB 0 _ R (λw a=>Va) l;apply ZB 1 _ R (λw a=>Va) l;apply ZB 2 _ R (λw a=>Va) l;apply ZB 3 _ R (λw a=>Va) l;apply ZB 4 _ R (λw a=>Va) l;apply ZB 5 _ rfl (λw a=>Va) l;apply ZB 6 _ rfl (λw a=>Va) l;apply ty 7 _ R (cX a4 Vb _ R w R (λ_ h=>h.1)) l;apply ZB 8 f R (λw a=>Va) l;refine rd 9 λK hK=>?_;go_simp;refine Z0 (B _) λF q=>?_;refine hK.out _ _ (l.gr q) λl=>?_;apply ZB 10 _ rfl (λw a=>Va) l;refine rd 11 λK hK=>?_;exact O6
 have a8:((b:Int)==0)=Zl:=WX;by_cases G:b=5
 .have E:((b:Int)==5)=Zk:=WX;have hN:Y (J=e&&&~~~own|||Q):=X (by rw[n.a,qF v,qI G]);go_upto_region 6 with fail;refine ZT (S:=HF w w FA) WR T (λl=>?_);apply ZB 0 _ R (λw a=>Va) l;apply ZB 1 _ R (λw a=>Va) l;apply ZB 2 _ R (λw a=>Va) l;apply ZB 3 _ R (λw a=>Va) l;apply ty 4 _ R (cX a4 Vb _ R w R (λ_ h=>h.1)) l;refine rd 5 λK hK=>?_;go_simp;refine Z0 (D _ (A.gr ZO.drew) (z.gr ZO.drew)) λF q=>?_;refine hK.out _ _ (l.gr q) λl=>?_;apply ZB 6 _ rfl (λw a=>Va) l;refine rd 7 λK hK=>?_;exact O6
 have E:((b:Int)==5)=Zl:=WX;have hN:Y (J=e&&&~~~own):=X (by rw[n.a,qF v,qF G]);go_wp2;go_ret;exact⟨by rw[hN.a];rfl,p⟩
def vV(b:Int):BitVec 64:=if 0<=b then 1#64<<<b.toNat else 0#64
def ZF:I0:=#[I Zh 0,I Zh 0,I Zh 0,I Zh 0,I Zh 0,I Zh 0,I Zh 0,I Zh 0,I Zh 0,I Zh 0,I Zh 0,I Zh 0,Za Zl,I Zh 0,I Zh 0,I Zh 0,Za Zl,Za Zl,Za Zl,Za Zl]
def Cb(a:List (Nat×I7)):c_.built 202 a=Instr.fill (λi=>(#[(0,12),(12,1),(13,1),(14,1),(15,1),(16,4)]:Array (Nat×Nat))[i]?) ZF a:=WR
def vC(M:I0)(wh:Bool)(own oth beh:BitVec 64)(fc:I5):I0:=M++#[Za wh,I Zh (U own),I Zh (U oth),I Zh (U beh),Za (fc 0),Za (fc 1),Za (fc 2),Za (fc 3)]
def xl(h:M.size=12){own a beh:BitVec 64}:(vC M wh own a beh fc).size=20:=by simp[vC,h]
def Ef{m:I8}(h:jS m M)(wh:Bool)(own b beh:BitVec 64)(fc:I5):pO m wh own b beh fc (vC M wh own b beh fc):=by
 have a:=h.1;refine⟨xl h.1,λi d=>?_,?_,?_,?_,?_,λi d=>?_⟩
 .rw[vC,Xx O];exact h.2 i d
 .rw[vC,Yw O,a];rfl
 .rw[vC,Yw O,a];rfl
 .rw[vC,Yw O,a];rfl
 .rw[vC,Yw O,a];rfl
 have:i=0\/i=1\/i=2\/i=3:=O;rcases this with rfl|rfl|rfl|rfl<;>(rw[vC,Yw O,a];rfl)
def tI(h:M.size=12)(wh:Bool)(own a beh x:BitVec 64)(fc:I5):(vC M wh own a beh fc).setIfInBounds 15 (I Zh (U x))=vC M wh own a x fc:=by simp_all[xl,qI,vC,qF]
def Cs:ZF.size=20:=R
def qzw(M:I0)(b:M.size=12)(wh:Bool)(own a:BitVec 64)(fc:I5):c_.built 202 [(0,M),(1,wh),(2,I Zh (U own)),(3,I Zh (U a)),(5,Zc #[fc 0,fc 1,fc 2,fc 3])]=vC M wh own a 0#64 fc:=by
 rw[Cb];have f:=zo 0 M ZF;have p1:=zo 12 #[wh] (P_ 0 M ZF);have p2:=zo 13 #[I Zh (U own)] (P_ 12 #[wh] (P_ 0 M ZF));have p3:=zo 14 #[I Zh (U a)] (P_ 13 #[I Zh (U own)] (P_ 12 #[wh] (P_ 0 M ZF)));have p4:=zo 16 #[fc 0,fc 1,fc 2,fc 3] (P_ 14 #[I Zh (U a)] (P_ 13 #[I Zh (U own)] (P_ 12 #[wh] (P_ 0 M ZF))));have z:=Cs;rw[xv _ _ 0 0 12 _ _ R (by simpa[Value.cells]using b) O,
  xv _ _ 1 12 1 _ _ R R Vl,xv _ _ 2 13 1 _ _ R R Vl,
  xv _ _ 3 14 1 _ _ R R Vl,xv _ _ 5 16 4 _ _ R R Vl]
 simp only[Instr.fill,Value.cells,Xh];apply YV;intro i;rw[p4.2 i WX,p3.2 i WX,p2.2 i WX,p1.2 i WX,f.2 i O];by_cases d:i<12
 .rw[qF O,qF O,qF O,qF O,qI ⟨O,O⟩,vC,Xx O];simp
 rw[vC,Yw O,b];by_cases e:i<20
 .have:i=12\/i=13\/i=14\/i=15\/i=16\/i=17\/i=18\/i=19:=O;rcases this with rfl|rfl|rfl|rfl|rfl|rfl|rfl|rfl<;>simp[ZF]<;>decide +kernel
 rw[qF WX,qF WX,qF WX,qF WX,qF O,Z6 O,Z6 WX]
def BB{d:Array Oper}{o:Oper}{a:Act}{S:I6->Prop}(g:Region.wanted o (yielded d a.tmps)=Zk)(t:TypeId)(b:Array (Nat×Operand))(f:o.op=.build t b)(cells:I0)(e:c_.built t (b.map λ(i,x)=>(i,a.eval x)).toList=some cells):YieldsIf c_ d S o cells a:=Zi ⟨g,λw _=>by
 unfold execOp;simp only[f,Sem.run_bind,run_build w t _ cells e,XV];rfl⟩
structure ar(z:I2)(wh:Bool)(fc:I5)(w:I6)(PA:I0)(B3:Nat)(M:I0)(W:I6):Prop where
 pa:W.heap[w.heap.size]?=S (Z PA 70)
 me:vh B3 M W
 res:W.heap[w.heap.size+1]?=S (Z ZF 202)
 gr:Gr w W
 wh:W.cell? ⟨w.heap.size,64,N⟩=S (Za wh)
 c0:W.cell? ⟨w.heap.size,65,N⟩=S (Za (fc 0))
 c1:W.cell? ⟨w.heap.size,66,N⟩=S (Za (fc 1))
 c2:W.cell? ⟨w.heap.size,67,N⟩=S (Za (fc 2))
 c3:W.cell? ⟨w.heap.size,68,N⟩=S (Za (fc 3))
end
section
variable {z:I2}{wh:Bool}{fc:I5}{w W W':I6}{PA:I0}{B3:Nat}{M:I0}
def ar.next(h:ar z wh fc w PA B3 M W)(g:Gr W W'):ar z wh fc w PA B3 M W':=by have b:=(qB.1 h.pa).1;have a:∀i,W'.cell? ⟨w,i,N⟩=W.cell? ⟨w,i,N⟩:=λi=>ZW g (p:=⟨w,i,N⟩) b;exact⟨(Zz g b).trans h.pa,h.me.gr g,ZE g h.res,o_ h.gr g,by rw[a];exact h.wh,by rw[a];exact h.c0,by rw[a];exact h.c1,by rw[a];exact h.c2,by rw[a];exact h.c3⟩
def ar.drew(h:ar z wh fc w PA B3 M W):ar z wh fc w PA B3 M W.drew:=h.next ZO.drew
def ar.alloc(h:ar z wh fc w PA B3 M W)(A:I0)(t:TypeId):ar z wh fc w PA B3 M (W.alloc (Z A t)):=h.next ZN
def fS(h:ar z wh fc w PA B3 M W):(W.alloc (Z ZF 202)).heap[W.heap.size]?=Z ZF 202/\w+1<W.heap.size/\B3<W:=⟨Zv,(qB.1 h.res).1,h.me.1⟩
def ar.put(h:ar z wh fc w PA B3 M W)(e:w+1<g)(d:B3<g)(A:I0):ar z wh fc w PA B3 M (W.setRow g A):=by have a:∀i,(W.setRow g A).cell? ⟨w,i,N⟩=W.cell? ⟨w,i,N⟩:=λi=>cell_setRow_other _ _ _ _ (show w≠g from O);exact⟨by rw[Zu O];exact h.pa,⟨by rw[Xa];exact h.me.1,λj v b=>by rw[cell_setRow_other _ _ _ _ (show B3≠g from O)];exact h.me.2.1 j v b,h.me.2.2⟩,by rw[Zu O];exact h.res,h.gr.setRow _ O _,by rw[a];exact h.wh,by rw[a];exact h.c0,by rw[a];exact h.c1,by rw[a];exact h.c2,by rw[a];exact h.c3⟩
end
def Ep{g:Int}(r:jE z wh fc b h g PA):(PA.toList.take 64).toArray.size=64/\∀i,i<64->(PA.toList.take 64).toArray[i]?=I Zg (z i).toNat:=by exact IG
def aJ{g:Int}(r:jE z wh fc b h g PA)(b7:xO z=Zk)(d2:-1<=b)(d3:b<=63)(w:I6):i_ c_ 129 #[Zc PA] w λe w'=>∃FA,e=Zd (Zc FA)/\pO (xD z 64) wh (xZ (xD z 64) wh) (xZ (xD z 64) (!wh)) (vV b) fc FA/\Gr w w':=by
 obtain⟨bs,bA⟩:=Ep r;have Q:=X (λW=>db b7 bs bA W);obtain⟨x1,x2⟩:=x6 w (Z PA 70) (Z ZF 202);have b1:Gr w ((w.alloc (Z PA 70)).alloc (Z ZF 202)):=ZN.al;have a0:((w.alloc (Z PA 70)).alloc (Z ZF 202)).heap.size=w.heap.size+2:=WU;have f3:((w.alloc (Z PA 70)).alloc (Z ZF 202)).rangeAt w.heap.size 0 (PA.toList.take 64):=λj v hv=>by
  rw[Zs x1,Z2];rw[Yv]at hv;split at hv
  .rw[<-qO];exact hv
  .cases hv
 have P:(c_.info? 67).map (·.size)=S (PA.toList.take 64).length:=by rw[x7];simp[r.size]
 have hr:=X r;clear r;generalize (PA.toList.take 64)=f4 at Q f3 P;go_in;go_upto_region 2 with(first|(go_at_call 126;refine(Q.a _).mono ?_;rintro e w3 ⟨M,rfl,b5,f0⟩)|(refine Yo R 67 _ R w.heap.size 0 R f4 _ f3 t_ rfl P ?_)|(refine ZU R 197 _ _ R _ M R R 197 yI Zv b5.info b5.1.symm b5.ones ?_));have f:=X b5.1;have d1:=X b5;generalize f2:w3.heap.size=d5;have c4:w.heap.size+2<=d5:=by rw[<-f2,<-a0];exact ZR f0
 have f1:ar z wh fc w PA d5 M ((w3.alloc (Z yI 197)).setRow w3.heap.size M):=by
  have y1:=(YG f0 w.heap.size (show w.heap.size<((w.alloc (Z PA 70)).alloc (Z ZF 202)).heap.size by rw[a0];omega)).trans x1;have y2:=(YG f0 (w.heap.size+1) (show w.heap.size+1<((w.alloc (Z PA 70)).alloc (Z ZF 202)).heap.size by rw[a0];omega)).trans x2;have a8:Gr w3 ((w3.alloc (Z yI 197)).setRow w3.heap.size M):=ZN.setRow _ Zy _;have k1:=(Zz a8 O).trans y1;have k2:=(Zz a8 O).trans y2;refine⟨k1,?_,k2,o_ (o_ b1 f0) a8,?_,?_,?_,?_,?_⟩
  .rw[<-f2];exact jt (Zt Zv) b5.1
  .rw[Zs k1];exact hr.a.wh
  .rw[Zs k1];exact hr.a.c 0 O
  .rw[Zs k1];exact hr.a.c 1 O
  .rw[Zs k1];exact hr.a.c 2 O
  .rw[Zs k1];exact hr.a.c 3 O
 rw[f2]at f1;show n_ _ _ _ _ ((w3.alloc (Z yI 197)).setRow d5 M);generalize (w3.alloc (Z yI 197)).setRow d5 M=w4 at f1|-;have E:Y ((vC M wh (xZ (xD z 64) wh) (xZ (xD z 64) (!wh)) 0#64 fc).all (·.oneCell')=Zk):=X (by unfold vC;rw[Wo,b5.ones];simp[Value.oneCell']);have a1:=X (λW=>jp (xD z 64) M b5 wh W);have F:=X (λW=>jp (xD z 64) M b5 (!wh) W);have D:Y (∀x:BitVec 64,pO (xD z 64) wh (xZ (xD z 64) wh) (xZ (xD z 64) (!wh)) x fc (vC M wh (xZ (xD z 64) wh) (xZ (xD z 64) (!wh)) x fc)):=X (λx=>Ef b5 wh _ _ x fc);clear b5 f3 P Q bs bA x1 x2 b1 a0 f0 f2;generalize b0:xZ (xD z 64) wh=p at a1 D E;generalize a9:xZ (xD z 64) (!wh)=o at F D E;have a3:=X b0;have a2:=X a9;clear b0 a9;go_cut [5]from 12 to 26 (λs5 wx=>∃G,s5=ZI G/\wx.heap[G]?=S (Z (vC M wh p o 0#64 fc) 202)/\w.heap.size+1<G/\ar z wh fc w PA d5 M wx)
 case first=>
  refine ZT (S:=ar z wh fc w PA d5 M) WR f1.drew (λd=>?_);refine ty 0 (Zc M) R (pd f.a Vb _ R d5 R (λ_ h=>h.me)) d ?_;refine ZB 1 (.pointer (S ⟨w.heap.size,64,N⟩)) R (λw a=>Vf) d ?_;refine ZB 2 (Za wh) R (λw a=>Vf) d ?_;refine ty 3 (Zc M) R (pd f.a Vb _ R d5 R (λ_ h=>h.me)) d ?_;refine ZB 4 (.pointer (S ⟨w.heap.size,64,N⟩)) R (λw a=>Vf) d ?_;refine ZB 5 (Za wh) R (λw a=>Vf) d ?_;refine ty 7 (Zc M) R (pd f.a Vb _ R d5 R (λ_ h=>h.me)) d ?_;refine ZB 8 (.pointer (S ⟨w.heap.size,64,N⟩)) R (λw a=>Vf) d ?_;refine ZB 9 (Za wh) R (λw a=>Vf) d ?_;refine ZB 10 (Za (!wh)) R (λw a=>Vf) d ?_;refine ZB 12 (.pointer (S ⟨w.heap.size,65,N⟩)) R (λw a=>Vf) d ?_;refine ZB 13 (Zc #[Za (fc 0),Za (fc 1),Za (fc 2),Za (fc 3)]) R (λw a=>Vf) d ?_;refine Xk (rs:=[6,15]) WR WU ?_;refine Yc R (λK hK=>?_) (Yc R (λK hK=>?_) Xb);go_simp;refine Z0 (a1.a _) λwa k=>?_;refine hK.out _ _ (d.next k) λd=>?_;clear hK K k;refine Xk (rs:=[11,15]) WR WU ?_;refine Yc R (λK hK=>?_) (Yc R (λK hK=>?_) Xb);go_simp;refine Z0 (F.a _) λwa k=>?_;refine hK.out _ _ (d.next k) λd=>?_;clear hK K k;refine ty 14 (Zc (vC M wh p o 0#64 fc)) R (BB Vb 202 #[(0,.tmp 12),(1,.tmp 14),(2,.tmp 18),(3,.tmp 23),(5,.tmp 25)] R _ VL) d ?_;refine rd 15 λK hK=>?_;go_simp;have l:=d;refine hK.out _ _ (d.alloc _ _) λd=>?_;have i:=fS l;clear hK K l;rotate_left;go_simp;have l:=d;refine hK.out _ _ (d.alloc _ _) λd=>?_;have i:=fS l;clear hK K l;refine rd 11 λK hK=>?_;go_simp;refine Z0 (F.a _) λwa k=>?_;refine hK.out _ _ (d.next k) λd=>?_;replace i:=YB (ZE k i.1) i.2;clear hK K k;refine ty 14 (Zc (vC M wh p o 0#64 fc)) R (BB Vb 202 #[(0,.tmp 12),(1,.tmp 14),(2,.tmp 18),(3,.tmp 23),(5,.tmp 25)] R _ VL) d ?_;rotate_left;go_simp;have l:=d;refine hK.out _ _ (d.alloc _ _) λd=>?_;have i:=fS l;clear hK K l;refine rd 6 λK hK=>?_;go_simp;refine Z0 (a1.a _) λwa k=>?_;refine hK.out _ _ (d.next k) λd=>?_;replace i:=YB (ZE k i.1) i.2;clear hK K k;refine rd 11 λK hK=>?_;go_simp;refine Z0 (F.a _) λwa k=>?_;refine hK.out _ _ (d.next k) λd=>?_;replace i:=YB (ZE k i.1) i.2;clear hK K k;refine ty 14 (Zc (vC M wh p o 0#64 fc)) R (BB Vb 202 #[(0,.tmp 12),(1,.tmp 14),(2,.tmp 18),(3,.tmp 23),(5,.tmp 25)] R _ VL) d ?_;all_goals
   refine rd 16 λK hK=>?_;rw[qI Vb];refine YQ 202 _ _ R _ (vC M wh p o 0#64 fc) R R 202 ZF i.1 On (by rw[xl f.a];rfl) E.a ?_;refine hK.out _ _ (d.put i.2.1 i.2.2 _) λd=>?_;clear hK K;simp only[py];refine ZZ WR ?_ _;go_wp2;go_meet
   case rel=>exact⟨_,R,Zt i.1,i.2.1,d⟩
 case rest=>
  obtain⟨G,rfl,i,c6,hF⟩:=hcut;have d0:Y (ar z wh fc w PA d5 M wc):=X hF;have cb:wc.cell? ⟨w.heap.size,69,N⟩=S (I L b):=by rw[Zs hF.pa];exact hr.a.b
  have T:=hF.res;have b2:=hF.gr;clear hF a1 F f1;by_cases hb:0<=b
  .obtain⟨n,rfl⟩:∃n:Nat,b=(n:Int):=⟨b.toNat,O⟩;have hn:n<64:=O;have a5:=X (λW=>A9 (n:Int) O O W);rw[rp n hn]at a5;have a7:Y (vV (n:Int)=1#64<<<n):=X (by unfold vV;rw[qI hb];simp);have c5:wc.cell? ⟨G,15,N⟩=S (I Zh (U 0#64)):=(by rw[Zs i,vC,Yw (by rw[f.a];omega),f.a];rfl);have f5:wc.frozen? ⟨G,15,N⟩=Zl:=(by simp[World.frozen?,i]);have a6:(wc.setCell ⟨G,15,N⟩ (I Zh (U (1#64<<<n)))).heap[G]?=S (Z (vC M wh p o (1#64<<<n) fc) 202):=(by rw[qv i,tI f.a]);have H:(wc.setCell ⟨G,15,N⟩ (I Zh (U (1#64<<<n)))).heap[w.heap.size+1]?=S (Z ZF 202):=(by rw[Yg _ _ _ _ (show w.heap.size+1≠G from O)];exact T);have a4:Gr w (wc.setCell ⟨G,15,N⟩ (I Zh (U (1#64<<<n)))):=Yr b2 (show w.heap.size<=G from O) _;have b3:Y ((vC M wh p o (1#64<<<n) fc).all (·.oneCell')=Zk):=X (by have:=E.a;unfold vC at this|-;rw[Wo]at this|-;simp[Value.oneCell']at this|-;exact this);go_upto_region 5 with(go_at_call 204;refine Z1 (a5.a _) ?_);generalize (wc.setCell ⟨G,15,N⟩ (I Zh (U (1#64<<<n))))=wz at a6 H a4|-;have m:(c_.info? 202).map (·.size)=S (vC M wh p o (1#64<<<n) fc).size:=On;have V:ZF.size=(vC M wh p o (1#64<<<n) fc).size:=(by rw[xl f.a];rfl);have J:=X (D.a (1#64<<<n));generalize vC M wh p o (1#64<<<n) fc=b4 at a6 m V b3 J;go_wp2_with(first|(refine ZV R 202 _ R G R 202 b4 (0,0) _ a6 underlying202 rfl m ?_)|(refine ZU R 202 _ _ R (w.heap.size+1) b4 R R 202 ZF H m V b3.a ?_));exact ZS (v:=Zc b4) (Yp results129 _ _ (w.heap.size+1) 202 b4 (0,0) _ R (Zt H) underlying202 rfl m) R ⟨b4,R,(by rw[a7.a,a3.a,a2.a];exact J.a),a4.setRow _ O _⟩
  .have b6:b=-1:=O;have a7:Y (vV b=0#64):=X (by unfold vV;rw[qF hb]);have m:(c_.info? 202).map (·.size)=S (vC M wh p o 0#64 fc).size:=On;have V:ZF.size=(vC M wh p o 0#64 fc).size:=(by rw[xl f.a];rfl);have J:=X (D.a 0#64);have d4:Zm (0<=b)=Zl:=WX;clear b6 hb D;generalize vC M wh p o 0#64 fc=b4 at i m V E J;go_wp2_with(first|(refine ZV R 202 _ R G R 202 b4 (0,0) _ i underlying202 rfl m ?_)|(refine ZU R 202 _ _ R (w.heap.size+1) b4 R R 202 ZF T m V E.a ?_));exact ZS (v:=Zc b4) (Yp results129 _ _ (w.heap.size+1) 202 b4 (0,0) _ R (Zt T) underlying202 rfl m) R ⟨b4,R,(by rw[a7.a,a3.a,a2.a];exact J.a),b2.setRow _ O _⟩
def v7(wh:Bool)(k:Nat):Nat:=if k=0 then(if wh then 1 else 2)else k+2
def GL(wh:Bool)(k:Nat):vA (!wh) k=((v7 wh k:Nat):Int):=by unfold vA v7;cases wh<;>split<;>simp_all
def bE(m:I8)(wh:Bool)(beh:BitVec 64)(k f t:Nat):List Mv:=if kE m wh beh k f t then xT (Zm (k=0)) f t else[]
def kF(m:I8)(wh:Bool)(own oth beh:BitVec 64)(fc:I5)(k f:Nat):List Mv:=(vD (kN m wh own oth beh fc k (v7 wh k) f)).flatMap (bE m wh beh k f)
def yN(m:I8)(wh:Bool)(own oth beh:BitVec 64)(fc:I5)(k:Nat):List Mv:=(vD (m (bg wh+k))).flatMap (kF m wh own oth beh fc k)
def zH(m:I8)(wh:Bool)(own oth beh:BitVec 64)(fc:I5)(k:Nat):List Mv:=(h_ k).flatMap (yN m wh own oth beh fc)
def aI{α β:Type}{a b:List α}(f:α->List β)(h:a <+:b):a.flatMap f <+:b.flatMap f:=by obtain⟨r,rfl⟩:=h;rw[Xj];exact Xz _ _
def qx0{α β:Type}{a b:List α}{x:α}(f:α->List β)(h:a++[x] <+:b):a.flatMap f++f x <+:b.flatMap f:=by have:=aI f h;exact OY
def oP(m:I8)(wh:Bool)(own a beh:BitVec 64)(fc:I5)(b:k<6):zH m wh own a beh fc k++yN m wh own a beh fc k <+:zH m wh own a beh fc 6:=by
 have:h_ k++[k]<+:h_ 6:=by refine⟨(h_ 6).drop (k+1),?_⟩;have:k=0\/k=1\/k=2\/k=3\/k=4\/k=5:=O;rcases this with rfl|rfl|rfl|rfl|rfl|rfl<;>decide
 exact qx0 (yN m wh own a beh fc) this
def uK(D:Nat):Deferred:={ target:=.collected D,args:=#[] }
def zY(B:Nat)(Ds:List Nat)(w:I6):Prop:=Ds.Nodup/\∀D∈Ds,B<=D/\w.heap[D]?=S (.deferred (S []))
def zY.fr{a:List Nat}(h:zY B a w)(f:Fr Q w w')(b:∀k o,B<=k->o.isCells=Zl->w.heap[k]?=S o->k∈a->Q k o):zY B a w':=⟨h.1,λD hD=>⟨(h.2 D hD).1,f.same _ _ (h.2 D hD).2 (b _ _ (h.2 D hD).1 R (h.2 D hD).2 hD)⟩⟩
def xc{j:Func}(h:j.results=#[]){tmps:I0}{p:Ending->I6->Prop}{T:Obj->Prop}(l:∀o,T o->o.isCells=Zk):∀(b:List Nat)(w:I6),zY B b w →(∀v w',Fr (yv B T) w w'->p (Zd v) w')->LeavesInM Fence.wide n c_ j tmps p (b.map uK) .returning w:=by
 intro b;induction b with
 | nil=>
  intro w _ hR;exact⟨_,XS h _ _ _,hR _ _ ZP⟩
 | cons D b ih=>
  intro w d hR;obtain⟨m,hD⟩:=d.2 D WU
  have f:Fr (yv B T) w (w.putObj D (.deferred N)):=ZP.putObj _ (λo e q=>by
   rw[hD]at e;cases e;obtain q|q:=q
   .omega
   have:=l _ q;cases this)
  refine⟨WU,Zi ⟨D,_,R,YU hD,ih _ ⟨(X6.1 d.1).2,λg a=>⟨(d.2 g (Xg _ a)).1,?_⟩⟩ (λv w' k=>hR v w' (f.trans k))⟩⟩;have i:g≠D:=λe=>(X6.1 d.1).1 (e▸a);exact(Xw i).trans (d.2 g (Xg _ a)).2
def jl{F:Fence}{i:Array Oper}{d:List Oper}{o:Oper}{a:Act}{g:I0}{Q:Exit->Act->I6->Prop}(l:o.guard=N)(x:Operand)(j:o.op=.load 202 x)(b:Nat)(q:a.eval x=ZI b)(r:g.size=20)(m:yk b g w)(h:wpListIn F n c_ i Q d (a.put o.dst g) w):wpListIn F n c_ i Q (o::d) a w:=
 wpListIn_plain l λK hK=>by
  refine⟨λf k=>?_,?_⟩
  .simp[Oper.about,j]at k
  rw[Oper.semAt_eq _ _ _ (by rw[j];intro c e;cases e)];have p:(execOp a.eval o).run c_ w=.ok (.value g) w:=by have:=run_loadVar_mid (P:=c_) w b 0 202 g.toList _ m.2 underlying202 rfl (by rw[ky];simp[r]);rw[Yb]at this;unfold execOp;simp only[j,q,Instr.loadAt,Instr.sureAddr,Sem.run_bind,Sem.run_pure,XV,this]
  rw[p,Oper.uponIn_value];exact hK _ _ h
def pO.ones{m:I8}{own e beh:BitVec 64}{f:I0}(r:pO m wh own e beh fc f):f.all (·.oneCell')=Zk:=by
 rw[Array.all_eq_true];intro i a;have g:=r.size;by_cases d:i<12
 .have:=r.men i d;exact OE
 have b:i=12\/i=13\/i=14\/i=15\/i=16+0\/i=16+1\/i=16+2\/i=16+3:=O;obtain rfl|rfl|rfl|rfl|rfl|rfl|rfl|rfl:=b
 .have:=r.wh;exact OE
 .have:=r.own;exact OE
 .have:=r.oth;exact OE
 .have:=r.beh;exact OE
 .have:=r.c 0 O;exact OE
 .have:=r.c 1 O;exact OE
 .have:=r.c 2 O;exact OE
 have:=r.c 3 O;exact OE
structure Mk(l B Wb Bf:Nat)(FA:I0)(Ds:List Nat)(W:I6):Prop where
 yb:W.heap[Wb]?=S (Z #[.func (.yield l) #[] #[]] 143)
 fb:W.heap[Bf]?=S (Z FA 202)
 ms:zY B Ds W
 tb:jF W
 ct:jQ W
def jF.fr(h:jF w)(f:Fr Q w w')(a:∀o,Q 2 o):jF w':=⟨h.1.fr f a,qN h.2 f.size⟩
def jQ.fr(h:jQ w)(f:Fr Q w w')(a:∀o,Q 3 o):jQ w':=⟨λj v b=>f.cell (h.1 j v b) (λo _=>a o),qN h.2 f.size⟩
def Mk.fr{Bf:Nat}{e:I0}{b:List Nat}{g:I6}(h:Mk l B d Bf e b W)(f:Fr Q W g)(a:∀k o,(k=d\/k=Bf\/k∈b\/k=2\/k=3)->Q k o):Mk l B d Bf e b g:=⟨f.same _ _ h.yb (a _ _ (Zi R)),f.same _ _ h.fb (a _ _ (Zj (Zi R))),h.ms.fr f (λk o _ _ _ i=>a k o (Zj (Zj (Zi i)))),h.tb.fr f (λo=>a _ o (Zj (Zj (Zj (Zi R))))),h.ct.fr f (λo=>a _ o (Zj (Zj (Zj (Zj R)))))⟩
def Fr.ext{R:Nat->Obj->Prop}{b c:I6}(h:Fr Q a b)(f:Fr R b c)(i:∀k o,a.heap[k]?=S o->Q k o->R k o):Fr Q a c:=⟨f.os.trans h.os,f.tape.trans h.tape,f.output.trans h.output,q7 h.size f.size,λk o e q=>f.same k o (h.same k o e q) (i k o e q)⟩
def pj(f t k:Nat)(a:k<4):(h_ (k+1)).map (λi=>((f,t,uA i):Mv)) <+:[(f,t,113),(f,t,114),(f,t,98),(f,t,110)]:=by
 have:k=0\/k=1\/k=2\/k=3:=O;obtain rfl|rfl|rfl|rfl:=this
 .exact⟨[(f,t,114),(f,t,98),(f,t,110)],R⟩
 .exact⟨[(f,t,98),(f,t,110)],R⟩
 .exact⟨[(f,t,110)],R⟩
 exact⟨[],R⟩
def AM(a f t:Nat)(P:a<6)(H:t<64)(l B:Nat)(T:Obj->Prop)(C:Nat->Prop)(A:∀c fr,¬T (Z c 5 fr))(J w:List Mv->I6->Prop)(M:vu B T J)(y g:List Mv)(b:g++xT (Zm (a=0)) f t <+:y)(G:∀j x o,j++[x] <+:y->J j o->YieldAt Fence.wide 0 c_ l (vr x) o λe d=>Fr (jM B T C) o d/\((e=Zd Zk/\J (j++[x]) d)\/(e=Zd Zl/\w (j++[x]) d)))(W:I6) (L:B<=W) (F:J g W):i_ c_ 135 #[I .i64 a,I .i64 f,I .i64 t,.func (.yield l) #[] #[]] W λe d=>Fr (jM B T C) W d/\((e=Zd Zk/\J (g++xT (Zm (a=0)) f t) d)\/(e=Zd Zl/\∃q,q <+:y/\w q d)):=by
 by_cases E:(Zm (a=0)&&kP.getLsbD t)=Zk
 .have h:=E;rw[qH]at h;have z:=q8 h.1;have D:=h.2;subst z;have K:xT (Zm (0=0)) f t=(h_ 4).map λi=>((f,t,uA i):Mv):=by rw[xT,E,qI R];rfl
  rw[K]at b|-;have v:∀k,k<4->g++(h_ (k+1)).map (λi=>((f,t,uA i):Mv))<+:y:=λk r=>(Xq g).2 (pj f t k r) |>.trans b;refine(oC f t H D l B T C A J w M g W L (λk o r V=>?_) F).mono ?_
  .have:=G (g++(h_ k).map λi=>(f,t,uA i)) (f,t,uA k) o (by
    have:=v k r
    rwa[YI,Ys,<-qS]at this) V
   rw[YI,Ys,<-qS];exact this
  rintro e d ⟨p,⟨m,n⟩|⟨m,k,r,n⟩⟩
  .exact⟨p,Zi ⟨m,n⟩⟩
  exact⟨p,Zj ⟨m,_,v k r,n⟩⟩
 have u:(Zm (a=0)&&kP.getLsbD t)=Zl:=by simpa using E
 have Q:xT (Zm (a=0)) f t=[(f,t,0)]:=by rw[xT,u];rfl
 rw[Q]at b|-;refine(AL a f t P H u l B T C J w g W (G g _ W b F)).mono ?_;rintro e d ⟨p,⟨m,n⟩|⟨m,n⟩⟩
 .exact⟨p,Zi ⟨m,n⟩⟩
 exact⟨p,Zj ⟨m,_,b,n⟩⟩
def EL(wh:Bool)(k:Nat)(h:k<6):1<=v7 wh k/\v7 wh k<=7:=by unfold v7;cases wh<;>split<;>simp<;>omega
def qbV(X:Act->I6->Prop):Exit->Act->I6->Prop
 | .ret,a,w=>X a w
 | _,_,_=>False
def S5(Bf:Nat)(FA:I0)(S k:Nat)(W:I6):Prop:=yk Bf FA W/\W.cell? S=some (I L k)
def S5.alloc{Bf:Nat}{a:I0}{S:Nat}(h:S5 Bf a S k W)(A:I0)(t:TypeId):S5 Bf a S k (W.alloc (Z A t)):=⟨h.1.gr ZN,(ZW ((q_ W).alloc A t) (Ye W _ h.2)).trans h.2⟩
def MvI(m:I8)(wh:Bool)(own oth beh:BitVec 64)(fc:I5)(l B Bp Wb Bf:Nat)(PA FA:I0)(J:List Mv->I6->Prop)(gk:Nat)(a:Act)(wr:I6):Prop:=∃(k:Nat)(Ds:List Nat)(u4 u5 u6 u7 u14 u15 u16 u17 u18 u19 u20 u21 u22 u23 u24 u25 u26 u27 u28 u29 u30 u31 u32 u33 u34 u35 u36 u37 u38 u39 u40 u41 u42 u43 u44 u45 u46 u47:I7),k+gk=6/\a={ tmps:=#[.func (.yield l) #[] #[],ZI Bp,ZI Wb,ZI Bf,u4,u5,u6,u7,Zc PA,Zc FA,.pointer (S ⟨Bf,12,N⟩),Za wh,Zc (zR (!wh)),I L k,u14,u15,u16,u17,u18,u19,u20,u21,u22,u23,u24,u25,u26,u27,u28,u29,u30,u31,u32,u33,u34,u35,u36,u37,u38,u39,u40,u41,u42,u43,u44,u45,u46,u47],defers:=Ds.map uK }/\Mk l B Wb Bf FA Ds wr/\J (zH m wh own oth beh fc k) wr
def mY{m:I8}{own b beh:BitVec 64}(hsz:PA.size=72)(f5:∀W:I6,i_ c_ 129 #[Zc PA] W λe w'=>∃i,e=Zd (Zc i)/\pO m wh own b beh fc i/\Gr W w')(Bp:Nat)(T:Obj->Prop)(n4:∀o,T o->∃c fr,o=Z c 87 fr)(w:I6)(hp:w.heap[Bp]?=S (Z PA 70)) (hT:jF w) (hC:jQ w):It c_ 128 #[ZI Bp] vr T (λk=>k=Bp\/k=2\/k=3) (zH m wh own b beh fc 6) w:=by
 intro l B J Jx W f0 hB hJ g1 hY h0;have r5:=f0.same _ _ hp (Zi R);have n3:=hT.fr f0 (λ_=>Zj (Zi R));have l3:=hC.fr f0 (λ_=>Zj (Zj R));have a1:∀o,T o->o.isCells=Zk:=λo ho=>by obtain⟨c,fr,rfl⟩:=n4 o ho;rfl
 refine(ZY (n:=9)).1 ?_;refine callsIn_of_wp_marks func128 rfl x_ ?_ R;simp only[ntmps128,Nat.reduceAdd,Nat.reduceSub,Zr];apply Z9.2;have p7:=X f5;have f7:(c_.info? 70).map (·.size)=S PA.size:=by rw[hsz];exact jJ
 have g9:=X (λW=>gQ (!wh) W);rw[Bool.not_not]at g9;go_upto_region 2 with(first|(go_at_call 129;refine(p7 _).mono ?_;rintro e Q ⟨i,rfl,hF,b6⟩)|(refine ZV rfl 70 _ rfl Bp rfl 70 PA (0,0) _ (Fr.same ((Fr.refl (λ_ _=>True) W).alloc _) _ _ r5 x_) s_ rfl f7 ?_)|(refine ZU R 202 _ _ R _ i R R 202 ZF Zv (by rw[hF.size];exact ky) (by rw[hF.size];rfl) (pO.ones hF) ?_));have Bn:((Q.alloc (Z ZF 202)).setRow Q i).heap[Q.heap.size]?=Z i 202:=Zt Zv;have g6:Gr Q ((Q.alloc (Z ZF 202)).setRow Q i):=ZN.setRow _ Zy _;show n_ _ _ _ _ ((Q.alloc (Z ZF 202)).setRow Q i);have g5:Gr W (W.alloc (Z #[.func (.yield l) #[] #[]] 143)):=ZN;have a2:=o_ g5 (o_ b6 g6);have b0:((Q.alloc (Z ZF 202)).setRow Q.heap.size i).heap[W.heap.size]?=S (Z #[.func (.yield l) #[] #[]] 143) :=
  (YG (o_ b6 g6) W.heap.size Vj).trans (ZQ W _)
 have v0:B<=Q:=q7 hB (q7 (ZR g5) (ZR b6));generalize (Q.alloc (Z ZF 202)).setRow Q i=w4 at Bn b0 a2|-;generalize x3:W=As at b0 hB|-;generalize Q.heap.size=Bf at Bn v0|-;have h4:=hJ _ _ _ h0 (p_ a2);have n0:=n3.gr a2;have k9:=l3.gr a2;have d:=X hF;have b1:=X hF.size;have t5:w4.cell? ⟨Bf,12,N⟩=Za wh:=by rw[Zs Bn];exact hF.wh
 go_wp2_with(go_at_call 130;refine(g9 _).mono ?_;rintro e w5 ⟨rfl,Bg⟩);have n1:=n0.gr Bg;have l0:=k9.gr Bg;have l5:=hJ _ _ _ h4 (p_ Bg);have s7:=ZE Bg Bn;have s8:=ZE Bg b0;have x4:=X hY;refine Z9.1 (wpIn_loop_ghost (rm:=9) (MvI m wh own b beh fc l B Bp As Bf PA i J) 6 ?start ?round)
 case start=>exact⟨0,[],m_,m_,m_,m_,m_,m_,m_,m_,m_,m_,m_,m_,m_,m_,m_,m_,m_,m_,m_,m_,m_,m_,m_,m_,m_,m_,m_,m_,m_,m_,m_,m_,m_,m_,m_,m_,m_,m_,R,R,⟨s8,s7,⟨List.nodup_nil,λD hD=>w_ hD XC⟩,n1,l0⟩,l5⟩
 case round=>
  rintro gk a wr ⟨k,z,u4,u5,u6,u7,u14,u15,u16,u17,u18,u19,u20,u21,u22,u23,u24,u25,u26,u27,u28,u29,u30,u31,u32,u33,u34,u35,u36,u37,u38,u39,u40,u41,u42,u43,u44,u45,u46,u47,hk,rfl,hM,g0⟩;by_cases a4:k<6
  .refine Code.wpIn_mono (Q:=Exit.then (λa' w'=>∃n',n'<gk/\MvI m wh own b beh fc l B Bp As Bf PA i J n' a' w') (qbV λa' w'=>LeavesInM Fence.wide 9 c_ Tryz.f128 a'.tmps (λe x=>(∃v,e=Zd v)/\(J (zH m wh own b beh fc 6) x\/∃g,g<+:zH m wh own b beh fc 6/\Jx g x)) a'.defers .returning w')) ?mono ?_
   case mono=>
    rintro e a' w' he;cases e with
    | normal=>exact he
    | ret=>exact he
    | exit id=>exact he.elim
    | goto t=>exact he.elim
    | panic c=>exact he.elim
    | outgrown=>exact he.elim
   apply Z9.2;obtain⟨K,g3⟩:∃K:Act->I6->Prop,K=(λa' w'=>∃n',n'<gk/\MvI m wh own b beh fc l B Bp As Bf PA i J n' a' w'):=⟨_,R⟩;rw[<-g3];have m1:=X g3;have z4:=sn (!wh) k a4;rw[GL]at z4;have b5:=X hM;have m0:=X g0;have hk0:0<=(k:Int):=O;have r1:(k:Int)<6:=O;obtain⟨RQ,g4⟩:∃RQ:Act->I6->Prop,RQ=(λa' w'=>LeavesInM Fence.wide 9 c_ Tryz.f128 a'.tmps (λe x=>(∃v,e=Zd v)/\(J (zH m wh own b beh fc 6) x\/∃g,g<+:zH m wh own b beh fc 6/\Jx g x)) a'.defers .returning w'):=⟨_,R⟩;rw[<-g4];have m2:=X g4;go_upto_region 5 with fail;have x9:=X (λW=>FJ wh W);have z0:=io wh;have hop0:0<=(bg wh:Int)+(k:Int):=O;have hop1:(bg wh:Int)+(k:Int)<12:=O;have hwr:a_ L ((bg wh:Int)+(k:Int))=(bg wh:Int)+(k:Int):=Vc;obtain⟨x1,x2⟩:=x6 wr (Z #[k] 3) (Z #[(v7 wh k:Int)] 3);have g8:Gr wr ((wr.alloc (Z #[k] 3)).alloc (Z #[(v7 wh k:Int)] 3)):=ZN.al;have a7:((wr.alloc (Z #[k] 3)).alloc (Z #[(v7 wh k:Int)] 3)).heap.size=wr.heap.size+2:=WU;generalize ((wr.alloc (Z #[k] 3)).alloc (Z #[(v7 wh k:Int)] 3))=wA at x1 x2 g8 a7|-;have z2:yk Bf i wA:=(by have e:=ZE g8 b5.fb;exact⟨(qB.1 e).1,λj v hv=>by rw[Zs e,Z2,<-qO];exact hv⟩);have l4:S5 Bf i wr k wA.drew:=⟨z2.gr ZO.drew,(qi x1).1⟩;refine ZT (S:=S5 Bf i wr k) WR l4 (λqD=>?_);apply ZB 0 _ R (λw p=>Vd) qD;apply ZB 1 wh R (λw p=>Vd) qD;apply ZB 3 k R (λw p=>Vd) qD;apply ZB 5 _ R (λw p=>Vd) qD;apply Xk (rs:=[2]) WR WU;refine Yc R (λK2 hK=>?_) Xb;go_simp;refine(x9 _).mono ?_;rintro e wa ⟨rfl,s1⟩;have s2:=s1.symm;subst s2;clear s1;refine hK.out _ _ qD λqD=>?_;refine ZB 4 (I L ((bg wh:Int)+(k:Int))) R (λw p=>Vd) qD ?_;refine ZB 6 (.pointer (S ⟨Bf,bg wh+k,N⟩)) R (λw p=>Vd) qD ?_;refine ZB 7 (I Zh (U (m (bg wh+k)))) R (λw p=>Vd) qD ?_;apply Xk (rs:=[8]) WR WU;refine Yc R (λK2 hK=>?_) Xb;go_simp;refine(xn _ _).mono ?_;rintro e H ⟨rfl,Bl⟩;refine hK.out _ _ (by rw[Bl];exact qD.alloc _ _) λqD=>?_;refine ZZ WR ?_ _;go_wp2;have r0:Gr wr H:=(by rw[Bl];exact o_ g8 ((q_ wA).drew.alloc _ _));have hs6:H.heap.size=wr.heap.size+3:=(by rw[Bl,Z3];show wA.heap.size+1=_;rw[a7]);have f6:Gr wA H:=(by rw[Bl];exact(q_ wA).drew.alloc _ _);have k1:=(YG f6 wr O).trans x1;have k2:=(YG f6 (wr+1) O).trans x2;have z1:H.cell? ⟨wr+2,0,N⟩=I Zh (U (m (bg wh+k))):=(by have:=(qq5 wA.drew (I Zh (U (m (bg wh+k)))) 195).1;rw[<-Bl]at this;rw[<-a7];exact this);have k3:H.heap[wr.heap.size+2]?=Z #[I Zh (U (m (bg wh+k)))] 195:=(by have:=ZQ wA.drew (Z #[I Zh (U (m (bg wh+k)))] 195);rw[<-Bl]at this;rw[<-a7];exact this);have F:Mk l B As Bf i z H:=b5.fr (Q:=λ_ _=>True) (p_ r0) (λ_ _ _=>x_);have w1:=hJ _ _ _ m0 (p_ r0);have b4:∀D∈z,D<H.heap.size:=λD hD=>(qB.1 (F.ms.2 D hD).2).1;have v1:wA.drew.heap.size=wr.heap.size+2:=a7;rw[v1];have r7:As<H.heap.size:=(qB.1 F.yb).1;have r6:Bf<H:=(qB.1 F.fb).1;have k4:B<=H:=O;have mst:∀{A A':I6},Mk l B As Bf i z A->Fr (yv H.heap.size T) A A'->Mk l B As Bf i z A':=λh f=>h.fr f (λk o hk=>by
    apply Zi;obtain rfl|rfl|hk|rfl|rfl:=hk
    .exact r7
    .exact r6
    .exact b4 _ hk
    .exact F.tb.2
    exact F.ct.2)
   refine Z9.1 (xj (n:=9) (gf:=207) (lb:=#[ZI (wr.heap.size+2)]) R (YC func207 WR R)
    (o0 (m (bg wh+k)) (wr.heap.size+2) T H z1 F.tb.1) a1 (by rintro j (rfl|rfl);exact O;exact F.tb.2) ZP (λ_=>R)
    (λg W=>Mk l B As Bf i z W/\W.heap[wr.heap.size]?=S (Z #[I L k] 3)/\W.heap[wr.heap.size+1]?=S (Z #[I L (v7 wh k:Int)] 3)/\J (zH m wh own b beh fc k++g.flatMap (kF m wh own b beh fc k)) W/\W.heap[wr.heap.size+2]?=S (Z #[I Zh (U (m (bg wh+k)))] 195))
    (λc _ W=>c=.ret/\zY B z W/\∃q,q<+:zH m wh own b beh fc 6/\Jx q W)
    ?sI ?sX ⟨F,k1,k2,by simpa using w1,k3⟩ ?rnd ?done ?stop)
   case sI=>exact λs A A' h f=>⟨mst h.1 f,f.same _ _ h.2.1 (Zi O),f.same _ _ h.2.2.1 (Zi O),qo hJ k4 _ _ _ h.2.2.2.1 f,f.same _ _ h.2.2.2.2 (Zi O)⟩
   case sX=>exact λc s A A' h f=>⟨h.1,h.2.1.fr f (λj o _ _ _ V=>Zi (b4 _ V)),h.2.2.elim λq hq=>⟨q,hq.1,qo g1 k4 _ _ _ hq.2 f⟩⟩
   case done=>
    rintro D W2 hD ⟨u,_,_,f9,_⟩ g2;go_wp2;rw[m1.a];have w6:zY B (D::z) W2:=⟨X6.2 ⟨λh=>by have:=b4 D h;omega,u.ms.1⟩,λD' At=>by
     obtain rfl|At:=Yj.1 At
     .exact⟨O,g2⟩
     exact u.ms.2 D' At⟩
    have e:zH m wh own b beh fc (k+1)=zH m wh own b beh fc k++(vD (m (bg wh+k))).flatMap (kF m wh own b beh fc k):=(by unfold zH;rw[YI,Xj];simp[yN]);exact⟨gk-1,O,k+1,D::z,_,_,_,_,_,_,_,_,_,_,_,_,_,_,_,_,_,_,_,_,_,_,_,_,_,_,_,_,_,_,_,_,_,_,_,_,_,_,O,R,⟨u.yb,u.fb,w6,u.tb,u.ct⟩,by rw[e];exact f9⟩
   case stop=>
    rintro D c g W2 hD a5 ⟨rfl,u,q,h5,h6⟩ g2;apply Z9.2;go_wp2;show RQ _ _;rw[m2.a];exact xc (T:=T) results128 a1 (D::z) W2 ⟨X6.2 ⟨λh=>by have:=b4 D h;omega,u.1⟩,λD' At=>by
     obtain rfl|At:=Yj.1 At
     .exact⟨O,g2⟩
     exact u.2 D' At⟩ (λv w' f=>⟨⟨v,R⟩,Zj ⟨q,h5,g1 _ _ _ h6 f⟩⟩)
   case rnd=>
    intro l1 g f W2 z0 hx v3 r3;obtain⟨u,kb2,kd2,f9,_⟩:=v3;have v2:B<=W2:=(by have:=(qB.1 u.yb).1;omega);have hf:=ui (C9 hx);have r4:l1<W2:=r3.elim λr hr=>(qB.1 hr).1;gi_wp2;refine⟨ZP.alloc _,?_⟩;intro W3 f3 v4 z5;have b3:W3.heap[W2.heap.size]?=Z #[f] 3:=f3.same _ _ (ZQ W2 _) O;generalize W2.heap.size=Bx at b3 r4 v2|-;obtain⟨E,c5,c6,w0,t3⟩:=v4;have hBW3:B<=W3:=(by have:=(qB.1 E.yb).1;omega);have ck:=(qi c5).1;have cd:=(qi c6).1;have cf:=(qi b3).1;have f2:yk Bf i W3:=⟨(qB.1 E.fb).1,λj v hv=>by rw[Zs E.fb,Z2,<-qO];exact hv⟩;have r2:=EL wh k a4;have s0:=X (om d k (v7 wh k) f r2.1 r2.2 hf W3 E.tb E.ct);gi_wp2_with (first|(refine jl R _ R Bf R b1 f2 ?_)|(refine⟨x_,?_⟩;gi_at_call 133;refine(Xe l1 (ZY.2 s0)).mono ?_;rintro e w7 ⟨rfl,g7⟩)|(refine⟨x_,?_⟩;gi_at_call 132;refine(Xe l1 (ZY.2 (xn _ _))).mono ?_;rintro e w8 ⟨rfl,hw8⟩))
    obtain⟨n,a9⟩:∃n,n=w7.alloc (Z #[I Zh (U (kN m wh own b beh fc k (v7 wh k) f))] 195):=⟨_,R⟩;rw[<-a9];have M:Gr W3 n:=(by rw[a9];exact g7.alloc _ _);have hs9:n=w7.heap.size+1:=(by rw[a9,Z3]);have c4:n.heap[w7.heap.size]?=Z #[I Zh (U (kN m wh own b beh fc k (v7 wh k) f))] 195:=(by rw[a9];exact Zv);have t9:W3<=w7.heap.size:=ZR g7;generalize w7.heap.size=B7 at hs9 c4 t9|-;have a0:Mk l B As Bf i z n:=E.fr (Q:=λ_ _=>True) (p_ M) (λ_ _ _=>x_);have G:∀{j:Nat}{o:Obj},W3.heap[j]?=S o->j<n.heap.size:=λh=>qN (qB.1 h).1 O;have kb9:=ZE M c5;have kd9:=ZE M c6;have kf9:=ZE M b3;have w2:=hJ _ _ _ w0 (p_ M);have w3:∃r,n.heap[l1]?=S (.loop r):=z5.elim λr hr=>⟨r,ZE M hr⟩;have p8:Fr (jM H T (λj=>j=wr.heap.size+2\/j=2)) W3 n:=p_ M;have n5:=G E.yb;have k8:=G E.fb;have d0:∀D∈z,D<n.heap.size:=λD hD=>G (E.ms.2 D hD).2;have k5:B<=n:=O;have h39:W3<=n.heap.size:=O;have x5:=G c5;have x8:=G c6;have y0:=G b3;have t4:∀{A A':I6},Mk l B As Bf i z A->Fr (yv n.heap.size T) A A'->Mk l B As Bf i z A':=λh f=>h.fr f (λk o hk=>by
     apply Zi;obtain rfl|rfl|hk|rfl|rfl:=hk
     .exact n5
     .exact k8
     .exact d0 _ hk
     .exact a0.tb.2
     exact a0.ct.2)
    generalize n2:kN m wh own b beh fc k (v7 wh k) f=tg at c4|-;have p0:kF m wh own b beh fc k f=(vD tg).flatMap (bE m wh beh k f):=(by unfold kF;rw[n2]);refine rj (l₀:=l1) (n:=9) w3 (gf:=207) (lb:=#[ZI B7]) R (YC func207 WR R)
     (o0 tg B7 T n (qi c4).1 a0.tb.1) a1 (by rintro j (rfl|rfl);exact O;exact a0.tb.2) ZP (λ_=>R)
     (λy W=>(Mk l B As Bf i z W/\W.heap[wr.heap.size]?=S (Z #[I L k] 3)/\W.heap[wr.heap.size+1]?=S (Z #[I L (v7 wh k:Int)] 3)/\W.heap[Bx]?=S (Z #[I L f] 3)/\W.heap[B7]?=S (Z #[I Zh (U tg)] 195))/\J (zH m wh own b beh fc k++g.flatMap (kF m wh own b beh fc k)++y.flatMap (bE m wh beh k f)) W/\Fr (jM H.heap.size T (λj=>j=wr.heap.size+2\/j=2)) W3 W/\n.heap.size<=W.heap.size)
     (λc _ W=>c=.ret/\zY B z W/\(∃q,q<+:zH m wh own b beh fc 6/\Jx q W)/\Fr (jM H.heap.size T (λj=>j=wr.heap.size+2\/j=2)) W3 W)
     ?sI2 ?sX2 ⟨⟨a0,kb9,kd9,kf9,c4⟩,by simpa using w2,p8,Zy⟩ ?rnd2 ?done2 ?stop2
    case sI2=>exact λs A A' h f=>⟨⟨t4 h.1.1 f,f.same _ _ h.1.2.1 (Zi x5),f.same _ _ h.1.2.2.1 (Zi x8),f.same _ _ h.1.2.2.2.1 (Zi y0),f.same _ _ h.1.2.2.2.2 (Zi O)⟩,qo hJ k5 _ _ _ h.2.1 f,h.2.2.1.ext f (λj o e _=>Zi (G e)),q7 h.2.2.2 f.size⟩
    case sX2=>exact λc s A A' h f=>⟨h.1,h.2.1.fr f (λj o _ _ _ V=>Zi (d0 _ V)),h.2.2.1.elim λq hq=>⟨q,hq.1,qo g1 k5 _ _ _ hq.2 f⟩,h.2.2.2.ext f (λj o e _=>Zi (G e))⟩
    case done2=>rintro WD ⟨⟨d1,d2,d3,_,_⟩,d4,d5,_⟩;refine⟨d5,d1,d2,d3,?_,d5.same _ _ t3 (Zi (Zi R))⟩;rw[Xj,<-qS];simpa[p0]using d4
    case stop2=>rintro c y WD hp2 ⟨rfl,d1,d2,d3⟩;gi_wp2;exact⟨d3,R,d1,d2⟩
    case rnd2=>
     intro l2 y t W5 hbl2 s5 v5 z9;have ht:=ui (C9 s5);gi_wp2;refine⟨ZP,?_⟩;intro W6 _ v9 hl6;obtain⟨⟨m6,s9,kd6,t1,t2⟩,j6,k0,sz6⟩:=v9;have ck:=(qi s9).1;have cf:=(qi t1).1;have f4:yk Bf i W6:=⟨(qB.1 m6.fb).1,λj v hv=>by rw[Zs m6.fb,Z2,<-qO];exact hv⟩;have b7:=X (mf d k f t a4 hf ht W6 m6.tb);have Bk:bE m wh beh k f t=if kE m wh beh k f t then xT (Zm (k=0)) f t else[]:=R;have a5:zH m wh own b beh fc k++g.flatMap (kF m wh own b beh fc k)++y.flatMap (bE m wh beh k f)++bE m wh beh k f t<+:zH m wh own b beh fc 6:=(by have h1:=qx0 (bE m wh beh k f) s5;rw[<-p0]at h1;have h2:=qx0 (kF m wh own b beh fc k) hx;have h3:=oP m wh own b beh fc a4;rw[qS,qS];refine((Xq _).2 (((Xq _).2 h1).trans h2)).trans h3);have t0:∀x,Gr W6 x->(Mk l B As Bf i z x/\x.heap[wr.heap.size]?=S (Z #[I L k] 3)/\x.heap[wr.heap.size+1]?=S (Z #[I L (v7 wh k:Int)] 3)/\x.heap[Bx]?=S (Z #[I L f] 3)/\x.heap[B7]?=S (Z #[I Zh (U tg)] 195))/\J (zH m wh own b beh fc k++g.flatMap (kF m wh own b beh fc k)++y.flatMap (bE m wh beh k f)) x/\Fr (jM H.heap.size T (λj=>j=wr.heap.size+2\/j=2)) W3 x/\n.heap.size<=x.heap.size:=λx hg=>(by have f':Fr (λ_ _=>True) W6 x:=p_ hg;exact⟨⟨m6.fr f' (λ_ _ _=>x_),f'.same _ _ s9 x_,f'.same _ _ kd6 x_,f'.same _ _ t1 x_,f'.same _ _ t2 x_⟩,hJ _ _ _ j6 (p_ hg),k0.ext f' (λ_ _ _ _=>x_),q7 sz6 f'.size⟩);have b2:=X t0;have a6:=X a5;generalize n7:zH m wh own b beh fc k++g.flatMap (kF m wh own b beh fc k)++y.flatMap (bE m wh beh k f)=dn at b2 a6;have f1:=X n7;cases hL:kE m wh beh k f t
     .rw[hL]at b7 Bk;have a8:=X Bk;gi_wp2_with (first|(refine jl R _ R Bf R b1 f4 ?_)|(refine⟨x_,?_⟩;gi_at_call 134;refine(Xe l2 (ZY.2 b7)).mono ?_;rintro e wl ⟨rfl,a3⟩)|(with_reducible refine YB (zw _) ?_))
      obtain⟨ys,y6,y7,y8⟩:=b2 wl a3;have P:bE m wh beh k f t=[]:=(by rw[a8.a];rfl);refine⟨p_ a3,ys,?_,y7,y8⟩;rw[Xj,<-qS,f1.a];simpa[P]using y6
     rw[hL]at b7 Bk;have a8:=X Bk;gi_wp2_with (first|(refine jl R _ R Bf R b1 f4 ?_)|(refine⟨x_,?_⟩;gi_at_call 134;refine(Xe l2 (ZY.2 b7)).mono ?_;rintro e wl ⟨rfl,a3⟩;obtain⟨⟨y1,y2,y3,y4,y5⟩,y6,y7,y8⟩:=b2 wl a3;have c1:=(qi y2).1;have c2:=(qi y4).1;have c3:=(qi y1.yb).1))
     have nT:∀c ty fr,ty≠87->¬T (Z c ty fr):=λc ty fr w9 h=>by obtain⟨c',fr',e⟩:=n4 _ h;cases e;exact w9 R
     have P:bE m wh beh k f t=xT (Zm (k=0)) f t:=(by rw[a8.a];rfl);have f8:=a6;rw[P]at f8;have hBwr:B<=wr:=(by have:=(qB.1 b5.yb).1;omega);refine⟨x_,Xe l2 (ZY.2 ((AM k f t a4 ht l B T (λj=>j=Bp\/j=2\/j=3) (λc fr=>nT _ _ _ WW) J Jx hJ (zH m wh own b beh fc 6) dn f8 x4 wl O y6).mono ?_))⟩;intro e wy h7;obtain⟨fy,h7⟩:=h7;have h8:Fr (jM n.heap.size T (λj=>j=B7\/j=2)) W6 wy:=(p_ a3:Fr _ W6 wl).trans (fy.mono λj o ej V=>by
      obtain(rfl|rfl)|V:=V
      .rw[y5]at ej;cases ej;exact Zj ⟨O,nT _ _ _ WW⟩
      .exact Zi (Zj (Zi R))
      exact Zj ⟨O,V.2⟩)
     have h9:Fr (jM H.heap.size T (λj=>j=wr.heap.size+2\/j=2)) W3 wy:=y7.ext fy (λj o ej V=>by
      obtain(rfl|rfl)|V:=V
      .rw[t3]at ej;cases ej;exact Zj ⟨O,nT _ _ _ WW⟩
      .exact Zi (Zj (Zi R))
      exact Zj ⟨O,V.2⟩)
     have my:zY B z wy:=y1.ms.fr fy (λj o V hc _ _=>Zj ⟨V,λh=>by rw[a1 _ h]at hc;cases hc⟩);obtain⟨rfl,x0⟩|⟨rfl,q,h5,h6⟩:=h7
     .gi_wp2;refine⟨h8,⟨⟨fy.same _ _ y1.yb (Zj ⟨O,nT _ _ _ WW⟩),fy.same _ _ y1.fb (Zj ⟨O,nT _ _ _ WW⟩),my,y1.tb.fr fy (λ_=>Zi (Zj (Zi R))),y1.ct.fr fy (λ_=>Zi (Zj (Zj R)))⟩,fy.same _ _ y2 (Zj ⟨O,nT _ _ _ WW⟩),fy.same _ _ y3 (Zj ⟨O,nT _ _ _ WW⟩),fy.same _ _ y4 (Zj ⟨O,nT _ _ _ WW⟩),fy.same _ _ y5 (Zj ⟨O,nT _ _ _ WW⟩)⟩,?_,h9,q7 y8 fy.size⟩;rw[Xj,<-qS,f1.a];simpa[P]using x0
     gi_wp2;exact⟨h8,R,my,⟨q,h5,h6⟩,h9⟩
  apply Z9.2;have r1:k=6:=O;subst r1;have z3:Y (LeavesInM Fence.wide 9 c_ Tryz.f128 #[.func (.yield l) #[] #[],ZI Bp,ZI As,ZI Bf,u4,u5,u6,u7,PA,i,.pointer (S ⟨Bf,12,N⟩),Za wh,Zc (zR (!wh)),I L 6,Za Zl,u15,u16,u17,u18,u19,u20,u21,u22,u23,u24,u25,u26,u27,u28,u29,u30,u31,u32,u33,u34,u35,u36,u37,u38,u39,u40,u41,u42,u43,u44,u45,u46,u47] (λe x=>(∃v,e=Zd v)/\(J (zH m wh own b beh fc 6) x\/∃g,g<+:zH m wh own b beh fc 6/\Jx g x)) (z.map uK) .returning wr):=xc (T:=T) results128 a1 z wr hM.ms (λv w' f=>⟨⟨v,R⟩,Zi (hJ _ _ _ g0 f)⟩);go_wp2;exact z3
def It.mono{α:Type}{P:Program}{lb:I0}{a:α->I0}{T:Obj->Prop}{C C':Nat->Prop}{f:List α}(h:It P g lb a T C f w)(e:∀k,C k->C' k):It P g lb a T C' f w:=λl B J i W m o p b u n=>h l B J i W (m.mono λk _ _ q=>e k q) o p b (λd x j y v=>(u d x j y v).mono λ_ _ r=>⟨r.1.mono λk _ _ q=>q.elim (λq=>Zi (e k q)) Zj,r.2⟩) n
def qm{b:Nat}{x y z:I7}{t:TypeId}{fr:Nat×Nat}(h:V.heap[b]?=Z #[x,y,z] t fr):V.cell? b=x/\V.cell? ⟨b,1,N⟩=y/\V.cell? ⟨b,2,N⟩=z:=by refine⟨?_,?_,?_⟩<;>simp[World.cell?,h]
def qx1{α:Type}{a b:List α}{x:α}(p:α->Bool)(h:a++[x] <+:b)(d:p x=Zk):a.filter p++[x] <+:b.filter p:=by obtain⟨r,rfl⟩:=h;rw[YJ,YJ];simp[d]
def qkg{gf:Nat}{lb lf:I0}{T:Obj->Prop}{C:Nat->Prop}{xs:List Mv}(a9:It c_ g lb vr T C xs w)(a8:∀args w,(callFunc g args).run c_ w=.ok (.enter g args) w)(c6:∀args w,(callFunc gf args).run c_ w=.ok (.enter gf args) w)(F:∀o,T o->o.isCells=Zk) (a7:∀c fr,¬T (Z c 143 fr)) (a2:∀k,C k->k<w.heap.size) (z Bf:Nat) (p:Mv->Bool) (f6:w.heap[z]?=Z #[.func (.func g) #[] lb] 141) (G:w.heap[Bf]?=Z #[.func (.func gf) #[] lf] 143)(f8:∀x∈xs,∀W,Fr (λk _=>C k) w W->ZL gf (#[gJ x]++lf) W (p x)):It c_ 155 #[ZI z,ZI Bf] vr T (λk=>C k\/k=z\/k=Bf) (xs.filter p) w:=by
 intro l B J Jx W f0 hB hJ P hY h0;have m:=f0.same _ _ f6 (Zj (Zi R));have f9:=f0.same _ _ G (Zj (Zj R));have c5:=(qB.1 f6).1;have b7:=(qB.1 G).1;refine(ZY (n:=9)).1 ?_;refine callsIn_of_wp_marks func155 rfl x_ ?_ R;simp only[ntmps155,Nat.reduceAdd,Nat.reduceSub,Zr];have M:(W.alloc (Z #[.func (.yield l) #[] #[]] 143)).cell? z=S (.func (.func g) #[] lb):=(qi ((YP W _ _ (qB.1 m).1).trans m)).1;gi_wp2;have a0:=ZQ W (Z #[.func (.yield l) #[] #[]] 143);have f1:∀Q:Nat->Obj->Prop,Fr Q W (W.alloc (Z #[.func (.yield l) #[] #[]] 143)):=λQ=>ZP.alloc _;have b3:(W.alloc (Z #[.func (.yield l) #[] #[]] 143)).heap.size=W.heap.size+1:=Z3 _ _;generalize W.alloc _=w1 at M a0 f1 b3|-;have a4:=hJ _ _ _ h0 (f1 _);have f7:=f0.trans (f1 _);have d3:=f0.size;refine xj (n:=9) (gf:=g) (lb:=lb) R a8 (a9.mono (C':=λk=>C k\/k=z\/k=Bf) (λk h=>Zi h)) F (by rintro k (hk|rfl|rfl);exact(by have:=a2 k hk;omega);exact O;exact O) f7 (λ_=>R)
  (λb V=>V.heap[W.heap.size]?=Z #[.func (.yield l) #[] #[]] 143/\J (b.filter p) V/\Fr (λk _=>C k\/k=z\/k=Bf) w V)
  (λc _ V=>c=.ret/\∃q,q<+:xs.filter p/\Jx q V)
  ?sI ?sX ⟨a0,a4,f7⟩ ?rnd ?done ?stop
 case sI=>exact λs A A' h f=>⟨f.same _ _ h.1 (Zi O),qo hJ O _ _ _ h.2.1 f,h.2.2.ext f (λk o e _=>Zi UR)⟩
 case sX=>exact λc s A A' h f=>⟨h.1,h.2.elim λq hq=>⟨q,hq.1,qo P O _ _ _ hq.2 f⟩⟩
 case done=>rintro D V hD ⟨_,hj,_⟩ hK;gi_wp2;exact xc (T:=T) results155 F [D] V ⟨WU,λD' i=>VO⟩ (λv w' f=>⟨⟨v,R⟩,Zi (hJ _ _ _ hj f)⟩)
 case stop=>rintro D c b V hD _ ⟨rfl,q,b1,b2⟩ hK;gi_wp2;exact xc (T:=T) results155 F [D] V ⟨WU,λD' i=>VO⟩ (λv w' f=>⟨⟨v,R⟩,Zj ⟨q,b1,P _ _ _ b2 f⟩⟩)
 case rnd=>
  rintro l1 b ⟨fr,H,u⟩ V c4 hx ⟨hy,hj,d0⟩ hl;have d1:l1<V:=hl.elim λr hr=>(qB.1 hr).1;simp only[vr,gJ];gi_wp2;refine⟨ZP.alloc _,?_⟩;intro K f2 a3 d2;obtain⟨g0,b0,j⟩:=a3;have kx:K.heap[V.heap.size]?=Z (ZJ fr H u) 87:=f2.same _ _ (ZQ V _) O;generalize V.heap.size=Bx at kx|-;obtain⟨x0,x1,x2⟩:=qm kx;have b5:=j.same _ _ G (Zj (Zj R));have b6:=(qi b5).1;have d5:=f8 (fr,H,u) (C9 hx) K (j.mono λk _ _ q=>Zi q);simp only[gJ]at d5;have keep:∀a,Gr K a->a.heap[W.heap.size]?=Z #[.func (.yield l) #[] #[]] 143/\J (b.filter p) a/\Fr (λk _=>C k\/k=z\/k=Bf) w a:=λa y=>⟨ZE y g0,hJ _ _ _ b0 (p_ y),j.ext (p_ (Q:=λ_ _=>True) y) (λ_ _ _ _=>x_)⟩;cases n:p (fr,H,u)
  .rw[n]at d5;gi_wp2;refine⟨x_,Xe l1 (ZY.2 (d5.mono ?_))⟩;rintro e a ⟨rfl,y⟩;gi_wp2;refine⟨λ_ h=>Ub,?_⟩;gi_wp2;obtain⟨z1,z2,z3⟩:=keep a y;refine⟨p_ y,z1,?_,z3⟩;rw[YJ];simpa[n]using z2
  rw[n]at d5;gi_wp2;refine⟨x_,Xe l1 (ZY.2 (d5.mono ?_))⟩;rintro e a ⟨rfl,y⟩;obtain⟨z1,z2,z3⟩:=keep a y;have c3:=(qi z1).1;obtain⟨q0,q1,q2⟩:=qm (ZE y kx);obtain⟨fn,tmps,d,E,a1,hR⟩:=jb (m':=8) (hY (b.filter p) (fr,H,u) a (qx1 p hx n) z2);have d4:(Instr.yield l #[ZJ fr H u]).run c_ a=.ok (.round l fn tmps d E) a:=a1;gi_wp2;have a6:RoundIn (Fence.wide.inRound l1) 8 c_ l fn tmps d E a (λe f3=>Fr (jM B T (λk=>C k\/k=z\/k=Bf)) a f3/\((e=Zd Zk/\J (b.filter p++[(fr,H,u)]) f3)\/(e=Zd Zl/\Jx (b.filter p++[(fr,H,u)]) f3))):=hR;refine a6.mono ?_;intro e V4 h4;obtain⟨f4,h4⟩:=h4;have f5:Fr (jM w1 T (λk=>C k\/k=z\/k=Bf)) K V4:=(p_ y:Fr _ K a).trans (f4.mono λk o _ q=>q.elim Zi λq=>Zj ⟨O,q.2⟩);obtain⟨rfl,a5⟩|⟨rfl,b4⟩:=h4
  .gi_wp2;refine⟨f5,f4.same _ _ z1 (Zj ⟨hB,a7 _ _⟩),?_,z3.ext f4 (λk o _ q=>Zi q)⟩;rw[YJ];simpa[n]using a5
  gi_wp2;exact⟨f5,R,_,qx1 p hx n,b4⟩
def pU(x:Mv):I0:=#[I L (x.1:Int),I L (x.2.1:Int),I Zg (x.2.2.toNat:Int)]
def dV(g gf:Nat)(lb a:I0)(w:I6):i_ c_ 67 #[.func (.func g) #[] lb,.func (.func gf) #[] a] w λe w'=>e=Zd (.func (.func 155) #[] #[ZI w,ZI (w+1)])/\w'.heap[w.heap.size]?=Z #[.func (.func g) #[] lb] 141/\w'.heap[w.heap.size+1]?=Z #[.func (.func gf) #[] a] 143/\Gr w w':=by have h:=qmf;go_in;go_wp2;go_ret;obtain⟨d,f⟩:=x6 w (Z #[.func (.func g) #[] lb] 141) (Z #[.func (.func gf) #[] a] 143);exact⟨R,d,f,ZN.al⟩
def xC(z:I2)(wh:Bool)(fc:I5)(b:Int):List Mv:=zH (xD z 64) wh (xZ (xD z 64) wh) (xZ (xD z 64) (!wh)) (vV b) fc 6
def qxq{g:Int}(r:jE z wh fc b h g PA)(f:xO z=Zk)(d:-1<=b)(e:b<=63)(Bp:Nat)(T:Obj->Prop)(a:∀o,T o->∃c fr,o=Z c 87 fr)(w:I6)(l:w.heap[Bp]?=Z PA 70) (j:jF w) (i:jQ w):It c_ 128 #[ZI Bp] vr T (λk=>k=Bp\/k=2\/k=3) (xC z wh fc b) w:=mY r.size (λW=>aJ r f d e W) Bp T a w l j i
def zk(PA:I0)(w:I6):i_ c_ 61 #[PA] w λe w'=>e=Zd (.func (.func 128) #[] #[ZI w])/\w'.heap[w.heap.size]?=Z PA 70/\Gr w w':=by have b:=qmf;go_in;go_wp2;go_ret;exact⟨R,Zv,ZN⟩
def nI(l:I1):List Int:=l.map (λc=>(c.toNat:Int))
def gx(st:I1×Nat)(c:UInt8):I1×Nat:=if c=46 then(st.1,st.2+1)else(st.1++ur st.2++[c],0)
def lh(zs:I1):I1×Nat:=zs.foldl gx ([],0)
def qv3(a:I1)(c:UInt8):lh (a++[c])=gx (lh a) c:=by rw[lh,List.foldl_append];rfl
theorem iR(z:Nat->UInt8):∀k,DV z k=lh ((h_ k).map z)
 | 0=>rfl
 | k+1=>by
  rw[YI,Ys,YM,Wi,qv3,<-iR z k];rfl
theorem cZ(a:I1):∀d,lh (a++List.replicate d 46)=((lh a).1,(lh a).2+d)
 | 0=>by simp
 | d+1=>by
  rw[List.replicate_succ',<-qS,qv3,cZ a d];rw[gx,qI R];rfl
def wj(c:UInt8):Bool:=c==46||bz c
def EI:bz 46=Zl:=WW
def sM(a b:I1):nI (a++b)=nI a++nI b:=Ys
def D6(d:Nat):nI (List.replicate d 46)=List.replicate d 46:=by rw[nI,List.map_replicate];rfl
def D7(a:I1):(nI a).length=a.length:=YD _
def CK(c:UInt8)(h:uT c=Zk):1<=c.toNat-48/\c.toNat-48<=8/\j_ (48+(c.toNat-48))=c:=by unfold uT at h;simp only[qH,qG]at h;refine⟨O,O,?_⟩;rw[show 48+(c.toNat-48)=c.toNat from O];simp
def eW(l:I1):∀b a,vY l=S (b,a)->∃d,b=nI d/\d.all wj=Zk/\(a=Zl->lh d=(l,0))/\(a=Zk->∃t g,lh d=(t,g)/\1<=g/\l=t++[j_ (48+g)]):=by
 induction w:l.length generalizing l with
 | zero=>
  have:l=[]:=Yz.mp w;subst this;intro b a h;unfold vY at h;simp at h;obtain⟨rfl,rfl⟩:=h;exact⟨[],R,R,λ_=>R,λh=>by simp at h⟩
 | succ n ih=>
  have k:l≠[]:=λe=>by subst e;simp at w
  obtain⟨m,c,rfl⟩:∃m c,l=m++[c]:=⟨l.dropLast,l.getLast k,(XY k).symm⟩;intro b a h;rw[vj]at h;cases v:vY m with
  | none=>rw[v]at h;simp[zZ]at h
  | some st=>
   obtain⟨f,o⟩:=st;rw[v]at h;obtain⟨d,x,y,z,E⟩:=ih m (by simpa using w) f o v;unfold zZ at h;simp only at h;by_cases u:uT c=Zk
   .rw[qI u]at h;split at h
    .simp at h
    rename_i B;simp only[Ym,qG,not_or]at B;have r:o=Zl:=(by simpa using B.1);simp only[Xh,Prod.mk.injEq]at h;obtain⟨p,q⟩:=h;obtain⟨C,H,D⟩:=CK c u;refine⟨d++List.replicate (c.toNat-48) 46,by rw[sM,D6,<-x];exact p.symm,?_,λh=>by rw[<-q]at h;simp at h,λ_=>⟨m,c.toNat-48,?_,C,by rw[D]⟩⟩
    .rw[Xf,y];simp[wj]
    rw[cZ,z r];simp
   rw[qF u]at h;by_cases j:bz c=Zk
   .rw[qI j]at h;split at h
    .simp at h
    simp only[Xh,Prod.mk.injEq]at h;obtain⟨p,q⟩:=h;have i:¬c=46:=λe=>(by rw[e,EI]at j;simp at j);refine⟨d++[c],by rw[sM,<-x];exact p.symm,?_,λ_=>?_,λh=>by rw[<-q]at h;simp at h⟩
    .rw[Xf,y];simp[wj,j]
    rw[qv3];rw[gx,qF i];cases A:o with
    | false=>rw[z A];simp[ur]
    | true=>
     obtain⟨t,g,F,J,G⟩:=E A;rw[F,G];have:ur g=[j_ (48+g)]:=(by rw[ur,qF O]);simp[this]
   rw[qF j]at h;simp at h
def gA(l:I1)(r:List Int)(h:jL l=r):∃b,r=nI b/\b.length=8/\b.all wj=Zk/\(lh b).1++ur (lh b).2=l:=by
 unfold jL at h;cases e:vY l with
 | none=>rw[e]at h;simp at h
 | some st=>
  obtain⟨d,a⟩:=st;rw[e]at h;simp only at h;split at h
  .rename_i i;simp at h;subst h;obtain⟨b,f,j,k,m⟩:=eW l d a e;refine⟨b,f,by rw[f,D7]at i;exact i,j,?_⟩;cases a with
   | false=>rw[k R];simp[ur]
   | true=>
    obtain⟨t,g,n,p,o⟩:=m R;rw[n,o];have:ur g=[j_ (48+g)]:=(by rw[ur,qF O]);simp[this]
  simp at h
theorem qjx(c:UInt8):∀l:I1,(e_ l c=-1/\c∉l)\/∃a b,l=a++c::b/\c∉a/\e_ l c=(a.length:Int)
 | []=>Zi ⟨R,WU⟩
 | x::l=>by
  unfold e_;by_cases d:x=c
  .subst d;right;exact⟨[],l,R,WU,WU⟩
  have i:(x==c)=Zl:=VG
  rw[i];simp only[qR,YH];obtain⟨f,g⟩|⟨a,b,f,g,h⟩:=qjx c l
  .left;rw[f];exact⟨WU,Og⟩
  right;refine⟨x::a,b,T1,Og,?_⟩;rw[h];have:((a.length:Int)==-1)=Zl:=WU
  rw[this];simp
def qva(c:UInt8)(k:Nat)(l:I1)(h:c∉l):Lib.splitK [c] 0 k l=[l]:=by
 cases k with
 | zero=>rfl
 | succ k=>
  rw[Lib.splitK,Lib.index_one];obtain⟨d,_⟩|⟨a,b,d,_,_⟩:=qjx c l
  .rw[d];simp
  rw[d]at h;simp at h
def qj6(c:UInt8)(k:Nat)(a b:I1)(h:c∉a):Lib.splitK [c] 0 (k+1) (a++c::b)=a::Lib.splitK [c] 0 k b:=by
 conv=>lhs;unfold Lib.splitK
 rw[Lib.index_one];rcases qjx c (a++c::b)with⟨_,l⟩|⟨n,o,r,l,u⟩
 .simp at l
 have v:n=a/\o=b:=by
  have m:∀(p q d g:I1),p++c::q=d++c::g->c∉p->c∉d->p=d/\q=g:=by
   intro p;induction p with
   | nil=>
    intro q d g e _ f;cases d with
    | nil=>simp at e;exact⟨R,e⟩
    | cons y d=>simp at e f;exact w_ e.1 f.1
   | cons x p ih=>
    intro q d g e h f;cases d with
    | nil=>simp at e h;exact w_ e.1.symm h.1
    | cons y d=>
     simp at e h f;obtain⟨i,j⟩:=ih q d g e.2 h.2 f.2;exact⟨by rw[e.1,i],j⟩
  obtain⟨i,j⟩:=m a b n o r h l;exact⟨i.symm,j.symm⟩
 rw[u,v.1];have:((a.length:Int)==-1)=Zl:=WU;rw[this];simp
def ve(x y:I1)(r:List (I1))(a:I1):f_ (x::y::r) a=x++a++f_ (y::r) a:=by simp[f_,List.intercalate,List.intersperse]
def o9(c:UInt8)(k:Nat)(l:I1):∃x r,Lib.splitK [c] 0 k l=x::r:=by
 cases k with
 | zero=>exact⟨_,_,R⟩
 | succ k=>unfold Lib.splitK;split<;>exact⟨_,_,R⟩
theorem qvt(c:UInt8):∀(k:Nat)(l:I1),f_ (Lib.splitK [c] 0 k l) [c]=l
 | 0,l=>Lib.join_one l [c]
 | k+1,l=>by
  obtain⟨_,d⟩|⟨a,b,rfl,d,_⟩:=qjx c l
  .rw[qva c _ l d,Lib.join_one]
  rw[qj6 c k a b d];obtain⟨x,r,e⟩:=o9 c k b;rw[e,ve,<-e,qvt c k b];simp
def qjc(c:UInt8)(n:Nat)(s:I4):(xL c n s).map (·.data.toList)=Lib.splitK [c] 0 (min n (s.size+1)-1) s.data.toList:=by rw[xL,Lib.splitB_data]
def qz5(c:UInt8)(n:Nat)(s:I4):f_ ((xL c n s).map (·.data.toList)) [c]=s.data.toList:=by rw[qjc,qvt]
def mA(s:I4)(b:Bool)(h:kO s=b):s.data.toList=[if b then 119 else 98]:=by
 unfold kO at h;rw[Xl]at h;by_cases a:s.data.toList=[119]
 .rw[qI a]at h;simp at h;subst h;exact a
 rw[qF a]at h;by_cases d:s.data.toList=[98]
 .rw[qI d]at h;simp at h;subst h;exact d
 rw[qF d]at h;simp at h
def mF(l:I1)(i:Nat):jN l i=(if zW l i then[vn i]else[])++jN l (i+1):=by
 show jN l i=(if Lib.hasPrefix (jN l i) [vn i]then[vn i]else[])++Lib.trimPrefix (jN l i) [vn i];unfold Lib.trimPrefix;cases h:Lib.hasPrefix (jN l i) [vn i]with
 | false=>simp
 | true=>
  simp only[YS];unfold Lib.hasPrefix at h;obtain⟨t,a⟩:=List.isPrefixOf_iff_prefix.mp h;rw[<-a];simp
theorem iU(l:I1):∀i,l=E5 (zW l) i++jN l i
 | 0=>rfl
 | i+1=>by
  rw[oN,qS,<-mF];exact iU l i
def aU(l:I1)(f:I5)(h:vS l=f):eE f=l:=by
 unfold vS at h;by_cases b:l=[45]
 .rw[qI b]at h;simp at h;subst h;rw[b];rfl
 rw[qF b]at h;by_cases a:(!l.isEmpty&&(jN l 4).isEmpty)=Zk
 .rw[qI a]at h;simp at h;subst h;simp only[qH,YK,List.isEmpty_iff]at a;have:=iU l 4;rw[a.2,Yh]at this;rw[eE,<-this];rw[a.1];rfl
 rw[qF a]at h;simp at h
def oY(s:I4)(h:s.size=2):s.data.toList=[s[0],s[1]]:=by have a:=xi s 0 O;have b:=xi s 1 O;have c:s.data.toList.take 2=s.data.toList:=Yk UW;rw[c,a]at b;simpa using b
def ag(s:I4)(n:Int)(h:v8 s=n):oO n=s.data.toList/\(n=-1\/(0<=n/\n<64)):=by
 unfold v8 at h;by_cases a:s.toList=[45]
 .rw[qI a]at h;simp at h;subst h;rw[Xl]at a;rw[a];exact⟨R,Zi R⟩
 rw[qF a]at h;unfold uX at h;by_cases b:s.size=2
 .rw[Wf b]at h;by_cases d:97<=s[0].toNat/\s[0].toNat<=104/\49<=s[1].toNat/\s[1].toNat<=56
  .rw[qI d]at h;simp only[fA,Xh]at h;subst h;refine⟨?_,Zj O⟩;unfold oO xQ;rw[qF O,oY s b,YE];rw[show 97+(s[0].toNat-97+8*(s[1].toNat-49))%8=s[0].toNat from O,show 49+(s[0].toNat-97+8*(s[1].toNat-49))/8=s[1].toNat from O];simp
  rw[qF d]at h;simp[fA]at h
 rw[dif_neg b]at h;simp[fA]at h
def fg:∀n,n<256->dg (j_ n)=Zk->j_ (48+(n-48))=j_ n/\48<=n/\n<=57:=WS
def tR(c:UInt8)(h:dg c=Zk):j_ (48+(c.toNat-48))=c/\48<=c.toNat/\c.toNat<=57:=by have:=fg c.toNat c.toNat_lt;exact IE
def Ei:∀(l:I1),l≠[]->l.all dg=Zk->l.head?≠S 48->1<=dv l:=by
 intro l;induction i:l.length generalizing l with
 | zero=>intro h;exact w_ (Yz.mp i) h
 | succ n ih=>
  intro a b g;obtain⟨m,c,rfl⟩:∃m c,l=m++[c]:=⟨l.dropLast,l.getLast a,(XY a).symm⟩;rw[yz];rw[Xf]at b;simp only[qH,Wc,List.all_nil,Wl]at b;by_cases f:m=[]
  .subst f;have d:c≠48:=(by simpa using g);have:=tR c b.2;have:c.toNat≠48:=λe=>d (q6.mp VI);omega
  have:=ih m (by simpa using i) f b.1 (by
   cases m with
   | nil=>exact w_ R f
   | cons x r=>simpa using g)
  omega
def Ek:∀(l:I1),l≠[]->l.all dg=Zk->(1<l.length->l.head?≠S 48)->d_ (dv l)=l:=by
 intro l;induction f:l.length generalizing l with
 | zero=>intro h;exact w_ (Yz.mp f) h
 | succ n ih=>
  intro e a g;obtain⟨m,c,rfl⟩:∃m c,l=m++[c]:=⟨l.dropLast,l.getLast e,(XY e).symm⟩;rw[yz];rw[Xf]at a;simp only[qH,Wc,List.all_nil,Wl]at a;obtain⟨c1,c2,c3⟩:=tR c a.2;by_cases d:m=[]
  .subst d;rw[d_,Wf (by simp[dv];omega)];simp[dv,c1]
  have b:m.head?≠S 48:=by
   have:=g (by have:0<m.length:=List.length_pos_iff.mpr d;simp at f;omega);cases m with
   | nil=>exact w_ R d
   | cons x r=>simpa using this
  have i:=Ei m d a.1 b;rw[d_,dif_neg O,show(10*dv m+(c.toNat-48))/10=dv m from O,show(10*dv m+(c.toNat-48))%10=c.toNat-48 from O,c1,ih m Uq d a.1 (λ_=>b)]
def qvv(l:I1)(n:Nat)(h:vR l=n):Lib.itoa (n:Int)=l/\n<=65535:=by
 unfold vR at h;split at h
 .rename_i a;simp at h;subst h;refine⟨?_,a.2.2.2.2⟩;rw[Lib.itoa,qF O,YE];exact Ek l (λe=>by subst e;simp at a) a.2.2.2.1 a.2.2.1
 simp at h
def zB(B:I1)(i:Nat):UInt8:=B.getD i 0
def dL(B:I1)(j:Nat):I1:=(B.drop (8*j)).take 8
def AQ(zs:I1):I1:=(lh zs).1++ur (lh zs).2
def Dh(B:I1)(j:Nat)(h:8*j+8<=B.length):(h_ 8).map (λf=>zB B (8*j+f))=dL B j:=by
 apply List.ext_getElem
 .simp[dL];omega
 intro i a b;have d:i<8:=VS;simp[dL,zB,Yf (show 8*j+i<B.length from O)]
def AP(B:I1)(i:Nat)(h:8*(7-i)+8<=B.length):oH (zB B) i=AQ (dL B (7-i)):=by unfold oH oJ AQ;rw[iR,Dh B (7-i) h]
def oG(B:I1)(h:B.length=64):(eB (zB B)).map (·.data.toList)=(h_ 8).map (λi=>AQ (dL B (7-i))):=by rw[eB,List.map_map];apply List.map_congr_left;intro i _;exact AP B i O
def HA(e:List (I1))(h:∀r∈e,r.length=8):∀j (a:j<e.length),dL e.flatten j=e[j]:=by
 induction e with
 | nil=>intro j a;simp at a
 | cons r t ih=>
  intro j a;have b:=h r WU;cases j with
  | zero=>simp[dL,b]
  | succ j=>
   have:=ih (λx d=>h x (by simp[d])) j VS;unfold dL at this|-;rw[List.flatten_cons,show 8*(j+1)=r.length+8*j from O,List.drop_length_add_append,this];rfl
theorem qvg:∀(i:I3) (rs:List (List Int)),jK i=rs->∃d:List (I1),rs=d.map nI/\(∀z∈d,z.length=8/\z.all wj=Zk)/\d.map AQ=i.map (·.data.toList)
 | [],rs,h=>by simp[jK]at h;subst h;exact⟨[],R,WU,R⟩
 | x::t,rs,h=>by
  unfold jK at h;cases e:jL x.data.toList with
  | none=>rw[e]at h;simp at h
  | some a=>
   cases f:jK t with
   | none=>rw[e,f]at h;simp at h
   | some b=>
    rw[e,f]at h;simp at h;subst h;obtain⟨j,n,o,p,q⟩:=gA _ _ e;obtain⟨d,k,l,m⟩:=qvg t b f;refine⟨j::d,by rw[n,k];rfl,?_,?_⟩
    .intro z g;obtain rfl|g:=Yj.mp g
     .exact⟨o,p⟩
     exact l z g
    show AQ j::d.map AQ=_::_;rw[m];rw[AQ,q]
def tJ(b:List (I1))(h:∀r∈b,r.length=8):b.flatten.length=8*b.length:=by
 induction b with
 | nil=>rfl
 | cons r t ih=>rw[List.flatten_cons,qZ,ih (λx a=>h x VM),h r WU];simp;omega
def fz(x:I4)(b:List Int)(h:j7 x=b):∃B,b=nI B/\B.length=64/\B.all wj=Zk/\dA (zB B)=x.data.toList:=by
 unfold j7 at h;split at h
 .rename_i o;cases e:jK (xL 47 9 x)with
  | none=>rw[e]at h;simp at h
  | some rs=>
   rw[e]at h;simp at h;obtain⟨a,m,j,k⟩:=qvg _ _ e;have g:a.length=8:=(by have:=Xn List.length k;simpa[o]using this);have d:∀r∈a.reverse,r.length=8:=λr e=>(j r VI).1;have l:a.reverse.flatten.length=64:=(by rw[tJ _ d];simp[g]);refine⟨a.reverse.flatten,?_,l,?_,?_⟩
   .rw[<-h,m];unfold nI;rw[List.map_flatten,List.map_reverse]
   .rw[qW];intro c p;obtain⟨r,e,f⟩:=List.mem_flatten.mp p;exact qW.mp (j r VI).2 c f
   unfold dA;rw[oG _ l]
   have:(h_ 8).map (λi=>AQ (dL a.reverse.flatten (7-i)))=a.map AQ:=by
    apply List.ext_getElem
    .simp[g]
    intro i n q;have u:i<8:=(by simpa using n);simp only[List.getElem_map,List.getElem_range];rw[HA _ d (7-i) (by simp[g];omega),List.getElem_reverse];congr 2;omega
   rw[this,k,qz5]
 simp at h
def FM(s:I4)(p:pH)(h:xG s=p):∃B,p.board=nI B/\B.length=64/\B.all wj=Zk/\(p.behind=-1\/(0<=p.behind/\p.behind<64))/\(0<=p.half/\p.half<=65535)/\(0<=p.full/\p.full<=65535)∧oI (zB B) p.white p.castle p.behind p.half p.full=s.data.toList:=by
 unfold xG at h;split at h
 .rename_i C D E F G H o;unfold Ac at h;split at h
  .rename_i b wh c e A f q r u v w x;simp at h;subst h;obtain⟨B,d,g,i,j⟩:=fz _ _ q;obtain⟨k,l⟩:=ag _ _ v;obtain⟨n,z⟩:=qvv _ _ w;obtain⟨m,y⟩:=qvv _ _ x;refine⟨B,d,g,i,l,UJ,UJ,?_⟩;have a:=qz5 32 7 s;rw[o]at a;rw[<-a];unfold oI;simp only[YM,Wi];rw[j,<-mA _ _ r,aU _ _ u,k,n,m]
  simp at h
 simp at h
def xM(p:pH)(i:Nat):UInt8:=j_ (p.board.getD i 0).toNat
def xP(p:pH):Bool:=k6 (xM p) p.white p.castle p.behind p.half p.full
def ip{p:pH}{B:I1}(h:p.board=nI B):xM p=zB B:=by
 funext i;unfold xM zB nI at *;rw[h];obtain a|a:=Nat.lt_or_ge i B.length
 .rw[YR,YN,Yf a,YR,Yf a];simp
 rw[YR,YN,Y9 a,YR,Y9 a];rfl
def qkb(z:I2)(A:I0)(e:A.size=64)(j:∀i,i<64->A[i]?=I Zg (z i).toNat)(wh:Bool)(f:I5)(b h g:Int):jE z wh f b h g (kU A wh (f 0) (f 1) (f 2) (f 3) b h g):=by
 have a:∀i,(kU A wh (f 0) (f 1) (f 2) (f 3) b h g)[i]?=if i<64 then A[i]? else(#[wh,f 0,f 1,f 2,f 3,b,h,g]:I0)[i-64]?:=λi=>by rw[kU,Y7,e]
 refine⟨by rw[kU,Array.size_append,e];rfl,λi d=>?_,?_,λi d=>?_,?_,?_,?_⟩
 .rw[a,qI d];exact j i d
 .rw[a];rfl
 .rw[a,qF O];have:i=0\/i=1\/i=2\/i=3:=O;exact O1
 .rw[a];rfl
 .rw[a];rfl
 rw[a];rfl
def qzx{p:pH}{B:I1}(h:p.board=nI B)(a:B.length=64):((p.board.map (I Zg)).toArray).size=64/\∀i,i<64->((p.board.map (I Zg)).toArray)[i]?=I Zg (xM p i).toNat:=by refine⟨by rw[h];simp[nI,a],λi b=>?_⟩;rw[ip h,h];unfold nI zB;rw[Xu,YN,YN,Yf O,YR,Yf O];rfl
def jo{s:I4}{p:pH}(h:xG s=p):jE (xM p) p.white p.castle p.behind p.half p.full (jV p):=by obtain⟨B,d,e,_⟩:=FM s p h;obtain⟨a,b⟩:=qzx d e;exact qkb _ _ a b _ _ _ _ _
def zA(s:I4)(e:Ending):Prop:=
 (∃p,xG s=S p/\xP p=Zk/\e=Zd (Ze #[Zc (jV p),I L 0])) ∨
 (∃p,xG s=S p/\xP p=Zl/\e=Zd (Ze #[Zc b_,I L 2])) ∨
 (xG s=N/\e=Zd (Ze #[Zc b_,I L 1]))
def gC{p:pH}{B:I1}(h:p.board=nI B)(b:B.length=64):(jV p).size=72/\(jV p).all (·.oneCell')=Zk:=by obtain⟨a,e⟩:=qzx h b;refine qzd ⟨a,?_⟩ _ _ _ _ _ _ _ _;rw[List.all_toArray,qW];intro v d;obtain⟨z,_,rfl⟩:=YL.mp d;rfl
def kS.plain{s:I4}{e:Ending}(h:kS s e):∃A ok,e=Zd (Ze #[Zc A,Za ok])/\A.size=72/\A.all (·.oneCell')=Zk/\(ok=Zk->∃p,xG s=S p/\A=jV p)/\(ok=Zl->xG s=N):=by
 obtain⟨p,a,f,rfl⟩|⟨a,rfl⟩:=h
 .exact Ic
 exact⟨b_,Zl,R,xF,xH,λh=>Ub,λ_=>a⟩
structure Pp(w:I6)(bp:Nat)(A:I0)(cur:I6):Prop where
 res:cur.heap[w.heap.size]?=S (Z b_ 70)
 p:cur.heap[bp]?=S (Z A 70)
 lt:bp<cur.heap.size
 lr:w.heap.size<cur.heap.size
 gr:Gr w cur
 tab:jF cur
 homes:vJ cur
def Pp.next{cur:I6}{bp:Nat}(h:Pp w bp A cur)(g:Gr cur a):Pp w bp A a:=⟨by rw[Zz g h.lr];exact h.res,Oq,qN h.lt (ZR g),qN h.lr (ZR g),o_ h.gr g,h.tab.gr g,h.homes.gr g⟩
def qzg(s:I4)(M:s.size<4294967281)(m:Int)(w:I6)(J:w.cell? ⟨4,0,N⟩=S (I L m))(i:4<w.heap.size)(v:jF w)(H:vJ w):i_ c_ 34 #[Zb s] w λe w'=>zA s e/\Gr w w':=by
 have j:Gr w (w.alloc (Z b_ 70)):=ZN;have z:=X (v.gr j);have y:=X (H.gr j);have V:Y (i_ c_ 62 #[Zb s] (w.alloc (Z b_ 70)) λe w'=>∃A ok,e=Zd (Ze #[Zc A,Za ok])/\A.size=72/\A.all (·.oneCell')=Zk/\(ok=Zk->∃p,xG s=S p/\A=jV p)/\(ok=Zl->xG s=N)/\Gr (w.alloc (Z b_ 70)) w'):=X ((rY s M m _ (by rw[YZ _ _ _ i];exact J) Vj).mono λe w' h=>by obtain⟨A,ok,a1,P,Q,a2,a3⟩:=h.1.plain;exact⟨A,ok,a1,P,Q,a2,a3,h.2⟩);have B:Y ((w.alloc (Z b_ 70)).heap[w.heap.size]?=S (Z b_ 70)):=X Zv;have u:Y (w.heap.size<(w.alloc (Z b_ 70)).heap.size):=X Vj;have n:=X j;clear j v H J i M;go_in;go_upto_region 2 with(first|(go_at_call 62;refine V.a.mono ?_;rintro e o ⟨A,ok,rfl,i,K,G,E,C⟩)|(refine ZC o.heap.size A Zv i K ?_));generalize l:(o.alloc (Z b_ 70)).setRow o.heap.size A=a0;have D:Gr o a0:=by rw[<-l];exact ZN.setRow _ Zy _
 have a:=o_ C D;have F:Pp w o A a0:=⟨by rw[Zz a u.a];exact B.a,by rw[<-l];exact Zt (Z7 o _),by rw[<-l,Xa,Z3];omega,qN u (ZR a),o_ n a,z.gr a,y.gr a⟩;generalize o.heap.size=bp at F|-;clear l D a C V B u n z y;cases ok
 .have b:Y (zA s (Zd (Ze #[b_,I L 1]))):=Zj (Zj ⟨E R,R⟩);clear E G;go_wp2_with(refine ZC w b_ (Pp.res (bp:=bp) (A:=A) ‹_›) xF xH ?_);exact ZS (v:=Ze #[b_,I L 1]) (qj results34 _ _ w 70 _ (0,0) _ R (Zt F.res) s_ rfl Vz) R ⟨b,F.gr.setRow _ Zy _⟩
 .obtain⟨p,f,k⟩:=G R;have d:Y (∀W:I6,jF W->vJ W->ZL 63 #[A] W (xP p)):=λW t h=>by rw[k];exact CX (jo f) W t h
  clear G E;obtain⟨q,x⟩:=Zo (xP p);cases q
  .have b:Y (zA s (Zd (Ze #[b_,I L 2]))):=Zj (Zi ⟨p,f,x,R⟩);rw[x]at d;clear f k x;go_wp2_with(first|(refine ZC w b_ (Pp.res (bp:=bp) (A:=A) ‹_›) xF xH ?_)|(refine ZD bp A (Pp.p (w:=w) ‹_›) i ?_)|(go_at_call 63;refine Z0 (d _ (Pp.tab (w:=w) (bp:=bp) (A:=A) ‹_›) (Pp.homes (w:=w) (bp:=bp) (A:=A) ‹_›)) λT r=>?_;have g:=Pp.next ‹_› r));exact ZS (v:=Ze #[b_,I L 2]) (qj results34 _ _ w 70 _ (0,0) _ R (Zt g.res) s_ rfl Vz) R ⟨b,g.gr.setRow _ Zy _⟩
  .have b:Y (zA s (Zd (Ze #[A,I L 0]))):=Zi ⟨p,f,x,by rw[k]⟩;rw[x]at d;clear f k x;go_wp2_with(first|(refine ZC w A (Pp.res (bp:=bp) (A:=A) ‹_›) i K ?_)|(refine ZD bp A (Pp.p (w:=w) ‹_›) i ?_)|(go_at_call 63;refine Z0 (d _ (Pp.tab (w:=w) (bp:=bp) (A:=A) ‹_›) (Pp.homes (w:=w) (bp:=bp) (A:=A) ‹_›)) λT r=>?_;have g:=Pp.next ‹_› r));exact ZS (v:=Ze #[A,I L 0]) (qj results34 _ _ w 70 _ (0,0) _ R (Zt g.res) s_ rfl (by rw[i];exact q9)) R ⟨b,g.gr.setRow _ Zy _⟩
def Eu(h:xX z wh b=Zk):b=-1\/(0<=b/\b<64):=by unfold xX at h;cases wh<;>simp at h<;>omega
def tZ{g:Int}(k:zP h g=Zk):(0<=h/\h<=65535)/\(1<=g/\g<=65535):=by unfold zP at k;simp at k;omega
def BP:∀c:UInt8,ew c=Zk->wj c=Zk:=by have:∀n:Fin 256,ew (j_ n.val)=Zk->wj (j_ n.val)=Zk:=WS;intro c;have:=this ⟨c.toNat,c.toNat_lt⟩;exact OY
def nG{f:I5}{g:Int}(k:k6 z wh f b h g=Zk):(∀i,i<64->wj (z i)=Zk)/\(b=-1\/(0<=b/\b<64))/\(0<=h/\h<=65535)/\(1<=g/\g<=65535):=by unfold k6 cK at k;simp only[qH]at k;obtain⟨a,⟨⟨⟨⟨⟨_,_⟩,_⟩,j⟩,d⟩,_⟩⟩:=k;refine⟨λi e=>?_,Eu j,(tZ d).1,(tZ d).2⟩;unfold xO at a;exact BP _ (qW.1 a i (qK.2 e))
def Aj{f:I5}{g:Int}(r:jE z wh f b h g PA):∃A,A.size=64/\(∀i,i<64->A[i]?=I Zg (z i).toNat)/\PA=kU A wh (f 0) (f 1) (f 2) (f 3) b h g:=by
 have j:(PA.extract 0 64).size=64:=by rw[Array.size_extract,r.size];rfl
 have e:∀i,i<64->(PA.extract 0 64)[i]?=I Zg (z i).toNat:=λi k=>UY;refine⟨PA.extract 0 64,j,e,?_⟩;have a:=qkb z _ j e wh f b h g;apply YV;intro i;by_cases d:i<64
 .rw[r.sq i d,a.sq i d]
 by_cases l:i<72
 .have:i=64\/i=65+0\/i=65+1\/i=65+2\/i=65+3\/i=69\/i=70\/i=71:=O;obtain rfl|rfl|rfl|rfl|rfl|rfl|rfl|rfl:=this
  .rw[r.wh,a.wh]
  .rw[r.c 0 O,a.c 0 O]
  .rw[r.c 1 O,a.c 1 O]
  .rw[r.c 2 O,a.c 2 O]
  .rw[r.c 3 O,a.c 3 O]
  .rw[r.b,a.b]
  .rw[r.h,a.h]
  rw[r.g,a.g]
 rw[Z6 Vw,Z6 (by rw[a.size];omega)]
def qy{b:Nat}{t:TypeId}(h:w.heap[b]?=Z A t):zJ b A w:=⟨(qB.1 h).1,λj v a=>by rw[Zs h,Z2,<-qO];exact a⟩
def cG(z:I2){f a:I5}(h:∀i,i<4->f i=a i):jH z f=jH z a:=by
 have e:∀f:I5,jH z f=(zX z f 0&&(zX z f 1&&(zX z f 2&&zX z f 3))):=λf=>by show([0,1,2,3]:List Nat).all (zX z f)=_;simp[Wc]
 rw[e,e];simp only[zX,xN,h 0 O,h 1 O,h 2 O,h 3 O]
def fx(z:I2)(wh:Bool){f a:I5}(b h g:Int)(k:∀i,i<4->f i=a i):k6 z wh f b h g=k6 z wh a b h g:=by unfold k6 cK;rw[cG z k]
def qx{f:I5}{g:Int}(r:jE z wh f b h g PA):PA.all (·.oneCell')=Zk:=by obtain⟨A,a,d,rfl⟩:=Aj r;refine(qzd ⟨a,?_⟩ wh (f 0) (f 1) (f 2) (f 3) b h g).2;rw[Array.all_eq_true];intro i e;have:=d i O;rw[qQ e]at this;simp only[Xh]at this;rw[this];rfl
theorem sx:∀{l:I1}{c:UInt8}{k:Nat},(∀j,j<k->l[j]?≠S c)->l[k]?=c->e_ l c=(k:Int)
 | [],_,_,_,h=>by simp at h
 | b::l,c,0,_,h=>by
  have:b=c:=Vq
  unfold e_;simp[this]
 | b::l,c,k+1,hn,h=>by
  have a:(b==c)=Zl:=by have:=hn 0 O;simpa using this
  have d:=sx (l:=l) (c:=c) (k:=k) (λj e=>by have:=hn (j+1) O;simpa using this) Vq;rw[e_,a,d];have:((k:Int)==-1)=Zl:=WU
  simp[this]
theorem sw:∀{l:I1}{c:UInt8},(∀j,j<l.length->l[j]?≠S c)->e_ l c=-1
 | [],_,_=>rfl
 | b::l,c,hn=>by
  have a:(b==c)=Zl:=by have:=hn 0 WU;simpa using this
  have d:=sw (l:=l) (c:=c) (λj e=>by have:=hn (j+1) WX;simpa using this);rw[e_,a,d];rfl
def yP(k:Nat)(b:Bool):UInt8:=xU.getD (if b then k else k+6) 0
def xY(i:Nat):Int:=if 2<=i then 60 else 4
def vN(i:Nat):Int:=(if 2<=i then 56 else 0)+(if i%2=0 then 6 else 2)
def zD(i:Nat):Int:=(if 2<=i then 56 else 0)+(if i%2=0 then 7 else 0)
def CE{p:I5}(h:∀j,j<k->p j=Zl)(d:p k=Zk)(a:k<64):(h_ 64).find? p=k:=by simp_all
def CD{p:I5}(h:∀j,j<64->p j=Zl):(h_ 64).find? p=N:=by rw[List.find?_eq_none];intro j a;rw[h j (qK.1 a)];decide
def qkm{b:Bool}(h:∀j,j<k->(z j==vk b)=Zl)(d:(z k==vk b)=Zk)(a:k<64):xR z b=(k:Int):=by rw[xR,CE h d a]
def aC{b:Bool}(h:∀j,j<64->(z j==vk b)=Zl):xR z b=-1:=by rw[xR,CD h]
section
open Go.Sort
def W3(w:I6)(PA:I0)(k0 k1 m0 m1:Nat):I6:=((w.alloc (Z PA 70)).alloc (Z #[I L k0,I L k1] 281)).alloc (Z #[I L m0,I L m1] 281)
def zJ.at'{b:Nat}(h:zJ b A w)(a:A[i]?=v):w.cell? ⟨b,i,N⟩=v:=by have:=h.2 i v (by rw[qO];exact a);rwa[Z2]at this
def fC(b:Bool)(j:Int):Int:=if j=5 then(if b then 75 else 107)else if j=3 then(if b then 82 else 114)else(if b then 80 else 112)
def i8:fC Zk 5=75:=R
def lA:fC Zk 3=82:=R
def lB:fC Zl 5=107:=R
def lC:fC Zl 3=114:=R
def vg{p:UInt8->Prop}(h:∀n:Fin 256,p (j_ n.val))(c:UInt8):p c:=by have:=h ⟨c.toNat,c.toNat_lt⟩;exact OY
structure Wd(gw:Nat)(xs:I3)(cur:I6):Prop where
 lt:gw<cur.heap.size
 at':∀(j:Nat)(h:j<xs.length),cur.cell? ⟨gw,j,N⟩=S (Zb xs[j])
def Wd.next{b:Nat}{d:I3}{cur:I6}(h:Wd b d cur)(g:Gr cur a):Wd b d a:=⟨qN h.lt (ZR g),λj e=>(ZW g (p:=⟨b,j,N⟩) h.lt).trans (h.at' j e)⟩
def Wd.far{a bp:Nat}{d:I3}{cur:I6}(h:Wd a d cur)(b:a≠bp):Wd a d (cur.setCell ⟨bp,i,N⟩ v):=by refine⟨by rw[World.size_setCell];exact h.lt,λj e=>?_⟩;rw[X9 (w:=cur) (Yg cur ⟨bp,i,N⟩ v a b)];exact h.at' j e
def jE.congr{e:I2}{f d:I5}{g:Int}(r:jE z wh f b h g PA)(k:∀i,i<64->z i=e i)(j:∀i,i<4->f i=d i):jE e wh d b h g PA:=⟨r.size,λi a=>by rw[<-k i a];exact r.sq i a,r.wh,λi a=>by rw[<-j i a];exact r.c i a,r.b,r.h,r.g⟩
def zy{d:Array Oper}{op:Oper}{a:Act}(j:PA.size=72){S:I6->Prop}(g:Region.wanted op (yielded d a.tmps)=Zk)(x:Operand)(f:op.op=.load 70 x)(b:Nat)(i:a.eval x=ZI b)(e:∀w,S w->zJ b PA w):YieldsIf c_ d S op PA a:=by have:=XW (P:=c_) g 70 x f b 0 i PA.toList _ (λw h=>(e w h).2) s_ rfl (by rw[q9];simp[j]);rwa[Yb]at this
def uY(f t:Nat)(u:UInt8):I1:=xQ f++xQ t++(if u=0 then[]else[u])
def xJ(l:I1):I4:=⟨l.toArray⟩
def F6(a b:I1):xJ a++xJ b=xJ (a++b):=by unfold xJ;apply ByteArray.ext;simp
def sO{f t u:Int}{ty:TypeId}(g:Gr (w.alloc (Z #[f,t,I Zg u] ty)) w'):Gr (w.alloc (Z #[f,t,I Zg u] ty)) w'/\w'.cell? w=I L f/\w'.cell? ⟨w,1,N⟩=I L t/\w'.cell? ⟨w,2,N⟩=I Zg u:=by have a:w'.heap[w.heap.size]?=Z #[f,t,I Zg u] ty (0,0):=(Zz g (by rw[Z3];exact Nat.lt_succ_self _)).trans (ZQ w _);refine⟨g,?_,?_,?_⟩<;>(simp only[World.cell?];rw[a];rfl)
structure Gd(w w':I6):Prop where
 gr:Gr w w'
 dr:w.drawn<=w'.drawn
def s4{q:Prop}(h:Gd w1 a/\q):Gd w1 a:=h.1
def Gd.refl(w:I6):Gd w w:=⟨q_ w,Zy⟩
def Gd.trans{b c:I6}(h:Gd a b)(k:Gd b c):Gd a c:=⟨o_ h.1 k.1,q7 h.2 k.2⟩
def Gd.alloc{b:I6}(h:Gd a b)(c:I0)(t:TypeId):Gd a (b.alloc (Z c t)):=⟨h.1.alloc c t,h.2⟩
def Gd.drew{b:I6}(h:Gd a b):Gd a b.drew:=⟨h.1.drew,q7 h.2 (Nat.le_succ _)⟩
def D9{f t u:Int}{ty:TypeId}(g:Gd (w.alloc (Z #[f,t,I Zg u] ty)) w'):Gd (w.alloc (Z #[f,t,I Zg u] ty)) w'/\w'.cell? w=I L f/\w'.cell? ⟨w,1,N⟩=I L t/\w'.cell? ⟨w,2,N⟩=S (I Zg u):=⟨g,(sO g.1).2⟩
def gI(n:Nat)(h:n<64)(w:I6):i_ c_ 69 #[n] w λe w'=>e=Zd (Zb ⟨(xQ n).toArray⟩)/\Gd w w':=by
 have b:((j_ (97+n%8)).toNat:Int)=97+(n:Int)%8:=WX;have d:((j_ (49+n/8)).toNat:Int)=49+(n:Int)/8:=WX;have a:=qq4 (w.alloc (Z #[I Zg (97+(n:Int)%8),I Zg (49+(n:Int)/8)] 5)) ⟨w,0,N⟩ 2 (xQ n) (by
  intro i g;rw[X2,Z2,Z8 _ _ _ _ R];have:i=0\/i=1:=by simp[xQ]at g;omega
  obtain rfl|rfl:=this
  .show S (I Zg (97+(n:Int)%8))=I Zg ((j_ (97+n%8)).toNat:Int);rw[b]
  show S (I Zg (49+(n:Int)/8))=I Zg ((j_ (49+n/8)).toNat:Int);rw[d])
 have f:(convert 145 9 (Zq (S w) 2 2)).run c_ (w.alloc (Z #[I Zg (97+(n:Int)%8),I Zg (49+(n:Int)/8)] 5))=.ok (Zb ⟨(xQ n).toArray⟩) (w.alloc (Z #[I Zg (97+(n:Int)%8),I Zg (49+(n:Int)/8)] 5)):=a;go_in;go_wp2;go_ret;exact⟨R,(Gd.refl _).alloc _ _⟩
def gL(f t:Nat)(H:f<64)(J:t<64)(u:UInt8)(w:I6):i_ c_ 38 #[ZJ f t u] w λe w'=>e=Zd (xJ (uY f t u))/\Gd w w':=by
 obtain⟨v,b⟩:∃v:Nat->I4,Y (∀n,v n=xJ (xQ n)):=⟨λn=>xJ (xQ n),X (λ_=>R)⟩;have hN:Y (∀n:Nat,n<64->∀W,i_ c_ 69 #[n] W λe w'=>e=Zd (v n)/\Gd W w'):=X (λn h W=>by rw[b.a];exact gI n h W);go_in;have a:Y (xJ (uY f t u)=xJ (xQ f++xQ t)++xJ (if u=0 then[]else[u])):=(by rw[F6];rfl);have r:(xJ (xQ f++xQ t)).size=4:=R;obtain⟨k,l⟩:∃x,Y (x=xJ (xQ f++xQ t)):=⟨_,X R⟩;have D:∀W:I6,(k_ .add (v f) (v t)).run c_ W=.ok k W:=λW=>UH;rw[<-l.a]at r a;go_wp2;have j:Y (∀w',Gd (w.alloc (Z (ZJ f t u) 87)) w'->_):=λw' g=>D9 g;have o:Gd w (w.alloc (Z (ZJ f t u) 87)):=(Gd.refl w).alloc _ _;have d:=X o;generalize w.alloc _=w1 at j d|-;go_region_held3 (λw'=>Gd w1 w'/\w'.cell? w=I L f/\w'.cell? ⟨w,1,N⟩=I L t/\w'.cell? ⟨w,2,N⟩=I Zg u.toNat) (first|exact j.a _ (Gd.refl _).drew|exact j.a _ ‹_›) (first|(go_at_call 69;refine Z0 (hN.a _ O _) λw' C=>?_;have A:=Gd.trans (s4 ‹_›) C));rename_i E;obtain⟨p,c0,c1,c2⟩:=E;have q:Y (Gd w w'):=X (Gd.trans d.a p);by_cases y:u=0
 .exact Ia
 have K:((u.toNat:Int)!=0)=Zk:=qU.2 (λe=>y (q6.1 VI));have z:Y (xJ (uY f t u)=k++(⟨#[u]⟩:I4)):=X (by rw[a.a,qF y];rfl);have G:∀W:I6,(k_ .add k (⟨#[u]⟩:I4)).run c_ W=.ok (k++(⟨#[u]⟩:I4)) W:=λW=>Xy W k _ (by show k.size+1<=_;rw[r];decide);have m:=qq4 (w'.alloc (Z #[I Zg u.toNat] 5)) ⟨w',0,N⟩ 1 [u] (by
  intro i F;rw[X2,Z2,Z8 _ _ _ _ R];have:i=0:=by simp at F;omega
  subst this;rfl)
 have B:(convert 145 9 (Zq (S ⟨w',0,N⟩) 1 1)).run c_ (w'.alloc (Z #[I Zg u.toNat] 5))=.ok (Zb ⟨#[u]⟩) (w'.alloc (Z #[I Zg u.toNat] 5)):=m;go_wp2;go_ret;exact⟨by rw[z.a];rfl,Gd.alloc q _ _⟩
def gK(f t:Nat)(a:f<64)(b:t<64)(u:UInt8)(w:I6):ZL 38 #[ZJ f t u] w (xJ (uY f t u)):=(gL f t a b u w).mono λ_ _ h=>⟨h.1,h.2.1⟩
def TM(o:Obj):Prop:=∃c fr,o=Z c 87 fr
def TM.cells{o:Obj}(h:TM o):o.isCells=Zk:=by obtain⟨c,fr,rfl⟩:=h;rfl
def vO(xs:List Mv):List I7:=xs.flatMap λx=>(pU x).toList
def pt(a:List Mv)(x:Mv):vO (a++[x])=vO a++(pU x).toList:=by simp[vO]
def bU(a:List Mv):(vO a).length=a.length*3:=by
 induction a with
 | nil=>rfl
 | cons x r ih=>rw[vO,List.flatMap_cons,qZ,Yq];have:=ih;rw[vO]at this;rw[this];simp[pU];omega
def BK{b:I6}{d:List I7}(h:W.ownsRow base 87 3 v n d)(f:Fr Q W b)(l:∀k o,TM o->Q k o):b.ownsRow base 87 3 v n d:=by
 refine⟨h.1,?_⟩;obtain e|⟨g,cap,cur,m,i,j,a⟩:=h.2
 .exact Zi e
 exact Zj ⟨g,cap,cur,m,i,f.same _ _ j (l _ _ ⟨_,_,R⟩),a⟩
def Ea:(c_.info? 87).map (λi=>(i.zero,i.size,i.bytes))=S (S (Zc #[I L 0,I L 0,I Zg 0]),3,24):=WR
def qk0{lb:I0}{C:Nat->Prop}{H:List Mv}(P:It c_ g lb vr TM C H w)(M:∀args w,(callFunc g args).run c_ w=.ok (.enter g args) w)(x:∀k,C k->k<w.heap.size)(a6:H.length<=1000000):i_ c_ 296 #[Zq N 0 0,.func (.func g) #[] lb] w λe w'=>∃v,e=Zd v/\w'.ownsRow w 87 3 v H.length (vO H)/\Gr w w':=by
 obtain⟨i0,a1,a4,b6,a0⟩:=We Ea;refine(ZY (n:=9)).1 ?_;refine callsIn_of_wp_marks func296 rfl x_ ?_ R;simp only[ntmps296,Nat.reduceAdd,Nat.reduceSub,Zr];apply Z9.2;go_wp2;have h1:=ZQ w (Z #[Zq N 0 0] 122);have y:Gr w (w.alloc (Z #[Zq N 0 0] 122)):=ZN;have W:(w.alloc (Z #[Zq N 0 0] 122)).heap.size=w.heap.size+1:=Z3 _ _;have F:(w.alloc (Z #[Zq N 0 0] 122)).ownsRow w 87 3 (Zq N 0 0) 0 (vO []):=⟨R,Zi ⟨R,R⟩⟩;generalize w.alloc _=w1 at h1 y W F|-;refine Z9.1 (xj (n:=9) (gf:=g) (lb:=lb) R M P (λ_ h=>h.cells) (λk hk=>by have:=x k hk;omega) (p_ y) (λ_=>R)
  (λm V=>(∃v,V.heap[w.heap.size]?=Z #[v] 122/\V.ownsRow w 87 3 v m.length (vO m))/\Gr w V/\w1<=V.heap.size)
  (λ_ _ _=>False)
  ?sI (λ_ _ _ _ h _=>h) ⟨⟨_,h1,F⟩,y,Zy⟩ ?rnd ?done (λ_ _ _ _ _ _ h _=>h.elim))
 case sI=>rintro s A A' ⟨⟨v,p,i⟩,d,B⟩ f;exact⟨⟨v,f.same _ _ p (Zi O),BK i f (λk o h=>Zj h)⟩,u_ d (f.below (n:=w) (ZR d) (λk o hk=>Zi O)),q7 B f.size⟩
 case done=>rintro D V hD ⟨⟨v,p,i⟩,d,B⟩ hK;have c1:=(qi p).1;go_wp2;refine⟨WU,Zi ⟨_,_,R,YU hK,?_⟩⟩;exact⟨_,Wh R _ _ _,v,R,ownsRow_putObj i _ hK R,u_ d (XZ (w:=w1) (n₀:=w) O _ D _ _ hD hK R R)⟩
 case rnd=>
  rintro l1 m ⟨fr,n,u⟩ V a7 hx ⟨⟨v,p,i⟩,d,B⟩ hl;have b0:l1<V:=hl.elim λr hr=>(qB.1 hr).1;simp only[vr,gJ];gi_wp2;refine⟨ZP.alloc _,?_⟩;intro z f2 J b1;obtain⟨⟨v,p,i⟩,d,B⟩:=J;have kx:z.heap[V.heap.size]?=Z (ZJ fr n u) 87:=f2.same _ _ (ZQ V _) O;generalize V.heap.size=Bx at kx|-;obtain⟨x0,x1,x2⟩:=qm kx;have c1:=(qi p).1;have b2:m.length+1<=H.length:=by have:=hx.length_le;simpa using this
  have K:Boxed z w 122 v:=p;have b3:∀j u',[I L (fr:Int),I L n,I Zg u.toNat][j]?=S u'->(z.alloc (Z (ZJ fr n u) 87)).cell? ((⟨z,0,N⟩:Addr).add j)=S u':=λj u' hu=>by rw[X2,Z2,Z8 _ _ _ _ R,<-qO];exact hu
  gi_wp2_with (gi_at_builtin;refine wpListIn_append_own _ R _ _ 122 rfl w 87 i0 (Zc #[I L 0,I L 0,I Zg 0]) 3 24 underlying122 a1 a4 b6 a0 R WW _ _ _ R (i.alloc _) ⟨z,0,N⟩ 1 1 [I L fr,I L n,I Zg u.toNat] R R b3 Vi Vk O (by have:=ZR d;simp;omega) ?_;intro v' w5 b a _;obtain⟨g',a5,rfl⟩:=ownsRow_succ b;obtain⟨G,a3,T,E,l⟩:=K.appended WW i (ZR d) Zy b a;have a8:=G.cell;have a9:=G.frozen);refine⟨⟨l.os,l.tape,l.output,E.size,λk o e q=>?_⟩,⟨_,a3,?_⟩,u_ d l,q7 B E.size⟩
  .have b4:k<z.heap.size:=(qB.1 e).1;have Q:k≠w.heap.size:=by
    rintro rfl;obtain q|q:=q
    .have:=x _ q;omega
    omega
   have a2:¬S k=v.ownBlock:=λeb=>by
    obtain⟨rfl,_⟩|⟨g2,cap,cur,rfl,hb,b5,_⟩:=i.2
    .simp[Value.ownBlock]at eb
    obtain rfl:k=g2:=(by simpa[Value.ownBlock]using eb);rw[b5]at e;cases e;obtain q|q:=q
    .have:=x _ q;omega
    exact q.2 ⟨_,_,R⟩
   rw[Yg _ _ _ _ Q,a.block k Vj a2,YP _ _ _ b4];exact e
  rw[pt,qZ];exact T
def aN{lb:I0}{C:Nat->Prop}{b:List Mv}(i:It c_ g lb vr TM C b w)(h:∀args w,(callFunc g args).run c_ w=.ok (.enter g args) w)(d:∀k,C k->k<w.heap.size)(a:b.length<=1000000):i_ c_ 244 #[.func (.func g) #[] lb] w λe w'=>∃v,e=Zd v/\w'.ownsRow w 87 3 v b.length (vO b)/\Gr w w':=by have f:=qk0 i h d a;go_in;go_wp2_with(go_at_call 296;apply f.mono;rintro e w' ⟨v,rfl,l,j⟩);go_ret;exact⟨v,R,l,j⟩
def Gd.grown(h:Gd w w'):∃q os,w'=grow (w.drewN q) os:=by
 refine⟨w'.drawn-w.drawn,w'.heap.extract w w',?_⟩;have a:=h.gr;have j:w'.heap=w.heap++w'.heap.extract w w':=by
  apply YV;intro i;by_cases d:i<w
  .rw[Xx d];exact YG a i d
  rw[Yw O,Array.getElem?_extract];by_cases b:i<w'
  .rw[qI O,Nat.add_sub_cancel' O]
  rw[qF O];exact Z6 O
 have e:=Below.os a;have b:=Below.tape a;have f:=Below.output a;have k:=h.dr;have g:(w.drewN (w'.drawn-w.drawn)).drawn=w'.drawn:=by show w.drawn+(w'.drawn-w.drawn)=_;omega
 unfold grow;show w'={ heap:=w.heap++_,tape:=w.tape,drawn:=(w.drewN (w'.drawn-w.drawn)).drawn,os:=w.os,output:=w.output };rw[g,<-e,<-b,<-f,<-j]
def nA(x y:I4):Int:=if Op.bytesLess x.toList y.toList then -1 else if !(Op.bytesLess x.toList y.toList||x.toList==y.toList)then 1 else 0
def B9(x y:I4)(W:I6):(k_ .gtr x y).run c_ W=.ok (Za !(Op.bytesLess x.toList y.toList||x.toList==y.toList)) W:=R
def i6(x:I4)(W:I6):(k_ .neq x x).run c_ W=.ok Zl W:=by have h:(x.toList==x.toList)=Zk:=WU;show(pure (Za !(x.toList==x.toList)):Sem I7).run c_ W=_;rw[h];rfl
def mu(x:I4)(w:I6):i_ c_ 246 #[x] w λe w'=>e=Zd Zl/\w'=w:=by have a:=i6 x;go_in;exact Wz
def aM(x y:I4)(w:I6):i_ c_ 188 #[x,y] w λe w'=>e=Zd (nA x y)/\w'=w:=by
 have a:=B9 x y;go_in;go_wp2_with(go_at_call 246;apply Z1 (mu _ _));all_goals
  go_ret;refine⟨?_,R⟩;unfold nA;simp_all
def mo:I7:=.func (.func 38) #[] #[]
def te{x y:I0}{ty:TypeId}(h:x.size=3)(i:y.size=3)(b:w.cell? B=v)(g:Gd ((w.alloc (Z x ty)).alloc (Z y ty)) w'):Gd ((w.alloc (Z x ty)).alloc (Z y ty)) w'/\w'.cell? B=v/\w'.cell? w=S x[0]/\w'.cell? ⟨w,1,N⟩=S x[1]/\w'.cell? ⟨w,2,N⟩=S x[2]/\w'.cell? ⟨w+1,0,N⟩=S y[0]/\w'.cell? ⟨w+1,1,N⟩=S y[1]/\w'.cell? ⟨w+1,2,N⟩=S y[2]:=by
 have a:=Zx b;have a:B<w:=a;have j:((w.alloc (Z x ty)).alloc (Z y ty)).heap.size=w.heap.size+2:=WU;have d:w'.heap[B]?=w.heap[B]?:=(YG g.gr _ O).trans (by rw[YP _ _ _ Vj,YP _ _ _ a]);have e:w'.heap[w.heap.size]?=Z x ty (0,0):=(YG g.gr _ O).trans (by rw[YP _ _ _ Vj];exact ZQ w _);have f:w'.heap[w.heap.size+1]?=Z y ty (0,0):=(YG g.gr _ O).trans (by have:=ZQ (w.alloc (Z x ty)) (Z y ty);rw[Z3]at this;exact this);refine⟨g,?_,?_,?_,?_,?_,?_,?_⟩
 .rw[<-b];exact X9 d
 all_goals first|(simp only[World.cell?];rw[e];simp[h];done)|(simp only[World.cell?];rw[f];simp[i];done)
def dp(f t:Nat)(u:UInt8)(d h:Nat)(i:UInt8)(o:f<64)(p:t<64)(r:d<64)(z:h<64)(B:Nat)(w:I6)(k:w.cell? B=S mo):i_ c_ 187 #[Zc (ZJ f t u),Zc (ZJ d h i),ZI B] w λe w'=>e=Zd (I L (nA (xJ (uY f t u)) (xJ (uY d h i))))/\Gd w w':=by obtain⟨n,b⟩:∃n:Nat->Nat->UInt8->I4,Y (∀f t u,n f t u=xJ (uY f t u)):=⟨λf t u=>xJ (uY f t u),X (λ_ _ _=>R)⟩;have hN:Y (∀f t u,f<64->t<64->∀W,i_ c_ 38 #[Zc #[(f:Nat),(t:Nat),I Zg (u:UInt8).toNat]] W λe w'=>e=Zd (Zb (n f t u))/\Gd W w'):=X (λf t u o p W=>by rw[b.a];exact gL f t o p u W);rw[<-b.a,<-b.a];have l:Y (∀x y W,i_ c_ 188 #[Zb x,Zb y] W λe w'=>e=Zd (nA x y)/\w'=W):=X aM;go_in;go_wp2;unfold mo at k;have a:=X (λw' g=>te (w:=w) (w':=w') (x:=(ZJ f t u)) (y:=(ZJ d h i)) (ty:=87) R R k g);have j:Y (Gd w ((w.alloc (Z (ZJ f t u) 87)).alloc (Z (ZJ d h i) 87))):=X (((Gd.refl w).alloc _ _).alloc _ _);simp only[List.getElem_toArray,XJ,X0]at a;generalize (w.alloc _).alloc _=w1 at a j|-;go_region_held3 (λw'=>Gd w1 w'/\w'.cell? B=S (.func (.func 38) #[] #[])/\w'.cell? w.heap.size=S (I L f)/\w'.cell? ⟨w.heap.size,1,N⟩=S (I L t)/\w'.cell? ⟨w.heap.size,2,N⟩=S (I Zg u.toNat)/\w'.cell? ⟨w.heap.size+1,0,N⟩=S (I L d)/\w'.cell? ⟨w.heap.size+1,1,N⟩=S (I L h)/\w'.cell? ⟨w.heap.size+1,2,N⟩=S (I Zg i.toNat)) (first|exact a.a _ (Gd.refl _).drew|exact a.a _ ‹_›) (first|(go_at_call 38;refine Z0 (hN _ _ _ O O _) λw' v=>?_;have m:=Gd.trans (s4 ‹_›) v)|(go_at_call 188;refine Z1 (l _ _ _) ?_;have m:=s4 ‹_›));rename_i q;go_wp2;go_ret;exact⟨R,Gd.trans j.a q.1⟩
def yJ(x:Mv):I1:=uY x.1 x.2.1 x.2.2
def bi(x:Mv):Prop:=x.1<64/\x.2.1<64
abbrev Mo:={x:Mv // bi x}
instance:Inhabited Mo:=⟨⟨(0,0,0),by decide,by decide⟩⟩
def yp(x:Mo):List I7:=(pU x.1).toList
def ww(x y:Mo):Int:=nA (xJ (yJ x.1)) (xJ (yJ y.1))
def n8(x y:Mv):Bool:=Zm (yJ x<yJ y)
def bK(l:I1):(xJ l).toList=l:=by rw[Xl];rfl
theorem Fs(x y:Mo):ltOf ww x y=n8 x.1 y.1:=by
 unfold ltOf ww nA n8;rw[bK,bK,bytesLess_eq];by_cases h:yJ x.1<yJ y.1
 .simp[h]
 by_cases a:yJ x.1=yJ y.1
 .have b:=h;rw[a]at b;rw[a];simp[b]
 simp[h,a]
theorem qbH:SWO (ltOf ww) where
 irrefl x:=by rw[Fs];simp[n8]
 trans x y z h1 h2:=by rw[Fs]at *;simp only[n8,qG]at *;exact List.lt_trans h1 h2
 ntrans x y z h1 h2:=by rw[Fs]at *;simp only[n8,qX]at *;exact λh=>h2 (List.lt_of_le_of_lt (Wn.1 h1) h)
def bo{a b:Nat}(f:a<64)(g:b<64)(h:xQ a=xQ b):a=b:=by unfold xQ at h;simp only[X7,and_true]at h;have d:=Xn UInt8.toNat h.1;have e:=Xn UInt8.toNat h.2;simp at d e;omega
theorem AV{x y:Mv}(g:bi x)(i:bi y)(h:yJ x=yJ y):x=y:=by
 obtain⟨f,t,u⟩:=x;obtain⟨n,o,j⟩:=y;unfold yJ uY at h;simp only[qS]at h;have d:=List.append_inj h R;have e:=List.append_inj d.2 R;have a:=bo g.1 i.1 d.1;have b:=bo g.2 i.2 e.1;have k:u=j:=by have:=e.2;by_cases l:u=0<;>by_cases m:j=0<;>simp[l,m]at this<;>simp_all
 simp only at a b;rw[a,b,k]
def qbG(x y:Mo)(a:ltOf ww x y=Zl)(b:ltOf ww y x=Zl):x=y:=by grind[Fs,n8,qX,AV]
def jI(xs:List Mv):List Mv:=xs.mergeSort λx y=>!n8 y x
theorem xq(a:List Mv):(jI a).Perm a:=List.mergeSort_perm _ _
def qj7(a:List Mv):(jI a).length=a.length:=List.length_mergeSort _
def ut(a:List Mv):∀j:Nat,(vO a)[j]?=(a[j/3]?).bind λx=>(pU x).toList[j%3]?:=by
 induction a with
 | nil=>intro j;simp[vO]
 | cons x r ih=>
  intro j;have e:vO (x::r)=(pU x).toList++vO r:=by simp[vO]
  have b:(pU x).toList.length=3:=R;rw[e];by_cases h:j<3
  .rw[List.getElem?_append_left O,Nat.div_eq_of_lt h,Nat.mod_eq_of_lt h];rfl
  obtain⟨k,rfl⟩:∃k,j=k+3:=⟨j-3,O⟩;rw[List.getElem?_append_right O,b,Nat.add_sub_cancel,ih k,Nat.add_div_right k WW,Nat.add_mod_right];rfl
def aH(d:Array Mo)(j:Nat)(h:j<d.size*3):(vO (d.toList.map (·.1)))[j]?=(flatK yp 3 d)[j]!:=by have a:j/3<d.size:=Nat.div_lt_of_lt_mul O;have b:j%3<3:=Nat.mod_lt _ WW;rw[ut,get_flatK yp 3 d j h,YN,qO,qQ a,getElem!_pos d (j/3) a];show(yp d[j/3])[j%3]?=_;rw[getElem!_pos (yp d[j/3]) (j%3) (show j%3<3 from b)];exact Yf _
def Bj:∀w,(isAgg 87).run c_ w=.ok Zk w:=Tryz.isAgg87
def Dd:∀w,(Go.sizeOf 87).run c_ w=.ok 3 w:=Tryz.sizeOf87
def eg1:∀args w,(callFunc 187 args).run c_ w=.ok (.enter 187 args) w:=YC func187 WR R
def tX(B a b n:Nat)(w:I6)(i:w.cell? B=S mo)(g:B≠a):CmpLays c_ 187 #[ZI B] yp 3 ww a b n w:=by intro m os h _ x y;have o:B<w.heap.size:=Zx i;have d:(sortWorldK yp 3 w a b m h os).cell? B=S mo:=(cell?_sortWorldK_other yp 3 w a b m h os ⟨B,0,N⟩ g o).trans i;obtain⟨⟨f,t,u⟩,j⟩:=x;obtain⟨⟨l,q,r⟩,k⟩:=y;refine Z0 (dp f t u l q r j.1 j.2 k.1 k.2 B _ d) λw' p=>?_;exact⟨R,p.grown⟩
def rA{cur:I0}{d d':Array Mo}{e:TypeId}{os:Array Obj}(f:w.heap[g]?=Z cur e (0,0))(k:d'.size=d.size)(i:d.size*3<=cur.size):∃a:I0,(sortWorldK yp 3 w g 0 n d' os).heap[g]?=Z a e (0,0)/\a.size=cur.size/\a.toList.take (d.size*3)=vO (d'.toList.map (·.1)):=by
 have b:g<w:=(qB.1 f).1;refine⟨putCells id 0 (flatK yp 3 d') cur,?_,by simp[putCells],?_⟩
 .unfold sortWorldK putRowK putRow mapBlock grow;show((w.heap.modify g _)++os)[g]?=_;rw[Xx VE,Array.getElem?_modify,qI R,f];rfl
 apply List.ext_getElem?;intro j;by_cases h:j<d.size*3
 .rw[Xi h,aH d' j O,qO];rw[putCells,Array.getElem?_mapIdx,qQ O];show S (if 0<=j/\j<0+(flatK yp 3 d').size then _ else _)=_;rw[qI WX];rfl
 rw[Y9 (by rw[Xt];omega),Y9];rw[bU];simp;omega
def eN{d':Array Mo}{os:Array Obj}(b:base<=g)(a:g<w):Below base w (sortWorldK yp 3 w g 0 n d' os):=by
 refine⟨R,R,R,?_,λk d=>?_⟩
 .exact size_sortWorldK_c _ _ _ _ _ _ _ _
 unfold sortWorldK putRowK putRow mapBlock grow;show((w.heap.modify g _)++os)[k]?=_;rw[Xx WX,Array.getElem?_modify,qF O]
def dK{f:List Mv}(Q:∀x∈f,bi x)(S:f.length<=1000000)(F:w.ownsRow base 87 3 v f.length (vO f))(K:w.cell? B=some mo)(L:B<base):i_ c_ 245 #[v,.func (.func 187) #[] #[ZI B]] w λe w'=>e=Zd (Ze #[])/\w'.ownsRow base 87 3 v f.length (vO (jI f))/\Below base w w':=by
 obtain⟨rfl,J⟩|⟨g,cap,cur,rfl,E,o,A,P,p,C⟩:=F.2
 .have W:f=[]:=List.eq_nil_of_length_eq_zero J;subst W;refine i_.mono (AnyF.slices_SortFunc_none { Tryz.sortL with } N 0 _ w) ?_;rintro e w' ⟨rfl,rfl⟩;exact⟨R,by rw[show jI []=[] by simp[jI]];exact F,XL _ _⟩
 .have l:g<w.heap.size:=(qB.1 o).1;obtain⟨d,q⟩:∃d:Array Mo,d.toList.map (·.1)=f:=⟨(f.attach.map λx=>(⟨x.1,Q x.1 x.2⟩:Mo)).toArray,by simp only[List.map_map,Function.comp_def];exact List.attach_map_subtype_val f⟩;have i:d.size=f.length:=by rw[<-q];simp
  have M:HoldsK yp 3 w g 0 d:=by
   intro j a0;have r:j<d.size*3:=(by simpa using a0);have u:j<f.length*3:=O;have a1:j<cur.size:=(by have:=XT 3 A;omega);have h:cur[j]?=some ((flatK yp 3 d)[j]!):=(by rw[<-aH d j r,q,<-C,Xi u,qO]);constructor
   .simp only[World.cell?,Z2];rw[o];exact h
   .simp only[World.frozen?,Z2];rw[o];simp
  have D:=AnyQ.slices_SortFunc_total Tryz.sortL 3 Bj Dd yp (λ_=>R) (λx v G=>by
   simp[yp,pU]at G;rcases G with rfl|rfl|rfl<;>rfl) ww qbH 187 #[ZI B] g 0 cap d w eg1 (tX B g 0 d.size w K O) M l O qbG
  rw[i]at D;refine i_.mono D ?_;rintro e w' ⟨rfl,n,os,rfl⟩;have z:((d.toList.mergeSort λx y=>!(ltOf ww) y x).toArray).size=d.size:=by simp[List.length_mergeSort]
  obtain⟨k,V,T,H⟩:=rA (n:=n) (os:=os) (d:=d) (d':=(d.toList.mergeSort λx y=>!(ltOf ww) y x).toArray) o z (by rw[i,p];exact XT 3 A);have m:(((d.toList.mergeSort λx y=>!(ltOf ww) y x).toArray).toList.map (·.1))=jI f:=by rw[<-q];exact List.map_mergeSort (λa _ b _=>by rw[Fs])
  rw[m]at H;refine⟨R,⟨by rw[bU,qj7],Zj ⟨g,cap,k,R,E,V,A,P,O,by rw[<-i];exact H⟩⟩,eN E l⟩
def It.gr{α:Type}{P:Program}{lb:I0}{a:α->I0}{T:Obj->Prop}{C:Nat->Prop}{b:List α}(h:It P g lb a T C b w)(k:Gr w w'):It P g lb a T C b w':=λl B J d W f=>h l B J d W ((p_ k).trans f)
def qxn{a s:Nat}{e:TypeId}{d:List I7}(h:w.ownsRow base e s v n d)(j:a<=base):w.ownsRow a e s v n d:=by
 refine⟨h.1,?_⟩;obtain f|⟨g,cap,cur,k,i,b⟩:=h.2
 .exact Zi f
 exact Zj ⟨g,cap,cur,k,q7 j i,b⟩
def qz2{lb:I0}{C:Nat->Prop}{b:List Mv}(h:It c_ g lb vr TM C b w)(f:∀args w,(callFunc g args).run c_ w=.ok (.enter g args) w)(d:∀k,C k->k<w.heap.size)(o:∀x∈b,bi x)(a:b.length<=1000000)(B:Nat)(j:w.cell? B=mo):i_ c_ 186 #[.func (.func g) #[] lb,.func (.func 187) #[] #[ZI B]] w λe w'=>∃v,e=Zd v/\w'.ownsRow w 87 3 v b.length (vO (jI b))/\Gr w w':=by have p:=aN h f d a;have n:=Zx j;have r:∀v W,W.ownsRow w 87 3 v b.length (vO b)->Gr w W->i_ c_ 245 #[v,.func (.func 187) #[] #[ZI B]] W λe w'=>e=Ze #[]/\w'.ownsRow w 87 3 v b.length (vO (jI b))/\Below w W w':=λv W q i=>dK o a q ((ZW i n).trans j) n;go_in;go_wp2_with(first|(go_at_call 244;apply p.mono;rintro e w' ⟨v,rfl,u,i⟩)|(go_at_call 245;refine Z0 (r _ _ u i) λy⟨m,l⟩=>?_));go_ret;exact⟨v,R,m,u_ i l⟩
def aE{lb:I0}{C:Nat->Prop}{b:List Mv}(i:It c_ g lb vr TM C b w)(f:∀args w,(callFunc g args).run c_ w=.ok (.enter g args) w)(d:∀k,C k->k<w.heap.size)(l:∀x∈b,bi x)(a:b.length<=1000000):i_ c_ 97 #[.func (.func g) #[] lb,.func (.func 38) #[] #[]] w λe w'=>∃v,e=Zd v/\w'.ownsRow w 87 3 v b.length (vO (jI b))/\Gr w w':=by have q:=qmf;have h:∀t,Gr w (w.alloc (Z #[.func (.func 38) #[] #[]] t)):=λt=>ZN;have r:Y (∀t,i_ c_ 186 #[.func (.func g) #[] lb,.func (.func 187) #[] #[ZI w]] (w.alloc (Z #[.func (.func 38) #[] #[]] t)) λe w'=>∃v,e=Zd v/\w'.ownsRow w 87 3 v b.length (vO (jI b))/\Gr w w'):=X (λt=>by refine(qz2 (i.gr (h t)) f (λk p=>by have:=d k p;rw[Z3];omega) l a w Ug).mono ?_;rintro e w' ⟨v,rfl,m,n⟩;exact⟨v,R,qxn m Vj,o_ (h t) n⟩);go_in;go_wp2_with(go_at_call 186;refine(r.a _).mono ?_;rintro e w' ⟨v,rfl,u,o⟩);go_ret;exact⟨v,R,u,o⟩
structure iM(gm gi:Nat)(PA:I0)(xs:List Mv)(w:I6):Prop where
 em:∀args w,(callFunc gm args).run c_ w=.ok (.enter gm args) w
 ei:∀args w,(callFunc gi args).run c_ w=.ok (.enter gi args) w
 go:∀T:Obj->Prop,(∀o,T o->∃c fr,o=Z c 87 fr)->∀W,Gr w W->i_ c_ gm #[Zc PA] W λe w'=>∃lb C,e=Zd (.func (.func gi) #[] lb)/\Gr W w'/\(∀k,C k->k<w'.heap.size)/\It c_ gi lb vr T C xs w'
 ok:∀x∈xs,bi x
 len:xs.length<=1000000
def iM.gr{b a:Nat}{d:List Mv}(h:iM b a PA d w)(g:Gr w w'):iM b a PA d w':=⟨h.em,h.ei,λT e W f=>h.go T e W (o_ g f),h.ok,h.len⟩
structure Ig(w:I6)(gm:Nat)(PA:I0)(W:I6):Prop where
 q:W.cell? ⟨w.heap.size,1,N⟩=S (.func (.func gm) #[] #[])
 pa:W.heap[w.heap.size+1]?=S (Z PA 70)
 gr:Gr w W
def Ig.next{b:Nat}(h:Ig w b PA W)(g:Gr W a):Ig w b PA a:=⟨(ZW g (Ye W _ h.q)).trans h.q,ZE g h.pa,o_ h.gr g⟩
def zG(ga gm:Nat):I0:=#[.func (.func ga) #[] #[],.func (.func gm) #[] #[]]
def qko{b:Nat}{d:List Mv}(n:PA.size=72)(m:iM b g PA d w):i_ c_ 49 #[zG f b,PA] w λe w'=>∃v,e=Zd v/\w'.ownsRow w 87 3 v d.length (vO (jI d))/\Gr w w':=by
 have A:(c_.info? 70).map (·.size)=S PA.toList.length:=by rw[ZX,n];exact jJ
 have l:=m;have em:=m.em;simp only[zG]at|-;have a:Ig w b PA ((w.alloc (Z (zG f b) 74)).alloc (Z PA 70)):=by obtain⟨B,D⟩:=x6 w (Z (zG f b) 74) (Z PA 70);exact⟨by rw[Zs B];rfl,D,ZN.al⟩
 go_in;go_upto_region 1 with fail;show n_ _ _ _ _ ((w.alloc (Z (zG f b) 74)).alloc (Z PA 70));generalize (w.alloc _).alloc _=z at a|-;have c1:=a.q;have y:=a.pa;have i:=a.gr;have r:i_ c_ b #[PA] z λe w'=>∃lb C,e=Zd (.func (.func g) #[] lb)/\Gr z w'/\(∀k,C k->k<w'.heap.size)/\It c_ g lb vr TM C d w':=l.go TM (λ_ h=>h) z a.gr;have u:∀lb C W,(∀k,C k->k<W.heap.size)->It c_ g lb vr TM C d W->i_ c_ 97 #[.func (.func g) #[] lb,.func (.func 38) #[] #[]] W λe w'=>∃v,e=Zd v/\w'.ownsRow W 87 3 v d.length (vO (jI d))/\Gr W w':=λlb C W E F=>aE F l.ei E l.ok l.len;go_wp2_with(first|(refine ZD (w+1) PA y n ?_)|(go_at_fn b;apply r.mono;rintro e w' ⟨lb,C,rfl,j,o,x⟩)|(go_at_call 97;refine(u _ _ _ o x).mono ?_;rintro e H ⟨v,rfl,G,p⟩));go_ret;exact⟨v,R,qxn G (q7 (ZR i) (ZR j)),o_ i (o_ j p)⟩
def rJ{a:List Mv}(h:w.ownsRow base 87 3 v n (vO a)):∃p cap,v=Zq p n cap/\n<=cap/\∀i,i<n->∀(f:i<a.length),∃g,p=S ⟨g,0,N⟩/\w.cell? ⟨g,i*3,N⟩=(a[i].1:Int)/\w.cell? ⟨g,i*3+1,N⟩=(a[i].2.1:Int)/\w.cell? ⟨g,i*3+2,N⟩=I Zg (a[i].2.2.toNat:Int):=by
 obtain⟨rfl,rfl⟩|⟨g,cap,cur,rfl,o,l,m,r,k,d⟩:=h.2
 .exact⟨N,0,R,Zy,λi e=>w_ e (Yy i)⟩
 refine⟨_,_,R,m,λi e f=>⟨g,R,?_⟩⟩;have b:∀c,c<3->w.cell? ⟨g,i*3+c,N⟩=(pU a[i]).toList[c]?:=λc q=>by have j:i*3+c<n*3:=O;simp only[World.cell?];rw[l];show cur[i*3+c]?=_;rw[<-qO,<-Xi j,d,ut,show(i*3+c)/3=i from O,show(i*3+c)%3=c from O,Yf f];rfl
 exact⟨b 0 WW,b 1 WW,b 2 WW⟩
def jz{α β:Type}{l:List α}{f:α->List β}(d:l.length<=n)(h:∀x∈l,(f x).length<=k):(l.flatMap f).length<=n*k:=by
 have b:∀l:List α,(∀x∈l,(f x).length<=k)->(l.flatMap f).length<=l.length*k:=by
  intro l;induction l with
  | nil=>intro _;simp
  | cons a r ih=>
   intro h;rw[List.flatMap_cons,qZ,Yq,Nat.add_mul,Nat.one_mul];have:=ih (λx e=>h x (Xg _ e));have:=h a (XE ..);omega
 exact q7 (b l h) (XT k d)
def pf(p:Bool)(f t:Nat):(xT p f t).length<=4:=by unfold xT;split<;>simp
def bB{p:Bool}{t:Nat}{x:Mv}(a:f<64)(b:t<64)(h:x∈xT p f t):bi x:=by
 unfold xT at h;split at h
 .simp only[Yj,XC,or_false]at h;rcases h with rfl|rfl|rfl|rfl<;>exact⟨a,b⟩
 rw[qT.1 h];exact⟨a,b⟩
theorem zg(z:I2)(wh:Bool)(fc:I5)(b:Int):∀x∈xC z wh fc b,bi x:=by
 intro x a;unfold xC zH yN kF bE at a;simp only[YX]at a;obtain⟨k,_,f,d,t,e,h⟩:=a;split at h
 .exact bB (ui d) (ui e) h
 cases h
def bu(z:I2)(wh:Bool)(fc:I5)(b:Int):(xC z wh fc b).length<=1000000:=by
 have h:(xC z wh fc b).length<=6*(64*(64*4)):=by
  unfold xC zH;refine jz WU λk _=>?_;refine jz (dI _) λf _=>?_;refine jz (dI _) λt _=>?_;unfold bE;split
  .exact pf _ _ _
  simp
 omega
theorem mkS{g:Int}(r:jE z wh fc b h g PA)(l:xO z=Zk)(i:-1<=b)(j:b<=63)(w:I6)(n:jF w)(m:jQ w) :
 iM 61 128 PA (xC z wh fc b) w where
 em:=YC func61 WR R
 ei:=YC func128 WR R
 ok:=zg z wh fc b
 len:=bu z wh fc b
 go:=by
  intro T f W p;refine Z0 (zk PA W) λw'⟨o,d⟩=>?_;have a:=o_ p d;refine⟨_,_,R,d,?_,qxq r l i j W T f w' o (n.gr a) (m.gr a)⟩;rintro k (rfl|rfl|rfl)
  .exact(qB.1 o).1
  .exact(n.gr a).2
  exact(m.gr a).2
