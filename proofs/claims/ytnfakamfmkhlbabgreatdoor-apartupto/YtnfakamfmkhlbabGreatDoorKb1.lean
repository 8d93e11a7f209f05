import Derived.WalkKit
import Derived.ProofKit
import Derived.Below
import Derived.Laws.Bits64
import Derived.Test.YtnfakamfmkhlbabGreatDoorProg
import Derived.OpenShut
import Derived.Outline
import Derived.WalkLawsBesides
import Derived.Lib.TrailingZeros
import Derived.Laws.Bits128
set_option maxRecDepth 100000
set_option maxHeartbeats 4000000
set_option linter.unusedSimpArgs false
namespace Go.Proofs.YtnfakamfmkhlbabGreatDoor.C
open Go.RowKit
theorem ret_int {k:IntKind} {a b:Int} (h:a=b):Ending.returned (.int k a)=.returned (.int k b):=by rw [h]
def Gr (w w':World):Prop:=Below w.heap.size w w'
theorem Gr.refl (w:World):Gr w w:=Below.refl _ _
theorem Gr.trans {a b c:World} (h:Gr a b) (k:Gr b c):Gr a c:=Below.trans h (Below.mono k (Below.size h))
theorem Gr.alloc {a b:World} (h:Gr a b) (c:Array Value) (t:TypeId):Gr a (b.alloc (.cells c t)):=Below.alloc h (Below.size h) _
theorem Gr.drew {a b:World} (h:Gr a b):Gr a b.drew:=Below.drew h
theorem Gr.below {a b:World} (h:Gr a b):Below a.heap.size a b:=h
theorem hide {p:Prop} (h:p):Hid p:=h
theorem unhide {p:Prop} (h:Hid p):p:=h
end Go.Proofs.YtnfakamfmkhlbabGreatDoor.C
namespace Go.Proofs.YtnfakamfmkhlbabGreatDoor.P
def oneI (x:Int):Int:=IntKind.u64.wrap (2 ^ x.toNat)
def lftI (x:Int):Int:=bits .andNot .u64 (x/2) 9259542123273814144
def rgtI (x:Int):Int:=bits .andNot .u64 (IntKind.u64.wrap (x*2)) 72340172838076673
def upI (x r:Int):Int:=if r<0 then x/2 ^ (-8*r).toNat else IntKind.u64.wrap (x*2 ^ (8*r).toNat)
def rv1 (x:Int):Int:=bits .or .u64 (bits .and .u64 (x/2) 6148914691236517205) (IntKind.u64.wrap (bits .and .u64 x 6148914691236517205*2))
def rv2 (x:Int):Int:=bits .or .u64 (bits .and .u64 (x/4) 3689348814741910323) (IntKind.u64.wrap (bits .and .u64 x 3689348814741910323*4))
def rv4 (x:Int):Int:=bits .or .u64 (bits .and .u64 (x/16) 1085102592571150095) (IntKind.u64.wrap (bits .and .u64 x 1085102592571150095*16))
def rv8 (x:Int):Int:=bits .or .u64 (bits .and .u64 (x/256) 71777214294589695) (IntKind.u64.wrap (bits .and .u64 x 71777214294589695*256))
def rv16 (x:Int):Int:=bits .or .u64 (bits .and .u64 (x/65536) 281470681808895) (IntKind.u64.wrap (bits .and .u64 x 281470681808895*65536))
def rv32 (x:Int):Int:=bits .or .u64 (x/4294967296) (IntKind.u64.wrap (x*4294967296))
def revI (x:Int):Int:=rv32 (rv16 (rv8 (rv4 (rv2 (rv1 x)))))
def orI (a b:Int):Int:=bits .or .u64 a b
def menI (l x t:Int):Int:=bits .and .u64 (bits .andNot .u64 l (oneI x)) t
def alongI (l x t:Int):Int:=bits .and .u64 (bits .xor .u64 (IntKind.u64.wrap (menI l x t-oneI x)) (revI (IntKind.u64.wrap (revI (menI l x t)-revI (oneI x))))) (bits .andNot .u64 l (oneI x))
def knightI (x:Int):Int:=orI (orI (orI (upI (orI (lftI x) (rgtI x)) 2) (upI (orI (lftI x) (rgtI x)) (-2))) (upI (orI (lftI (lftI x)) (rgtI (rgtI x))) 1)) (upI (orI (lftI (lftI x)) (rgtI (rgtI x))) (-1))
def rowI (x:Int):Int:=orI (orI (lftI x) x) (rgtI x)
def kingI (x:Int):Int:=bits .andNot .u64 (orI (orI (upI (rowI x) 1) (rowI x)) (upI (rowI x) (-1))) x
def fileI (x:Int):Int:=IntKind.u64.wrap (72340172838076673*2 ^ (x%8).toNat)
def rankI (x:Int):Int:=upI 255 (x/8)
def risI (x:Int):Int:=upI 9241421688590303745 (x/8-x%8)
def falI (x:Int):Int:=upI 72624976668147840 (x/8+x%8-7)
def straightI (x t:Int):Int:=orI (alongI (fileI x) x t) (alongI (rankI x) x t)
def slantI (x t:Int):Int:=orI (alongI (risI x) x t) (alongI (falI x) x t)
def reachI (k x t:Int):Int :=
 if k=1 then upI (orI (lftI (oneI x)) (rgtI (oneI x))) 1
 else if k=2 then upI (orI (lftI (oneI x)) (rgtI (oneI x))) (-1)
 else if k=3 then knightI (oneI x)
 else if k=4 then slantI x t
 else if k=5 then straightI x t
 else if k=6 then orI (slantI x t) (straightI x t)
 else if k=7 then kingI (oneI x)
 else 0
def U (b:BitVec 64):Int:=(b.toNat:Int)
theorem U_nonneg (b:BitVec 64):0<=U b:=Int.natCast_nonneg _
theorem U_lt (b:BitVec 64):U b<18446744073709551616:=by
 unfold U;have:=b.isLt;omega
theorem U_inj {a b:BitVec 64} (h:U a=U b):a=b:=by
 apply BitVec.eq_of_toNat_eq;unfold U at h;omega
theorem U_of (x:Int) (h0:0<=x) (h1:x<18446744073709551616):U (BitVec.ofInt 64 x)=x:=by
 unfold U;rw [BitVec.toNat_ofInt];have:x%((2 ^ 64:Nat):Int)=x:=Int.emod_eq_of_lt h0 (by simpa using h1);rw [this];omega
theorem ofInt_U (b:BitVec 64):BitVec.ofInt 64 (U b)=b:=by
 apply U_inj;exact U_of _ (U_nonneg b) (U_lt b)
theorem wrap_U (b:BitVec 64):IntKind.u64.wrap (U b)=U b:=by
 rw [IntKind.wrap_u64];exact Int.emod_eq_of_lt (U_nonneg b) (U_lt b)
theorem wrap_of (x:Int):IntKind.u64.wrap x=U (BitVec.ofInt 64 x):=by
 rw [IntKind.wrap_u64];unfold U;rw [BitVec.toNat_ofInt];have:=Int.emod_nonneg x (show (18446744073709551616:Int)≠0 by decide);have e:((2 ^ 64:Nat):Int)=18446744073709551616:=by decide
 rw [e];omega
theorem and_U (a b:BitVec 64):bits .and .u64 (U a) (U b)=U (a &&& b):=by
 show IntKind.u64.wrap ((BitVec.ofInt 64 (U a) &&& BitVec.ofInt 64 (U b)).toNat:Int)=_;rw [ofInt_U,ofInt_U];exact wrap_U _
theorem or_U (a b:BitVec 64):bits .or .u64 (U a) (U b)=U (a ||| b):=by
 show IntKind.u64.wrap ((BitVec.ofInt 64 (U a) ||| BitVec.ofInt 64 (U b)).toNat:Int)=_;rw [ofInt_U,ofInt_U];exact wrap_U _
theorem xor_U (a b:BitVec 64):bits .xor .u64 (U a) (U b)=U (a ^^^ b):=by
 show IntKind.u64.wrap ((BitVec.ofInt 64 (U a) ^^^ BitVec.ofInt 64 (U b)).toNat:Int)=_;rw [ofInt_U,ofInt_U];exact wrap_U _
theorem andNot_U (a b:BitVec 64):bits .andNot .u64 (U a) (U b)=U (a &&& ~~~b):=by
 show IntKind.u64.wrap ((BitVec.ofInt 64 (U a) &&& ~~~BitVec.ofInt 64 (U b)).toNat:Int)=_;rw [ofInt_U,ofInt_U];exact wrap_U _
theorem sub_U (a b:BitVec 64):IntKind.u64.wrap (U a-U b)=U (a-b):=by
 rw [IntKind.wrap_u64];unfold U;rw [BitVec.toNat_sub];have:=b.isLt;omega
theorem shr_U (a:BitVec 64) (k:Nat):U a/((2 ^ k:Nat):Int)=U (a >>> k):=by
 unfold U;rw [BitVec.toNat_ushiftRight,Nat.shiftRight_eq_div_pow];exact (Int.natCast_ediv _ _).symm
theorem shl_U (a:BitVec 64) (k:Nat):IntKind.u64.wrap (U a*((2 ^ k:Nat):Int))=U (a <<< k):=by
 rw [IntKind.wrap_u64];unfold U;rw [BitVec.toNat_shiftLeft,Nat.shiftLeft_eq];omega
def stage (m:BitVec 64) (k:Nat) (x:BitVec 64):BitVec 64:=(x >>> k &&& m) ||| ((x &&& m) <<< k)
def flip (k i:Nat):Nat:=if i/k%2=0 then i+k else i-k
theorem stage_bit (m:BitVec 64) (k:Nat) (hk:k=1\/k=2\/k=4\/k=8\/k=16\/k=32) (hm:∀ i,i<64->m.getLsbD i=decide (i/k%2=0)) (x:BitVec 64) (i:Nat) (hi:i<64) :
  (stage m k x).getLsbD i=x.getLsbD (flip k i):=by
 have h1:=hm i hi;have h2:=hm (i-k) (by omega);have h3:i/k%2=0->i<k\/(i-k)/k%2≠0:=by rcases hk with rfl|rfl|rfl|rfl|rfl|rfl<;>omega
 have h4:i/k%2≠0->¬ i<k/\(i-k)/k%2=0:=by rcases hk with rfl|rfl|rfl|rfl|rfl|rfl<;>omega
 unfold stage flip;simp only [BitVec.getLsbD_or,BitVec.getLsbD_and,BitVec.getLsbD_ushiftRight,BitVec.getLsbD_shiftLeft,h1,h2];by_cases e:i/k%2=0
 ·rw [if_pos e];rcases h3 e with g|g
  ·simp [e,g,Nat.add_comm]
  ·simp [e,g,Nat.add_comm]
 ·rw [if_neg e];obtain ⟨g1,g2⟩:=h4 e;simp [e,g1,g2,hi]
theorem rv_U (c:Int) (m:BitVec 64) (hc:c=U m) (k:Nat) (p:Int) (hp:p=((2 ^ k:Nat):Int)) (x:BitVec 64) :
  bits .or .u64 (bits .and .u64 (U x/p) c) (IntKind.u64.wrap (bits .and .u64 (U x) c*p))=U (stage m k x):=by
 rw [hc,hp,shr_U,and_U,and_U,shl_U,or_U];rfl
def revB (x:BitVec 64):BitVec 64:=stage 4294967295#64 32 (stage 281470681808895#64 16 (stage 71777214294589695#64 8 (stage 1085102592571150095#64 4 (stage 3689348814741910323#64 2 (stage 6148914691236517205#64 1 x)))))
theorem rv32_bits (x:BitVec 64):(x >>> 32) ||| (x <<< 32)=stage 4294967295#64 32 x:=by
 apply BitVec.eq_of_getLsbD_eq;intro i hi;have hm:∀ i,i<64->(4294967295#64).getLsbD i=decide (i/32%2=0):=by decide +kernel
 unfold stage;have h1:=hm i hi;have h2:=hm (i-32) (by omega);simp only [BitVec.getLsbD_or,BitVec.getLsbD_and,BitVec.getLsbD_ushiftRight,BitVec.getLsbD_shiftLeft,h1,h2];by_cases e:i<32
 ·have:i/32%2=0:=by omega
  simp [e,this]
 ·have e1:i/32%2=1:=by omega
  have e2:(i-32)/32%2=0:=by omega
  simp [e,e1,e2,BitVec.getLsbD_of_ge x (32+i) (by omega)]
theorem rev_U (x:BitVec 64):revI (U x)=U (revB x):=by
 unfold revI revB rv1 rv2 rv4 rv8 rv16 rv32;rw [rv_U 6148914691236517205 6148914691236517205#64 (by decide +kernel) 1 2 (by decide)];rw [rv_U 3689348814741910323 3689348814741910323#64 (by decide +kernel) 2 4 (by decide)];rw [rv_U 1085102592571150095 1085102592571150095#64 (by decide +kernel) 4 16 (by decide)];rw [rv_U 71777214294589695 71777214294589695#64 (by decide +kernel) 8 256 (by decide)];rw [rv_U 281470681808895 281470681808895#64 (by decide +kernel) 16 65536 (by decide)];rw [show (4294967296:Int)=((2 ^ 32:Nat):Int) from by decide,shr_U,shl_U,or_U,rv32_bits]
theorem flips:∀ i,i<64->flip 1 (flip 2 (flip 4 (flip 8 (flip 16 (flip 32 i)))))=63-i:=by decide +kernel
theorem flip_lt (k i:Nat) (hk:k=1\/k=2\/k=4\/k=8\/k=16\/k=32) (hi:i<64):flip k i<64:=by
 unfold flip;rcases hk with rfl|rfl|rfl|rfl|rfl|rfl<;>split<;>omega
theorem revB_bit (x:BitVec 64) (i:Nat) (hi:i<64):(revB x).getLsbD i=x.getLsbD (63-i):=by
 rw [<-flips i hi];have a5:=flip_lt 32 i (by omega) hi;have a4:=flip_lt 16 _ (by omega) a5;have a3:=flip_lt 8 _ (by omega) a4;have a2:=flip_lt 4 _ (by omega) a3;have a1:=flip_lt 2 _ (by omega) a2;unfold revB
 rw [stage_bit _ 32 (by omega) (by decide +kernel) _ _ hi,stage_bit _ 16 (by omega) (by decide +kernel) _ _ a5,stage_bit _ 8 (by omega) (by decide +kernel) _ _ a4,
  stage_bit _ 4 (by omega) (by decide +kernel) _ _ a3,stage_bit _ 2 (by omega) (by decide +kernel) _ _ a2,stage_bit _ 1 (by omega) (by decide +kernel) _ _ a1]
theorem neg_one_bit:∀ x,x<64->∀ j,j<64->(-(1#64 <<< x)).getLsbD j=decide (x<=j):=by decide +kernel
theorem carry_iff (m:BitVec 64) (x:Nat) (hx:x<64):∀ i,i<=64->(BitVec.carry i m (-(1#64 <<< x)) false=true↔∃ z,x<=z/\z<i/\m.getLsbD z=true)
 | 0,_=>by
   simp [BitVec.carry_zero]
 | i+1,hi=>by
   have ih:=carry_iff m x hx i (by omega);rw [BitVec.carry_succ,neg_one_bit x hx i (by omega)];by_cases g:x<=i
   ·simp only [g,decide_true,Bool.atLeastTwo_true_mid,Bool.or_eq_true,ih];constructor
    ·rintro (h|⟨z,h1,h2,h3⟩)
     ·exact ⟨i,g,by omega,h⟩
     ·exact ⟨z,h1,by omega,h3⟩
    ·rintro ⟨z,h1,h2,h3⟩;by_cases e:z=i
     ·subst e;exact Or.inl h3
     ·exact Or.inr ⟨z,h1,by omega,h3⟩
   ·have:BitVec.carry i m (-(1#64 <<< x)) false=false:=by
     cases hc:BitVec.carry i m (-(1#64 <<< x)) false with
     | false=>rfl
     | true=>obtain ⟨z,h1,h2,h3⟩:=ih.mp hc;omega
    simp only [g,decide_false,this,Bool.atLeastTwo_false_mid,Bool.and_false,Bool.false_eq_true,false_iff,not_exists];rintro z ⟨h1,h2,h3⟩;omega
theorem sub_bit (m:BitVec 64) (x:Nat) (hx:x<64) (j:Nat) (hj:j<64) :
  (m-1#64 <<< x).getLsbD j=(m.getLsbD j ^^ (decide (x<=j) ^^ BitVec.carry j m (-(1#64 <<< x)) false)):=by
 rw [BitVec.sub_eq_add_neg,BitVec.getLsbD_add hj,neg_one_bit x hx j hj]
def alongB (l:BitVec 64) (x:Nat) (t:BitVec 64):BitVec 64 :=
 (((l &&& ~~~(1#64 <<< x)) &&& t)-1#64 <<< x ^^^ revB (revB ((l &&& ~~~(1#64 <<< x)) &&& t)-revB (1#64 <<< x))) &&& (l &&& ~~~(1#64 <<< x))
theorem one_U:∀ x,x<64->oneI ((x:Nat):Int)=U (1#64 <<< x):=by decide +kernel
theorem rev_one:∀ x,x<64->revB (1#64 <<< x)=1#64 <<< (63-x):=by decide +kernel
theorem one_bit:∀ x,x<64->∀ j,j<64->(1#64 <<< x).getLsbD j=decide (j=x):=by decide +kernel
theorem along_U (l:BitVec 64) (x:Nat) (hx:x<64) (t:BitVec 64):alongI (U l) (x:Int) (U t)=U (alongB l x t):=by
 unfold alongI menI;rw [one_U x hx,andNot_U,and_U,sub_U,rev_U,rev_U,sub_U,rev_U,xor_U,and_U];rfl
theorem along_bit (l:BitVec 64) (x:Nat) (hx:x<64) (t:BitVec 64) (y:Nat) (hy:y<64) :
  (alongB l x t).getLsbD y=true↔l.getLsbD y=true/\y≠x/\∀ z,(x<z/\z<y\/y<z/\z<x)->l.getLsbD z=true->t.getLsbD z=false:=by
 have men:∀ z,z<64->((l &&& ~~~(1#64 <<< x)) &&& t).getLsbD z=(l.getLsbD z&&!decide (z=x)&&t.getLsbD z):=by
  intro z hz;simp only [BitVec.getLsbD_and,BitVec.getLsbD_not,one_bit x hx z hz,hz,decide_true,Bool.true_and]
 unfold alongB;rw [BitVec.getLsbD_and,BitVec.getLsbD_xor,revB_bit _ y hy,rev_one x hx,sub_bit _ x hx y hy,sub_bit _ (63-x) (by omega) (63-y) (by omega),revB_bit _ (63-y) (by omega)];rw [show 63-(63-y)=y from by omega];have c1:=carry_iff ((l &&& ~~~(1#64 <<< x)) &&& t) x hx y (by omega);have c2:=carry_iff (revB ((l &&& ~~~(1#64 <<< x)) &&& t)) (63-x) (by omega) (63-y) (by omega);generalize BitVec.carry y ((l &&& ~~~(1#64 <<< x)) &&& t) (-(1#64 <<< x)) false=b1 at c1 ⊢;generalize BitVec.carry (63-y) (revB ((l &&& ~~~(1#64 <<< x)) &&& t)) (-(1#64 <<< (63-x))) false=b2 at c2 ⊢
 have c1':b1=true↔∃ z,x<z/\z<y/\l.getLsbD z=true/\t.getLsbD z=true:=by
  rw [c1];constructor
  ·rintro ⟨z,h1,h2,h3⟩;rw [men z (by omega)] at h3;simp only [Bool.and_eq_true,Bool.not_eq_true',decide_eq_false_iff_not] at h3;exact ⟨z,by omega,h2,h3.1.1,h3.2⟩
  ·rintro ⟨z,h1,h2,h3,h4⟩;refine ⟨z,by omega,h2,?_⟩;rw [men z (by omega),h3,h4];simp;omega
 have c2':b2=true↔∃ z,y<z/\z<x/\l.getLsbD z=true/\t.getLsbD z=true:=by
  rw [c2];constructor
  ·rintro ⟨z,h1,h2,h3⟩;rw [revB_bit _ z (by omega),men (63-z) (by omega)] at h3;simp only [Bool.and_eq_true,Bool.not_eq_true',decide_eq_false_iff_not] at h3;exact ⟨63-z,by omega,by omega,h3.1.1,h3.2⟩
  ·rintro ⟨z,h1,h2,h3,h4⟩;refine ⟨63-z,by omega,by omega,?_⟩;rw [revB_bit _ (63-z) (by omega),show 63-(63-z)=z from by omega,men z (by omega),h3,h4];simp;omega
 simp only [BitVec.getLsbD_and,BitVec.getLsbD_not,one_bit x hx y hy,hy,decide_true,Bool.true_and];rcases Nat.lt_trichotomy x y with h|h|h
 ·have e1:decide (x<=y)=true:=by simp;omega
  have e2:decide (63-x<=63-y)=false:=by simp;omega
  have e3:decide (y=x)=false:=by simp;omega
  have e4:b2=false:=by
   cases hb:b2 with
   | false=>rfl
   | true=>obtain ⟨z,h1,h2,_⟩:=c2'.mp hb;omega
  rw [e1,e2,e3,e4];cases hb:b1 with
  | true =>
   obtain ⟨z,h1,h2,h3,h4⟩:=c1'.mp hb;simp only [Bool.xor_false,Bool.false_eq_true,Bool.xor_self,Bool.false_and,false_iff];rintro ⟨_,_,g⟩;have:=g z (Or.inl ⟨h1,h2⟩) h3;simp [h4] at this
  | false =>
   have:¬ ∃ z,x<z/\z<y/\l.getLsbD z=true/\t.getLsbD z=true:=fun g=>by simp [c1'.mpr g] at hb
   simp only [Bool.not_false,Bool.and_true];constructor
   ·intro g;refine ⟨by simp at g;exact g.2,by omega,?_⟩;intro z hz hl;cases ht:t.getLsbD z with
    | false=>rfl
    | true=>exact absurd ⟨z,by omega,by omega,hl,ht⟩ this
   ·rintro ⟨g,_,_⟩;rw [g];cases ((l &&& ~~~(1#64 <<< x)) &&& t).getLsbD y<;>simp
 ·subst h;have e3:decide (x=x)=true:=by simp
  rw [e3];simp
 ·have e1:decide (x<=y)=false:=by simp;omega
  have e2:decide (63-x<=63-y)=true:=by simp;omega
  have e3:decide (y=x)=false:=by simp;omega
  have e4:b1=false:=by
   cases hb:b1 with
   | false=>rfl
   | true=>obtain ⟨z,h1,h2,_⟩:=c1'.mp hb;omega
  rw [e1,e2,e3,e4];cases hb:b2 with
  | true =>
   obtain ⟨z,h1,h2,h3,h4⟩:=c2'.mp hb;simp only [Bool.xor_false,Bool.false_eq_true,Bool.xor_self,Bool.false_and,false_iff];rintro ⟨_,_,g⟩;have:=g z (Or.inr ⟨h1,h2⟩) h3;simp [h4] at this
  | false =>
   have:¬ ∃ z,y<z/\z<x/\l.getLsbD z=true/\t.getLsbD z=true:=fun g=>by simp [c2'.mpr g] at hb
   simp only [Bool.not_false,Bool.and_true];constructor
   ·intro g;refine ⟨by simp at g;exact g.2,by omega,?_⟩;intro z hz hl;cases ht:t.getLsbD z with
    | false=>rfl
    | true=>exact absurd ⟨z,by omega,by omega,hl,ht⟩ this
   ·rintro ⟨g,_,_⟩;rw [g];cases ((l &&& ~~~(1#64 <<< x)) &&& t).getLsbD y<;>simp
end Go.Proofs.YtnfakamfmkhlbabGreatDoor.P
namespace Go.Proofs.YtnfakamfmkhlbabGreatDoor.C
open Go.ChangeShapes Go.WideShapes Go.ChangeAt Go.RowKit
open Go.Proofs.YtnfakamfmkhlbabGreatDoor.P
theorem one_any (x:Int) (h0:0<=x) (h1:x<=63) (w:World):Calls Tryz.prog 204 #[.int .i64 x] w fun e w'=>e=.returned (.int .u64 (oneI x))/\w'=w:=by
 go_enter Tryz.func204,Tryz.ntmps204;go_wp2;go_ret;exact ⟨rfl,rfl⟩
theorem left_any (x:Int) (w:World):Calls Tryz.prog 251 #[.int .u64 x] w fun e w'=>e=.returned (.int .u64 (lftI x))/\w'=w:=by
 go_enter Tryz.func251,Tryz.ntmps251;go_wp2;go_ret;exact ⟨rfl,rfl⟩
theorem right_any (x:Int) (w:World):Calls Tryz.prog 252 #[.int .u64 x] w fun e w'=>e=.returned (.int .u64 (rgtI x))/\w'=w:=by
 go_enter Tryz.func252,Tryz.ntmps252;go_wp2;go_ret;exact ⟨rfl,rfl⟩
theorem up_any (x r:Int) (w:World) (h0:-7<=r) (h1:r<=7):Calls Tryz.prog 253 #[.int .u64 x,.int .i64 r] w fun e w'=>e=.returned (.int .u64 (upI x r))/\w'=w:=by
 by_cases h:r<0
 ·go_enter Tryz.func253,Tryz.ntmps253;go_wp2;go_ret;exact ⟨ret_int (by unfold upI;rw [if_pos h]),rfl⟩
 ·have h2:0<=r:=by omega
  have h3:=h;go_enter Tryz.func253,Tryz.ntmps253;go_wp2;go_ret;exact ⟨ret_int (by unfold upI;rw [if_neg (by omega)]),rfl⟩
theorem revb_any (x:Int) (w:World):Calls Tryz.prog 372 #[.int .u64 x] w fun e w'=>e=.returned (.int .u64 (rv32 (rv16 (rv8 x))))/\w'=w:=by
 go_enter Tryz.func372,Tryz.ntmps372;go_wp2;go_ret;exact ⟨rfl,rfl⟩
theorem rev_any (x:Int) (w:World):Calls Tryz.prog 365 #[.int .u64 x] w fun e w'=>e=.returned (.int .u64 (revI x))/\w'=w:=by
 go_enter Tryz.func365,Tryz.ntmps365;go_wp2_with (go_at_call 372;refine (revb_any _ _).mono ?_;rintro e w' ⟨rfl,rfl⟩);go_ret;exact ⟨rfl,rfl⟩
theorem turned_any (x:Int) (w:World):Calls Tryz.prog 346 #[.int .u64 x] w fun e w'=>e=.returned (.int .u64 (revI x))/\w'=w:=by
 go_enter Tryz.func346,Tryz.ntmps346;go_wp2_with (go_at_call 365;refine (rev_any _ _).mono ?_;rintro e w' ⟨rfl,rfl⟩);go_ret;exact ⟨rfl,rfl⟩
theorem along_any (l x t:Int) (h0:0<=x) (h1:x<=63) (w:World):Calls Tryz.prog 307 #[.int .u64 l,.int .i64 x,.int .u64 t] w fun e w'=>e=.returned (.int .u64 (alongI l x t))/\w'=w:=by
 go_enter Tryz.func307,Tryz.ntmps307;go_wp2_with (first|(go_at_call 204;refine (one_any _ h0 h1 _).mono ?_;rintro e w' ⟨rfl,rfl⟩)|(go_at_call 346;refine (turned_any _ _).mono ?_;rintro e w' ⟨rfl,rfl⟩));go_ret;exact ⟨rfl,rfl⟩
theorem knight_any (x:Int) (w:World):Calls Tryz.prog 254 #[.int .u64 x] w fun e w'=>e=.returned (.int .u64 (knightI x))/\w'=w:=by
 go_enter Tryz.func254,Tryz.ntmps254;go_wp2_with (first|(go_at_call 251;refine (left_any _ _).mono ?_;rintro e w' ⟨rfl,rfl⟩)|(go_at_call 252;refine (right_any _ _).mono ?_;rintro e w' ⟨rfl,rfl⟩)|(go_at_call 253;refine (up_any _ _ _ (by decide) (by decide)).mono ?_;rintro e w' ⟨rfl,rfl⟩));go_ret;exact ⟨rfl,rfl⟩
theorem king_any (x:Int) (w:World):Calls Tryz.prog 257 #[.int .u64 x] w fun e w'=>e=.returned (.int .u64 (kingI x))/\w'=w:=by
 go_enter Tryz.func257,Tryz.ntmps257;go_wp2_with (first|(go_at_call 251;refine (left_any _ _).mono ?_;rintro e w' ⟨rfl,rfl⟩)|(go_at_call 252;refine (right_any _ _).mono ?_;rintro e w' ⟨rfl,rfl⟩)|(go_at_call 253;refine (up_any _ _ _ (by decide) (by decide)).mono ?_;rintro e w' ⟨rfl,rfl⟩));go_ret;exact ⟨rfl,rfl⟩
theorem straight_any (x t:Int) (h0:0<=x) (h1:x<=63) (w:World):Calls Tryz.prog 256 #[.int .i64 x,.int .u64 t] w fun e w'=>e=.returned (.int .u64 (straightI x t))/\w'=w:=by
 go_enter Tryz.func256,Tryz.ntmps256;go_wp2_with (first|(go_at_call 307;refine (along_any _ _ _ h0 h1 _).mono ?_;rintro e w' ⟨rfl,rfl⟩)|(go_at_call 253;refine (up_any _ _ _ (by omega) (by omega)).mono ?_;rintro e w' ⟨rfl,rfl⟩));go_ret;exact ⟨rfl,rfl⟩
theorem slant_any (x t:Int) (h0:0<=x) (h1:x<=63) (w:World):Calls Tryz.prog 255 #[.int .i64 x,.int .u64 t] w fun e w'=>e=.returned (.int .u64 (slantI x t))/\w'=w:=by
 go_enter Tryz.func255,Tryz.ntmps255;go_wp2_with (first|(go_at_call 307;refine (along_any _ _ _ h0 h1 _).mono ?_;rintro e w' ⟨rfl,rfl⟩)|(go_at_call 253;refine (up_any _ _ _ (by omega) (by omega)).mono ?_;rintro e w' ⟨rfl,rfl⟩));go_ret;exact ⟨rfl,rfl⟩
theorem reach9_any (k x t:Int) (k0:1<=k) (k1:k<=7) (h0:0<=x) (h1:x<=63) (w:World):Calls Tryz.prog 206 #[.int .i64 k,.int .i64 x,.int .u64 t] w fun e w'=>e=.returned (.int .u64 (reachI k x t))/\w'=w:=by
 have hk:k=1\/k=2\/k=3\/k=4\/k=5\/k=6\/k=7:=by omega
 rcases hk with rfl|rfl|rfl|rfl|rfl|rfl|rfl
 all_goals
  go_enter Tryz.func206,Tryz.ntmps206;go_wp2_with (first|(go_at_call 204;refine (one_any _ h0 h1 _).mono ?_;rintro e w' ⟨rfl,rfl⟩)|(go_at_call 251;refine (left_any _ _).mono ?_;rintro e w' ⟨rfl,rfl⟩)|(go_at_call 252;refine (right_any _ _).mono ?_;rintro e w' ⟨rfl,rfl⟩)|(go_at_call 253;refine (up_any _ _ _ (by decide) (by decide)).mono ?_;rintro e w' ⟨rfl,rfl⟩)|(go_at_call 254;refine (knight_any _ _).mono ?_;rintro e w' ⟨rfl,rfl⟩)|(go_at_call 257;refine (king_any _ _).mono ?_;rintro e w' ⟨rfl,rfl⟩)|(go_at_call 256;refine (straight_any _ _ h0 h1 _).mono ?_;rintro e w' ⟨rfl,rfl⟩)|(go_at_call 255;refine (slant_any _ _ h0 h1 _).mono ?_;rintro e w' ⟨rfl,rfl⟩));go_ret;exact ⟨rfl,rfl⟩
end Go.Proofs.YtnfakamfmkhlbabGreatDoor.C
namespace Go.Proofs.YtnfakamfmkhlbabGreatDoor.P
def sqs (s:BitVec 64):List Nat:=(List.range 64).filter (fun i=>s.getLsbD i)
theorem sqs_mem (s:BitVec 64) (i:Nat):i∈sqs s↔i<64/\s.getLsbD i=true:=by
 unfold sqs;rw [List.mem_filter,List.mem_range]
theorem low_exists (s:BitVec 64) (h:s≠0#64):∃ t,t<64/\s.getLsbD t=true/\∀ j,j<t->s.getLsbD j=false:=by
 have h1:∃ t,s.getLsbD t=true:=by
  refine Classical.byContradiction fun hn=>h ?_
  apply BitVec.eq_of_getLsbD_eq;intro i hi;rw [BitVec.getLsbD_zero];cases e:s.getLsbD i with
  | false=>rfl
  | true=>exact absurd ⟨i,e⟩ hn
 have:∀ n t,t<=n->s.getLsbD t=true->∃ u,s.getLsbD u=true/\∀ j,j<u->s.getLsbD j=false:=by
  intro n;induction n with
  | zero=>intro t ht e;exact ⟨t,e,fun j hj=>by omega⟩
  | succ n ih =>
   intro t ht e;by_cases hx:∃ j,j<t/\s.getLsbD j=true
   ·obtain ⟨j,hj,ej⟩:=hx;exact ih j (by omega) ej
   ·refine ⟨t,e,fun j hj=>?_⟩;cases e':s.getLsbD j with
    | false=>rfl
    | true=>exact absurd ⟨j,hj,e'⟩ hx
 obtain ⟨t,e⟩:=h1;obtain ⟨u,e1,e2⟩:=this t t (Nat.le_refl _) e;refine ⟨u,?_,e1,e2⟩;refine Classical.byContradiction fun hn=>?_
 rw [BitVec.getLsbD_of_ge s u (by omega)] at e1;exact absurd e1 (by decide)
theorem sub_one_bit (s:BitVec 64) (t:Nat) (h1:s.getLsbD t=true) (h2:∀ j,j<t->s.getLsbD j=false) (i:Nat) (hi:i<64):(s &&& (s-1#64)).getLsbD i=(s.getLsbD i&&!decide (i=t)):=by
 have e:=sub_bit s 0 (by omega) i hi;have e0:(1#64 <<< 0)=1#64:=by decide
 rw [e0] at e;have hc:=carry_iff s 0 (by omega) i (by omega);rw [e0] at hc;rw [BitVec.getLsbD_and,e];generalize BitVec.carry i s (-1#64) false=b at hc ⊢;have:decide (0<=i)=true:=by simp
 rw [this];cases hs:s.getLsbD i with
 | false=>simp
 | true =>
  by_cases hit:i=t
  ·have hb:b=false:=by
    cases hb:b with
    | false=>rfl
    | true =>
     obtain ⟨z,_,z2,z3⟩:=hc.mp hb;rw [h2 z (by omega)] at z3;exact absurd z3 (by decide)
   rw [hb];simp [hit]
  ·have hb:b=true:=by
    refine hc.mpr ⟨t,by omega,?_,h1⟩;rcases Nat.lt_trichotomy i t with h|h|h
    ·rw [h2 i h] at hs;exact absurd hs (by decide)
    ·exact absurd h hit
    ·exact h
   rw [hb];simp [hit]
theorem sqs_step (s:BitVec 64) (t:Nat) (ht:t<64) (h1:s.getLsbD t=true) (h2:∀ j,j<t->s.getLsbD j=false):sqs s=t :: sqs (s &&& (s-1#64)):=by
 unfold sqs
 have e:List.range 64=List.range t++(t :: (List.range' (t+1) (63-t))):=by
  rw [List.range_eq_range',List.range_eq_range',show 64=t+(1+(63-t)) from by omega,<-List.range'_append_1];congr 1;rw [Nat.zero_add,Nat.add_comm 1 (63-t),List.range'_succ]
 rw [e,List.filter_append,List.filter_append,List.filter_cons,List.filter_cons]
 have a1:(List.range t).filter (fun i=>s.getLsbD i)=[]:=by
  rw [List.filter_eq_nil_iff];intro j hj;rw [h2 j (List.mem_range.mp hj)];simp
 have a2:(List.range t).filter (fun i=>(s &&& (s-1#64)).getLsbD i)=[]:=by
  rw [List.filter_eq_nil_iff];intro j hj;have hj':=List.mem_range.mp hj;rw [sub_one_bit s t h1 h2 j (by omega),h2 j hj'];simp
 have a3:(s &&& (s-1#64)).getLsbD t=false:=by rw [sub_one_bit s t h1 h2 t ht];simp
 rw [a1,a2,h1,a3];simp only [List.nil_append,if_true,Bool.false_eq_true,if_false];congr 1;apply List.filter_congr;intro j hj;have:t+1<=j/\j<64:=by have:=List.mem_range'_1.mp hj;omega
 rw [sub_one_bit s t h1 h2 j this.2];have:decide (j=t)=false:=by simp;omega
 rw [this];simp
theorem sqs_zero:sqs 0#64=[]:=by decide +kernel
theorem ctz_is (s:BitVec 64) (t:Nat) (h1:s.getLsbD t=true) (h2:∀ j,j<t->s.getLsbD j=false):Lib.ctz 64 s.toNat=t:=by
 have hne:s.toNat≠0:=fun e=>by
  have:s=0#64:=BitVec.eq_of_toNat_eq (by simpa using e);rw [this] at h1;simp at h1
 unfold Lib.ctz;rw [if_neg hne];obtain ⟨m,e,hc⟩:=Lib.ctzFrom_spec 64 s.toNat (by omega) s.isLt;generalize Lib.ctzFrom 64 s.toNat=c at e hc;have hbit:∀ j,s.getLsbD j=decide (s.toNat/2 ^ j%2=1):=fun j=>by rw [BitVec.getLsbD,Nat.testBit_eq_decide_div_mod_eq]
 rcases Nat.lt_trichotomy c t with h|h|h
 ·have:=h2 c h;rw [hbit c,e,Nat.mul_div_cancel_left _ (Nat.two_pow_pos c)] at this;simp at this
 ·exact h
 ·rw [hbit t,e] at h1
  rw [show 2 ^ c*(2*m+1)=2 ^ t*(2*(2 ^ (c-t-1)*(2*m+1))) from by
   rw [show c=t+(1+(c-t-1)) from by omega,Nat.pow_add,Nat.pow_add,show t+(1+(c-t-1))-t-1=c-t-1 from by omega];simp [Nat.mul_assoc]] at h1
  rw [Nat.mul_div_cancel_left _ (Nat.two_pow_pos t)] at h1;simp at h1
def fileB (x:Nat):BitVec 64:=72340172838076673#64 <<< (x%8)
def rankB (x:Nat):BitVec 64:=255#64 <<< (8*(x/8))
def risB (x:Nat):BitVec 64:=if x/8<x%8 then 9241421688590303745#64 >>> (8*(x%8-x/8)) else 9241421688590303745#64 <<< (8*(x/8-x%8))
def falB (x:Nat):BitVec 64:=if x/8+x%8<7 then 72624976668147840#64 >>> (8*(7-(x/8+x%8))) else 72624976668147840#64 <<< (8*(x/8+x%8-7))
def wpB (x:Nat):BitVec 64:=BitVec.ofInt 64 (reachI 1 x 0)
def bpB (x:Nat):BitVec 64:=BitVec.ofInt 64 (reachI 2 x 0)
def knB (x:Nat):BitVec 64:=BitVec.ofInt 64 (knightI (oneI x))
def kiB (x:Nat):BitVec 64:=BitVec.ofInt 64 (kingI (oneI x))
theorem file_U:∀ x,x<64->fileI ((x:Nat):Int)=U (fileB x):=by decide +kernel
theorem rank_U:∀ x,x<64->rankI ((x:Nat):Int)=U (rankB x):=by decide +kernel
theorem ris_U:∀ x,x<64->risI ((x:Nat):Int)=U (risB x):=by decide +kernel
theorem fal_U:∀ x,x<64->falI ((x:Nat):Int)=U (falB x):=by decide +kernel
theorem wp_U:∀ x,x<64->upI (orI (lftI (oneI ((x:Nat):Int))) (rgtI (oneI ((x:Nat):Int)))) 1=U (wpB x):=by decide +kernel
theorem bp_U:∀ x,x<64->upI (orI (lftI (oneI ((x:Nat):Int))) (rgtI (oneI ((x:Nat):Int)))) (-1)=U (bpB x):=by decide +kernel
theorem kn_U:∀ x,x<64->knightI (oneI ((x:Nat):Int))=U (knB x):=by decide +kernel
theorem ki_U:∀ x,x<64->kingI (oneI ((x:Nat):Int))=U (kiB x):=by decide +kernel
def straightB (x:Nat) (t:BitVec 64):BitVec 64:=alongB (fileB x) x t ||| alongB (rankB x) x t
def slantB (x:Nat) (t:BitVec 64):BitVec 64:=alongB (risB x) x t ||| alongB (falB x) x t
theorem straight_U (x:Nat) (hx:x<64) (t:BitVec 64):straightI (x:Int) (U t)=U (straightB x t):=by
 unfold straightI straightB orI;rw [file_U x hx,rank_U x hx,along_U _ x hx,along_U _ x hx,or_U]
theorem slant_U (x:Nat) (hx:x<64) (t:BitVec 64):slantI (x:Int) (U t)=U (slantB x t):=by
 unfold slantI slantB orI;rw [ris_U x hx,fal_U x hx,along_U _ x hx,along_U _ x hx,or_U]
def reachB (k x:Nat) (t:BitVec 64):BitVec 64 :=
 if k=1 then wpB x else if k=2 then bpB x else if k=3 then knB x else if k=4 then slantB x t
 else if k=5 then straightB x t else if k=6 then slantB x t ||| straightB x t else if k=7 then kiB x else 0#64
theorem reach_U (k x:Nat) (k0:1<=k) (k1:k<=7) (hx:x<64) (t:BitVec 64):reachI (k:Int) (x:Int) (U t)=U (reachB k x t):=by
 have hk:k=1\/k=2\/k=3\/k=4\/k=5\/k=6\/k=7:=by omega
 unfold reachI reachB;rcases hk with rfl|rfl|rfl|rfl|rfl|rfl|rfl
 ·exact wp_U x hx
 ·exact bp_U x hx
 ·exact kn_U x hx
 ·exact slant_U x hx t
 ·exact straight_U x hx t
 ·show orI (slantI (x:Int) (U t)) (straightI (x:Int) (U t))=U (slantB x t ||| straightB x t);rw [slant_U x hx,straight_U x hx];exact or_U _ _
 ·exact ki_U x hx
theorem file_sym:∀ x,x<64->∀ y,y<64->(fileB x).getLsbD y=true->fileB y=fileB x:=by decide +kernel
theorem rank_sym:∀ x,x<64->∀ y,y<64->(rankB x).getLsbD y=true->rankB y=rankB x:=by decide +kernel
theorem ris_sym:∀ x,x<64->∀ y,y<64->(risB x).getLsbD y=true->risB y=risB x:=by decide +kernel
theorem fal_sym:∀ x,x<64->∀ y,y<64->(falB x).getLsbD y=true->falB y=falB x:=by decide +kernel
theorem file_own:∀ x,x<64->(fileB x).getLsbD x=true:=by decide +kernel
theorem rank_own:∀ x,x<64->(rankB x).getLsbD x=true:=by decide +kernel
theorem ris_own:∀ x,x<64->(risB x).getLsbD x=true:=by decide +kernel
theorem fal_own:∀ x,x<64->(falB x).getLsbD x=true:=by decide +kernel
theorem kn_sym:∀ x,x<64->∀ y,y<64->(knB x).getLsbD y=(knB y).getLsbD x:=by decide +kernel
theorem ki_sym:∀ x,x<64->∀ y,y<64->(kiB x).getLsbD y=(kiB y).getLsbD x:=by decide +kernel
theorem pawn_sym:∀ x,x<64->∀ y,y<64->(wpB x).getLsbD y=(bpB y).getLsbD x:=by decide +kernel
theorem along_sym1 (L:Nat->BitVec 64) (hs:∀ x,x<64->∀ y,y<64->(L x).getLsbD y=true->L y=L x) (ho:∀ x,x<64->(L x).getLsbD x=true) (x y:Nat) (hx:x<64) (hy:y<64) (t:BitVec 64)
  (h:(alongB (L x) x t).getLsbD y=true):(alongB (L y) y t).getLsbD x=true:=by
 obtain ⟨h1,h2,h3⟩:=(along_bit _ x hx t y hy).mp h;have e:=hs x hx y hy h1;rw [e];exact (along_bit _ y hy t x hx).mpr ⟨ho x hx,fun g=>h2 g.symm,fun z hz=>h3 z (by omega)⟩
theorem along_sym (L:Nat->BitVec 64) (hs:∀ x,x<64->∀ y,y<64->(L x).getLsbD y=true->L y=L x) (ho:∀ x,x<64->(L x).getLsbD x=true) (x y:Nat) (hx:x<64) (hy:y<64) (t:BitVec 64) :
  (alongB (L x) x t).getLsbD y=(alongB (L y) y t).getLsbD x:=by
 rw [Bool.eq_iff_iff];exact ⟨along_sym1 L hs ho x y hx hy t,along_sym1 L hs ho y x hy hx t⟩
theorem straight_sym (x y:Nat) (hx:x<64) (hy:y<64) (t:BitVec 64):(straightB x t).getLsbD y=(straightB y t).getLsbD x:=by
 unfold straightB;rw [BitVec.getLsbD_or,BitVec.getLsbD_or,along_sym fileB file_sym file_own x y hx hy,along_sym rankB rank_sym rank_own x y hx hy]
theorem slant_sym (x y:Nat) (hx:x<64) (hy:y<64) (t:BitVec 64):(slantB x t).getLsbD y=(slantB y t).getLsbD x:=by
 unfold slantB;rw [BitVec.getLsbD_or,BitVec.getLsbD_or,along_sym risB ris_sym ris_own x y hx hy,along_sym falB fal_sym fal_own x y hx hy]
theorem reach_sym (k x y:Nat) (k0:3<=k) (k1:k<=7) (hx:x<64) (hy:y<64) (t:BitVec 64):(reachB k x t).getLsbD y=(reachB k y t).getLsbD x:=by
 have hk:k=3\/k=4\/k=5\/k=6\/k=7:=by omega
 rcases hk with rfl|rfl|rfl|rfl|rfl
 ·exact kn_sym x hx y hy
 ·exact slant_sym x y hx hy t
 ·exact straight_sym x y hx hy t
 ·show (slantB x t ||| straightB x t).getLsbD y=(slantB y t ||| straightB y t).getLsbD x;rw [BitVec.getLsbD_or,BitVec.getLsbD_or,slant_sym x y hx hy,straight_sym x y hx hy]
 ·exact ki_sym x hx y hy
end Go.Proofs.YtnfakamfmkhlbabGreatDoor.P
namespace Go.Proofs.YtnfakamfmkhlbabGreatDoor.P
open Go.RowKit
def sg (n:Int):Int:=if 0<n then 1 else if n<0 then -1 else 0
def ab (n:Int):Int:=if n<0 then -n else n
def freeI (f:Nat->Int) (p:Nat->Int) (L:Nat):Bool:=decide (∀ i,i<L->1<=i->f (p i).toNat=46)
def pI (x y:Int) (i:Nat):Int:=x+(i:Int)*(8*sg (y/8-x/8)+sg (y%8-x%8))
def LI (x y:Int):Nat:=max (ab (y/8-x/8)).toNat (ab (y%8-x%8)).toNat
def slI (x y:Int):Bool:=(ab (y%8-x%8)==ab (y/8-x/8))&&decide (0<ab (y%8-x%8))
def stI (x y:Int):Bool:=(y%8-x%8==0) != (y/8-x/8==0)
def attI (f:Nat->Int) (k:Nat) (side x y:Int):Bool :=
 if k=0 then (ab (y%8-x%8)==1)&&(y/8-x/8==side)
 else if k=1 then ab (y%8-x%8)*ab (y/8-x/8)==2
 else if k=2 then slI x y&&freeI f (pI x y) (LI x y)
 else if k=3 then stI x y&&freeI f (pI x y) (LI x y)
 else if k=4 then (stI x y||slI x y)&&freeI f (pI x y) (LI x y)
 else decide (ab (y%8-x%8)<=1)&&decide (ab (y/8-x/8)<=1)&&decide (0<ab (y%8-x%8)+ab (y/8-x/8))
theorem lined_ok:∀ x,x<64->∀ y,y<64->(stI ((x:Nat):Int) ((y:Nat):Int)||slI ((x:Nat):Int) ((y:Nat):Int))=true →
  (decide (1<=LI (x:Int) (y:Int))&&decide (pI (x:Int) (y:Int) (LI (x:Int) (y:Int))=(y:Int))&&(List.range (LI (x:Int) (y:Int)+1)).all (fun i=>decide (0<=pI (x:Int) (y:Int) i)&&decide (pI (x:Int) (y:Int) i<=63)
   && (decide (i=0)||decide (LI (x:Int) (y:Int)<=i)||!decide (pI (x:Int) (y:Int) i=(y:Int)))))=true:=by decide +kernel
theorem lined_all (x y:Int) (h0:0<=x) (h1:x<=63) (h2:0<=y) (h3:y<=63) (hl:stI x y=true\/slI x y=true) :
  1<=LI x y/\pI x y (LI x y)=y/\∀ i,i<=LI x y->0<=pI x y i/\pI x y i<=63/\(1<=i->i<LI x y->pI x y i≠y):=by
 obtain ⟨a,rfl⟩:=Int.eq_ofNat_of_zero_le h0;obtain ⟨b,rfl⟩:=Int.eq_ofNat_of_zero_le h2;have:=lined_ok a (by omega) b (by omega) (by rw [Bool.or_eq_true];exact hl);rw [Bool.and_eq_true,Bool.and_eq_true,List.all_eq_true,decide_eq_true_eq,decide_eq_true_eq] at this;obtain ⟨⟨g1,g2⟩,g3⟩:=this;refine ⟨g1,g2,fun i hi=>?_⟩;have g:=g3 i (List.mem_range.mpr (by omega));rw [Bool.and_eq_true,Bool.and_eq_true,Bool.or_eq_true,Bool.or_eq_true,decide_eq_true_eq,decide_eq_true_eq,decide_eq_true_eq,decide_eq_true_eq,Bool.not_eq_true',decide_eq_false_iff_not] at g;refine ⟨g.1.1,g.1.2,fun k1 k2=>?_⟩;rcases g.2 with (g|g)|g
 ·omega
 ·omega
 ·exact g
theorem path_b (x y:Int) (h0:0<=x) (h1:x<=63) (h2:0<=y) (h3:y<=63) (hl:stI x y=true\/slI x y=true):∀ i,i<=LI x y->0<=pI x y i/\pI x y i<=63 :=
 fun i hi=>⟨((lined_all x y h0 h1 h2 h3 hl).2.2 i hi).1,((lined_all x y h0 h1 h2 h3 hl).2.2 i hi).2.1⟩
def fT (t:BitVec 64) (z:Nat):Int:=if t.getLsbD z then 80 else 46
def kR (k:Nat):Nat:=if k<=2 then 0 else k-2
def sR (k:Nat):Int:=if k<=2 then 3-2*(k:Int) else 1
def refAtt (k:Nat) (x:Int) (t:BitVec 64) (y:Nat):Bool:=attI (fT t) (kR k) (sR k) x (y:Int)
def accN (g:Nat->Bool):Nat->Nat
 | 0=>0
 | j+1=>2*accN g j+(if g (63-j) then 1 else 0)
theorem accN_bit (g:Nat->Bool):∀ j,j<=64->∀ i,i<j->(accN g j).testBit i=g (64-j+i)
 | 0,_,i,h=>by omega
 | j+1,hj,i,h=>by
   cases i with
   | zero =>
    rw [Nat.testBit_zero];unfold accN;rw [show 64-(j+1)+0=63-j from by omega];cases g (63-j)<;>simp<;>omega
   | succ i =>
    have ih:=accN_bit g j (by omega) i (by omega);rw [Nat.testBit_succ];rw [show accN g (j+1)/2=accN g j from by show (2*accN g j+(if g (63-j) then 1 else 0))/2=accN g j;split<;>omega,ih]
    congr 1;omega
def refB (k:Nat) (x:Int) (t:BitVec 64):BitVec 64:=BitVec.ofNat 64 (accN (refAtt k x t) 64)
theorem refB_bit (k:Nat) (x:Int) (t:BitVec 64) (y:Nat) (hy:y<64):(refB k x t).getLsbD y=refAtt k x t y:=by
 unfold refB;rw [BitVec.getLsbD_ofNat,accN_bit _ 64 (Nat.le_refl _) y hy];simp [hy]
end Go.Proofs.YtnfakamfmkhlbabGreatDoor.P
namespace Go.Proofs.YtnfakamfmkhlbabGreatDoor.P
def btw (x y z:Nat):Bool:=decide (x<z/\z<y\/y<z/\z<x)
def lineOk (l:BitVec 64) (x y:Nat):Bool :=
 !(l.getLsbD y&&!decide (y=x))||((stI (x:Int) (y:Int)||slI (x:Int) (y:Int))&&(List.range (LI (x:Int) (y:Int))).all (fun i=>decide (i=0)||btw x y (pI (x:Int) (y:Int) i).toNat&&l.getLsbD (pI (x:Int) (y:Int) i).toNat)
  && (List.range 64).all (fun z=>!(btw x y z&&l.getLsbD z)||(List.range (LI (x:Int) (y:Int))).any (fun i=>!decide (i=0)&&decide ((pI (x:Int) (y:Int) i).toNat=z))))
theorem file_ok:∀ x,x<64->∀ y,y<64->lineOk (fileB x) x y=true:=by decide +kernel
theorem rank_ok:∀ x,x<64->∀ y,y<64->lineOk (rankB x) x y=true:=by decide +kernel
theorem ris_ok:∀ x,x<64->∀ y,y<64->lineOk (risB x) x y=true:=by decide +kernel
theorem fal_ok:∀ x,x<64->∀ y,y<64->lineOk (falB x) x y=true:=by decide +kernel
theorem st_is:∀ x,x<64->∀ y,y<64->stI ((x:Nat):Int) ((y:Nat):Int)=((fileB x).getLsbD y&&!decide (y=x)||(rankB x).getLsbD y&&!decide (y=x)):=by decide +kernel
theorem sl_is:∀ x,x<64->∀ y,y<64->slI ((x:Nat):Int) ((y:Nat):Int)=((risB x).getLsbD y&&!decide (y=x)||(falB x).getLsbD y&&!decide (y=x)):=by decide +kernel
theorem wp_is:∀ x,x<64->∀ y,y<64->(wpB x).getLsbD y=((ab (((y:Nat):Int)%8-((x:Nat):Int)%8)==1)&&((y:Int)/8-(x:Int)/8==1)):=by decide +kernel
theorem bp_is:∀ x,x<64->∀ y,y<64->(bpB x).getLsbD y=((ab (((y:Nat):Int)%8-((x:Nat):Int)%8)==1)&&((y:Int)/8-(x:Int)/8==-1)):=by decide +kernel
theorem kn_is:∀ x,x<64->∀ y,y<64->(knB x).getLsbD y=(ab (((y:Nat):Int)%8-((x:Nat):Int)%8)*ab ((y:Int)/8-(x:Int)/8)==2):=by decide +kernel
theorem ki_is:∀ x,x<64->∀ y,y<64->(kiB x).getLsbD y=(decide (ab (((y:Nat):Int)%8-((x:Nat):Int)%8)<=1)&&decide (ab ((y:Int)/8-(x:Int)/8)<=1)&&decide (0<ab ((y:Int)%8-(x:Int)%8)+ab ((y:Int)/8-(x:Int)/8))):=by decide +kernel
theorem fT_46 (t:BitVec 64) (z:Nat):fT t z=46↔t.getLsbD z=false:=by
 unfold fT;cases t.getLsbD z<;>simp
theorem along_free (l:BitVec 64) (x:Nat) (hx:x<64) (t:BitVec 64) (y:Nat) (hy:y<64) (ok:lineOk l x y=true) :
  (alongB l x t).getLsbD y=((l.getLsbD y&&!decide (y=x))&&freeI (fT t) (pI (x:Int) (y:Int)) (LI (x:Int) (y:Int))):=by
 rw [Bool.eq_iff_iff,along_bit l x hx t y hy];unfold lineOk at ok;unfold freeI;by_cases h:(l.getLsbD y&&!decide (y=x))=true
 ·rw [h] at ok ⊢;rw [Bool.not_true,Bool.false_or,Bool.and_eq_true,Bool.and_eq_true,List.all_eq_true,List.all_eq_true] at ok;obtain ⟨⟨_,o1⟩,o2⟩:=ok;rw [Bool.true_and,decide_eq_true_eq];rw [Bool.and_eq_true,Bool.not_eq_true',decide_eq_false_iff_not] at h;constructor
  ·rintro ⟨_,_,g⟩ i hi i1;have:=o1 i (List.mem_range.mpr hi);rw [Bool.or_eq_true,decide_eq_true_eq,Bool.and_eq_true] at this;rcases this with e|⟨e1,e2⟩
   ·omega
   ·rw [fT_46];exact g _ (of_decide_eq_true e1) e2
  ·intro g;refine ⟨h.1,h.2,fun z hz hl=>?_⟩;have:=o2 z (List.mem_range.mpr (by omega));have hb:btw x y z=true:=decide_eq_true hz;rw [hb,hl,Bool.true_and,Bool.not_true,Bool.false_or,List.any_eq_true] at this;obtain ⟨i,hi,e⟩:=this;rw [Bool.and_eq_true,Bool.not_eq_true',decide_eq_false_iff_not,decide_eq_true_eq] at e;have:=g i (List.mem_range.mp hi) (by omega);rw [e.2,fT_46] at this;exact this
 ·have h':(l.getLsbD y&&!decide (y=x))=false:=by simpa using h
  rw [h'];simp only [Bool.false_and,Bool.false_eq_true,iff_false];rintro ⟨a,b,_⟩;rw [a] at h';simp at h';exact b h'
theorem slant_is (x:Nat) (hx:x<64) (t:BitVec 64) (y:Nat) (hy:y<64) :
  (slantB x t).getLsbD y=(slI (x:Int) (y:Int)&&freeI (fT t) (pI (x:Int) (y:Int)) (LI (x:Int) (y:Int))):=by
 unfold slantB;rw [BitVec.getLsbD_or,along_free _ x hx t y hy (ris_ok x hx y hy),along_free _ x hx t y hy (fal_ok x hx y hy),sl_is x hx y hy];cases ((risB x).getLsbD y&&!decide (y=x))<;>cases ((falB x).getLsbD y&&!decide (y=x))<;>cases freeI (fT t) (pI (x:Int) (y:Int)) (LI (x:Int) (y:Int))<;>rfl
theorem straight_is (x:Nat) (hx:x<64) (t:BitVec 64) (y:Nat) (hy:y<64) :
  (straightB x t).getLsbD y=(stI (x:Int) (y:Int)&&freeI (fT t) (pI (x:Int) (y:Int)) (LI (x:Int) (y:Int))):=by
 unfold straightB;rw [BitVec.getLsbD_or,along_free _ x hx t y hy (file_ok x hx y hy),along_free _ x hx t y hy (rank_ok x hx y hy),st_is x hx y hy];cases ((fileB x).getLsbD y&&!decide (y=x))<;>cases ((rankB x).getLsbD y&&!decide (y=x))<;>cases freeI (fT t) (pI (x:Int) (y:Int)) (LI (x:Int) (y:Int))<;>rfl
theorem reach_ref (k x:Nat) (k0:1<=k) (k1:k<=7) (hx:x<64) (t:BitVec 64):reachB k x t=refB k (x:Int) t:=by
 apply BitVec.eq_of_getLsbD_eq;intro y hy;rw [refB_bit k _ t y hy];have hk:k=1\/k=2\/k=3\/k=4\/k=5\/k=6\/k=7:=by omega
 rcases hk with rfl|rfl|rfl|rfl|rfl|rfl|rfl
 ·exact wp_is x hx y hy
 ·exact bp_is x hx y hy
 ·exact kn_is x hx y hy
 ·exact slant_is x hx t y hy
 ·exact straight_is x hx t y hy
 ·show (slantB x t ||| straightB x t).getLsbD y=((stI (x:Int) (y:Int)||slI (x:Int) (y:Int))&&freeI (fT t) (pI (x:Int) (y:Int)) (LI (x:Int) (y:Int)));rw [BitVec.getLsbD_or,slant_is x hx t y hy,straight_is x hx t y hy];cases stI (x:Int) (y:Int)<;>cases slI (x:Int) (y:Int)<;>cases freeI (fT t) (pI (x:Int) (y:Int)) (LI (x:Int) (y:Int))<;>rfl
 ·exact ki_is x hx y hy
end Go.Proofs.YtnfakamfmkhlbabGreatDoor.P
