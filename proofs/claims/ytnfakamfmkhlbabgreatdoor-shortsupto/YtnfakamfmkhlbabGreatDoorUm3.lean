import Derived.Test.YtnfakamfmkhlbabGreatDoorUm2
import Derived.Deep.Draws
import Derived.Laws.Tables
import Derived.Laws.CopyRow
import Derived.Deep.RegionLaw
set_option maxRecDepth 100000
set_option maxHeartbeats 4000000
set_option linter.unusedSimpArgs false
namespace Go.Proofs.YtnfakamfmkhlbabGreatDoor.C
open Go.ChangeShapes Go.WideShapes Go.ChangeAt Go.RowKit
section
theorem qd(w:World)(n:Nat)(a:Addr)(v:Value):(w.drewN n).setCell a v=(w.setCell a v).drewN n:=rfl
theorem qe(w:World)(n:Nat)(o:Obj):(w.drewN n).alloc o=(w.alloc o).drewN n:=rfl
theorem Gr.drewN{a b:World}(h:Gr a b)(n:Nat):Gr a (b.drewN n):=Below.trans h ⟨rfl,rfl,rfl,qL _,fun _ _=>rfl⟩
attribute [local go_sem] qd qe
def xU:List UInt8:=[80,78,66,82,81,75,112,110,98,114,113,107]
def bz(c:UInt8):Bool:=!decide (Lib.indexByte xU c<0)
def uT(c:UInt8):Bool:=decide (49<=c.toNat)&&decide (c.toNat<=56)
def zZ(st:Option (List Int × Bool))(c:UInt8):Option (List Int × Bool) :=
 match st with
 | none=>none
 | some (acc,a) =>
  if uT c then(if a||decide (8<acc.length+(c.toNat-48))then none else some (acc++List.replicate (c.toNat-48) 46,true))
  else if bz c then(if 8<acc.length+1 then none else some (acc++[(c.toNat:Int)],false))else none
def vY(l:List UInt8):Option (List Int × Bool):=l.foldl zZ (some ([],false))
def jL(l:List UInt8):Option (List Int) :=
 match vY l with
 | some (acc,_)=>if acc.length=8 then some acc else none
 | none=>none
theorem vj(l:List UInt8)(c:UInt8):vY (l++[c])=zZ (vY l) c:=by
 unfold vY;rw[List.foldl_append];rfl
theorem Ao(l:List UInt8):l.foldl zZ none=none:=by
 induction l with
 | nil=>rfl
 | cons c r ih=>exact ih
theorem zn(s:ByteArray)(k:Nat)(h:k<s.size)(hb:zZ (vY (s.data.toList.take k)) s[k]=none):jL s.data.toList=none:=by
 unfold jL
 have:vY s.data.toList=none:=by
  rw[<-List.take_append_drop (k+1) s.data.toList,xi s k h];unfold vY at hb ⊢;rw[List.foldl_append,List.foldl_append];simp only[List.foldl_cons,List.foldl_nil];rw[hb,Ao]
 rw[this]
def yu(acc:List Int)(R:Array Value):Prop:=R.size=8/\(∀j (h:j<acc.length),R[j]?=some (.int .u8 acc[j]))/\∀j,j<8->∃z,R[j]?=some (.int .u8 z)
theorem yu.nil:yu [] #[.int .u8 0,.int .u8 0,.int .u8 0,.int .u8 0,.int .u8 0,.int .u8 0,.int .u8 0,.int .u8 0] :=
 ⟨rfl,fun j h=>by simp at h,fun j h=>⟨0,by
  have:j=0\/j=1\/j=2\/j=3\/j=4\/j=5\/j=6\/j=7:=by omega
  rcases this with rfl|rfl|rfl|rfl|rfl|rfl|rfl|rfl<;>rfl⟩⟩
theorem yu.snoc{acc:List Int}{R:Array Value}(h:yu acc R)(hl:acc.length<8)(c:Int):yu (acc++[c]) (R.setIfInBounds acc.length (.int .u8 c)):=by
 refine⟨by simpa using h.1,fun j hj=>?_,fun j hj=>?_⟩
 ·rw[Array.getElem?_setIfInBounds];by_cases e:acc.length=j
  ·subst e;rw[qI rfl,qI (by rw[h.1];exact hl)];simp
  ·have hj':j<acc.length:=by simp at hj;omega
   rw[qF e,h.2.1 j hj',List.getElem_append_left hj']
 ·rw[Array.getElem?_setIfInBounds];by_cases e:acc.length=j
  ·exact⟨c,by rw[qI e,qI (by rw[h.1];exact hl)]⟩
  ·rw[qF e];exact h.2.2 j hj
theorem yu.done{acc:List Int}{R:Array Value}(h:yu acc R)(hl:acc.length=8):R=(acc.map (Value.int .u8)).toArray:=by
 apply Array.ext_getElem?;intro i;by_cases hi:i<8
 ·rw[h.2.1 i (by omega)];simp[hl,hi]
 ·rw[Array.getElem?_eq_none (by have:=h.1;omega),Array.getElem?_eq_none (by simp;omega)]
theorem uU{acc:List Int}{R:Array Value}(h:yu acc R):∃a b c d e f g i:Int,R=#[.int .u8 a,.int .u8 b,.int .u8 c,.int .u8 d,.int .u8 e,.int .u8 f,.int .u8 g,.int .u8 i]:=by
 obtain⟨a,ha⟩:=h.2.2 0 (by omega);obtain⟨b,hb⟩:=h.2.2 1 (by omega);obtain⟨c,hc⟩:=h.2.2 2 (by omega);obtain⟨d,hd⟩:=h.2.2 3 (by omega);obtain⟨e,he⟩:=h.2.2 4 (by omega);obtain⟨f,hf⟩:=h.2.2 5 (by omega);obtain⟨g,hg⟩:=h.2.2 6 (by omega);obtain⟨i,hi⟩:=h.2.2 7 (by omega);refine⟨a,b,c,d,e,f,g,i,?_⟩;apply Array.ext_getElem?;intro j;by_cases hj:j<8
 ·have:j=0\/j=1\/j=2\/j=3\/j=4\/j=5\/j=6\/j=7:=by omega
  rcases this with rfl|rfl|rfl|rfl|rfl|rfl|rfl|rfl<;>simp[*]
 ·rw[Array.getElem?_eq_none (by have:=h.1;omega),Array.getElem?_eq_none (by simp;omega)]
def yf(l:List UInt8)(e:Ending):Prop :=
 (∃acc,jL l=some acc/\e=.returned (.tuple #[.agg (acc.map (Value.int .u8)).toArray,.bool true]))\/(jL l=none/\∃a b c d e' f g i:Int,e=.returned (.tuple #[.agg #[.int .u8 a,.int .u8 b,.int .u8 c,.int .u8 d,.int .u8 e',.int .u8 f,.int .u8 g,.int .u8 i],.bool false]))
theorem rh(s:ByteArray)(hs:s.size<=maxLen)(w:World):Calls Tryz.prog 215 #[.string s] w fun e w'=>yf s.data.toList e/\Gr w w':=by
 unfold maxLen at hs;go_enter Tryz.func215,Tryz.ntmps215;go_wp2;go_loopg [5,6,13] s.size (fun g fl af i wr=>∃k:Nat,k+g=s.size/\i=.int .i64 k/\∃(acc:List Int)(a:Bool),vY (s.data.toList.take k)=some (acc,a)/\fl=.int .i64 acc.length/\af=.bool a/\∃(R:Array Value)(n:Nat),wr=((w.alloc (Obj.cells #[.int .u8 0,.int .u8 0,.int .u8 0,.int .u8 0,.int .u8 0,.int .u8 0,.int .u8 0,.int .u8 0] 277)).alloc (Obj.cells R 277)).drewN n/\yu acc R/\acc.length<=8)
 case atStart=>exact⟨0,by omega,rfl,[],false,rfl,rfl,rfl,_,0,rfl,yu.nil,by simp⟩
 case round =>
  obtain⟨k,k1,rfl,acc,a,hf0,rfl,rfl,R,n,rfl,hR0,hacc⟩:=hrel;have hf:=qC hf0;have hR:=qC hR0;clear hf0 hR0;by_cases hlt:k<s.size
  ·by_cases hd:49<=s[k].toNat/\s[k].toNat<=56
   ·obtain⟨hd1,hd2⟩:=hd;have hdS:Hid (uT s[k]=true):=qC (by unfold uT;rw[qJ hd1,qJ hd2];rfl);cases a
    ·by_cases h8:8<acc.length+(s[k].toNat-48)
     ·have hbad:Hid (jL s.data.toList=none):=qC (zn s k hlt (by rw[qa hf];unfold zZ;simp only[qa hdS,if_true,Bool.false_or,qJ h8]));obtain⟨r0,r1,r2,r3,r4,r5,r6,r7,rfl⟩:=uU (qa hR);clear hR;go_wp2;go_region;go_wp2;refine bodyPost_ret (v:=.tuple #[.agg #[.int .u8 r0,.int .u8 r1,.int .u8 r2,.int .u8 r3,.int .u8 r4,.int .u8 r5,.int .u8 r6,.int .u8 r7],.bool false]) (by simp[results,Tryz.results215,go_sem]) rfl ⟨.inr ⟨qa hbad,_,_,_,_,_,_,_,_,rfl⟩,?_⟩
      repeat(first|exact Gr.refl _|apply Gr.drew|apply Gr.drewN|apply Gr.alloc)
     ·go_wp2;go_region;go_wp2;go_loopg [5,45] (s[k].toNat-48) (fun g fl jj wr=>∃j:Nat,j+g=s[k].toNat-48/\jj=.int .i64 j/\∃acc':List Int,acc'=acc++List.replicate j 46/\fl=.int .i64 acc'.length/\∃(R:Array Value)(n:Nat),wr=((w.alloc (Obj.cells #[.int .u8 0,.int .u8 0,.int .u8 0,.int .u8 0,.int .u8 0,.int .u8 0,.int .u8 0,.int .u8 0] 277)).alloc (Obj.cells R 277)).drewN n/\yu acc' R)
      case atStart=>exact⟨0,by omega,rfl,acc,by simp,rfl,R,_,rfl,qa hR⟩
      case round =>
       obtain⟨j,j1,rfl,acc',hacc0,rfl,R',n',rfl,hR0'⟩:=hrel;have hacc':=qC hacc0;have hR':=qC hR0';have hlen:acc'.length=acc.length+j:=by rw[hacc0];simp
       clear hacc0 hR0';by_cases hj:j<s[k].toNat-48
       ·have hl8:acc'.length<8:=by omega
        have hsz:=(qa hR').1;have hlR:acc'.length<R'.size:=by omega
        clear hlen
        have hcell:((w.alloc (Obj.cells #[.int .u8 0,.int .u8 0,.int .u8 0,.int .u8 0,.int .u8 0,.int .u8 0,.int .u8 0,.int .u8 0] 277)).alloc (Obj.cells R' 277)).cell? ⟨w.heap.size+1,acc'.length,none⟩=some (R'[acc'.length]'hlR):=by
         rw[cell_of_row _ _ _ _ _ _ (heap_alloc2_new _ _ _)];exact qQ _
        go_wp2;go_roundg (gk-1)
        case measure=>omega
        case rel =>
         refine⟨j+1,by omega,by go_num,acc'++[46],?_,by simp,_,_,rfl,(qa hR').snoc hl8 _⟩;rw[qa hacc',qS,<-List.replicate_succ']
       ·have ej:j=s[k].toNat-48:=by omega
        clear hlen;go_wp2;go_roundg (s.size-k-1)
        case measure=>omega
        case rel =>
         have ea:=qa hacc';rw[ej]at ea;refine⟨k+1,by omega,by go_num,acc',true,?_,rfl,rfl,R',_,rfl,qa hR',by rw[ea];simp;omega⟩;rw[xi s k hlt,vj,qa hf,ea];unfold zZ;simp only[qa hdS,if_true,Bool.false_or,qE h8,qR,if_false]
    ·have hbad:Hid (jL s.data.toList=none):=qC (zn s k hlt (by rw[qa hf];unfold zZ;simp only[qa hdS,if_true,Bool.true_or]));obtain⟨r0,r1,r2,r3,r4,r5,r6,r7,rfl⟩:=uU (qa hR);clear hR;go_wp2;go_region;go_wp2;refine bodyPost_ret (v:=.tuple #[.agg #[.int .u8 r0,.int .u8 r1,.int .u8 r2,.int .u8 r3,.int .u8 r4,.int .u8 r5,.int .u8 r6,.int .u8 r7],.bool false]) (by simp[results,Tryz.results215,go_sem]) rfl ⟨.inr ⟨qa hbad,_,_,_,_,_,_,_,_,rfl⟩,?_⟩
     repeat(first|exact Gr.refl _|apply Gr.drew|apply Gr.drewN|apply Gr.alloc)
   ·have hdS:Hid (uT s[k]=false):=qC (by unfold uT;rw[<-Bool.decide_and];exact qE hd);have hd:s[k].toNat<49\/56<s[k].toNat:=by omega
    have hu:(s[k].toNat:Int).toNat.toUInt8=s[k]:=by simp
    have hl0:Hid (bz s[k]=!decide (Lib.indexByte xU s[k]<0)):=qC rfl;generalize hix:Lib.indexByte xU s[k]=ix at hl0;have hix':Lib.indexByte [80,78,66,82,81,75,112,110,98,114,113,107] s[k]=ix:=hix;clear hix;by_cases hneg:ix<0
    ·have hbad:Hid (jL s.data.toList=none):=qC (zn s k hlt (by rw[qa hf];unfold zZ;simp only[qa hdS,qa hl0,qJ hneg];rfl));rcases hd with hd|hd
     all_goals
      obtain⟨r0,r1,r2,r3,r4,r5,r6,r7,rfl⟩:=uU (qa hR);clear hR;go_wp2;go_region;go_wp2_with(go_at_call 200;refine(Tryz.strings_IndexByte _ _ _).mono ?_;rintro e w' ⟨rfl,rfl⟩);refine bodyPost_ret (v:=.tuple #[.agg #[.int .u8 r0,.int .u8 r1,.int .u8 r2,.int .u8 r3,.int .u8 r4,.int .u8 r5,.int .u8 r6,.int .u8 r7],.bool false]) (by simp[results,Tryz.results215,go_sem]) rfl ⟨.inr ⟨qa hbad,_,_,_,_,_,_,_,_,rfl⟩,?_⟩
      repeat(first|exact Gr.refl _|apply Gr.drew|apply Gr.drewN|apply Gr.alloc)
    ·have hlS:Hid (bz s[k]=true):=qC (by rw[qa hl0,qE hneg];rfl);by_cases h8:8<acc.length+1
     ·have hbad:Hid (jL s.data.toList=none):=qC (zn s k hlt (by rw[qa hf];unfold zZ;simp only[qa hdS,qa hlS,qR,if_false,if_true,h8]));rcases hd with hd|hd
      all_goals
       obtain⟨r0,r1,r2,r3,r4,r5,r6,r7,rfl⟩:=uU (qa hR);clear hR;go_wp2;go_region;go_wp2_with(go_at_call 200;refine(Tryz.strings_IndexByte _ _ _).mono ?_;rintro e w' ⟨rfl,rfl⟩);refine bodyPost_ret (v:=.tuple #[.agg #[.int .u8 r0,.int .u8 r1,.int .u8 r2,.int .u8 r3,.int .u8 r4,.int .u8 r5,.int .u8 r6,.int .u8 r7],.bool false]) (by simp[results,Tryz.results215,go_sem]) rfl ⟨.inr ⟨qa hbad,_,_,_,_,_,_,_,_,rfl⟩,?_⟩
       repeat(first|exact Gr.refl _|apply Gr.drew|apply Gr.drewN|apply Gr.alloc)
     ·rcases hd with hd|hd
      all_goals
       go_wp2;go_region;go_wp2_with(go_at_call 200;refine(Tryz.strings_IndexByte _ _ _).mono ?_;rintro e w' ⟨rfl,rfl⟩);go_loopg [5,45] (1) (fun g fl jj wr=>∃j:Nat,j+g=1/\jj=.int .i64 j/\∃acc':List Int,acc'=acc++List.replicate j (s[k].toNat:Int)/\fl=.int .i64 acc'.length/\∃(R:Array Value)(n:Nat),wr=((w.alloc (Obj.cells #[.int .u8 0,.int .u8 0,.int .u8 0,.int .u8 0,.int .u8 0,.int .u8 0,.int .u8 0,.int .u8 0] 277)).alloc (Obj.cells R 277)).drewN n/\yu acc' R)
       case atStart=>exact⟨0,by omega,rfl,acc,by simp,rfl,R,_,rfl,qa hR⟩
       case round =>
        obtain⟨j,j1,rfl,acc',hacc0,rfl,R',n',rfl,hR0'⟩:=hrel;have hacc':=qC hacc0;have hR':=qC hR0';have hlen:acc'.length=acc.length+j:=by rw[hacc0];simp
        clear hacc0 hR0';by_cases hj:j<1
        ·have hl8:acc'.length<8:=by omega
         have hsz:=(qa hR').1;have hlR:acc'.length<R'.size:=by omega
         clear hlen
         have hcell:((w.alloc (Obj.cells #[.int .u8 0,.int .u8 0,.int .u8 0,.int .u8 0,.int .u8 0,.int .u8 0,.int .u8 0,.int .u8 0] 277)).alloc (Obj.cells R' 277)).cell? ⟨w.heap.size+1,acc'.length,none⟩=some (R'[acc'.length]'hlR):=by
          rw[cell_of_row _ _ _ _ _ _ (heap_alloc2_new _ _ _)];exact qQ _
         go_wp2;go_roundg (gk-1)
         case measure=>omega
         case rel =>
          refine⟨j+1,by omega,by go_num,acc'++[(s[k].toNat:Int)],?_,by simp,_,_,rfl,(qa hR').snoc hl8 _⟩;rw[qa hacc',qS,<-List.replicate_succ']
        ·have ej:j=1:=by omega
         clear hlen;go_wp2;go_roundg (s.size-k-1)
         case measure=>omega
         case rel =>
          have ea:=qa hacc';rw[ej]at ea;refine⟨k+1,by omega,by go_num,acc',false,?_,rfl,rfl,R',_,rfl,qa hR',by rw[ea];simp;omega⟩;rw[xi s k hlt,vj,qa hf,ea];unfold zZ;simp only[qa hdS,qa hlS,qR,if_false,if_true,h8];rfl
  ·have ek:k=s.size:=by omega
   subst ek;have hfull:s.data.toList.take s.size=s.data.toList:=List.take_of_length_le (by simp);rw[hfull]at hf;clear hfull;by_cases h8:acc.length=8
   ·have hdone:=(qa hR).done h8;obtain⟨r0,r1,r2,r3,r4,r5,r6,r7,rfl⟩:=uU (qa hR)
    have hend:Hid (yf s.data.toList (.returned (.tuple #[.agg #[.int .u8 r0,.int .u8 r1,.int .u8 r2,.int .u8 r3,.int .u8 r4,.int .u8 r5,.int .u8 r6,.int .u8 r7],.bool true]))) :=
     qC (.inl ⟨acc,by unfold jL;rw[qa hf];simp[h8],by rw[<-hdone]⟩)
    clear hR hdone hf;go_wp2;refine bodyPost_ret (v:=.tuple #[.agg #[.int .u8 r0,.int .u8 r1,.int .u8 r2,.int .u8 r3,.int .u8 r4,.int .u8 r5,.int .u8 r6,.int .u8 r7],.bool true]) (by simp[results,Tryz.results215,go_sem]) rfl ⟨qa hend,?_⟩
    repeat(first|exact Gr.refl _|apply Gr.drew|apply Gr.drewN|apply Gr.alloc)
   ·obtain⟨r0,r1,r2,r3,r4,r5,r6,r7,rfl⟩:=uU (qa hR)
    have hend:Hid (yf s.data.toList (.returned (.tuple #[.agg #[.int .u8 r0,.int .u8 r1,.int .u8 r2,.int .u8 r3,.int .u8 r4,.int .u8 r5,.int .u8 r6,.int .u8 r7],.bool false]))) :=
     qC (.inr ⟨by unfold jL;rw[qa hf];simp[h8],_,_,_,_,_,_,_,_,rfl⟩)
    have hne:((acc.length:Int)==8)=false:=by simp;omega
    clear hR hf h8;go_wp2;refine bodyPost_ret (v:=.tuple #[.agg #[.int .u8 r0,.int .u8 r1,.int .u8 r2,.int .u8 r3,.int .u8 r4,.int .u8 r5,.int .u8 r6,.int .u8 r7],.bool false]) (by simp[results,Tryz.results215,go_sem]) rfl ⟨qa hend,?_⟩
    repeat(first|exact Gr.refl _|apply Gr.drew|apply Gr.drewN|apply Gr.alloc)
end
section
attribute [local go_sem] qd qe
theorem qj5{P:Program}{ops:Array Oper}{o:Oper}{a:Act}{w:World}{K:Act->World->Prop}{Q:Exit->Act->World->Prop}{E:Prop}(hgd:o.guard=none)(d s:Operand)(dT sT:TypeId)
  (ho:o.op=.call { callee:=.builtin .copy,args:=#[d,s],argTypes:=#[dT,sT] }) (elem:TypeId) (hu:P.underlying dT=some (.slice elem)) (hsz:(P.info? elem).map (·.size)=some 1)
  (g off dLen dCap:Nat) (ad:Addr) (sLen sCap:Nat) (hd:a.eval d=.slice (some ⟨g,off,none⟩) dLen dCap) (hs:a.eval s=.slice (some ad) sLen sCap)
  (cur:Array Value) (t:TypeId) (hg:w.heap[g]?=some (.cells cur t (0,0))) (cs:List Value) (hn:cs.length=Nat.min sLen dLen)
  (hsrc:∀j v,cs[j]?=some v->w.cell? (ad.add j)=some v) (hfit:off+cs.length<=cur.size) (h1:∀v∈cs,v.oneCell'=true)
  (h:K (a.put o.dst (goInt cs.length)) (w.setRow g (cur.toList.take off++(cs++cur.toList.drop (off+cs.length))).toArray)) :
  if Region.wanted o (yielded ops a.tmps)=true then Oper.wp P o a w K Q else E:=by
 have hw:Region.wanted o (yielded ops a.tmps)=true:=by simp[Region.wanted,hgd]
 rw[qI hw];have hrun:=run_copy_row (P:=P) w dT sT o.type elem g off dLen dCap ad sLen sCap cur t cs hu hsz hg hn hsrc hfit h1;unfold Oper.wp;simp[execOp,ho,resolve,invoke,builtin,hd,hs,hrun,Result.andThen];exact h
def jK(xs:List ByteArray):Option (List (List Int)) :=
 match xs with
 | []=>some []
 | x :: r=>match jL x.data.toList,jK r with
  | some a,some b=>some (a :: b)
  | _,_=>none
theorem uJ(xs:List ByteArray)(x:ByteArray):jK (xs++[x])=match jK xs,jL x.data.toList with
  | some a,some b=>some (a++[b])
  | _,_=>none:=by
 induction xs with
 | nil=>simp only[List.nil_append,jK];cases jL x.data.toList<;>rfl
 | cons y r ih =>
  simp only[List.cons_append,jK,ih];cases jL y.data.toList<;>cases jK r<;>cases jL x.data.toList<;>rfl
theorem eY(xs:List ByteArray)(k:Nat)(h:k<xs.length)(hb:jL (xs[k]).data.toList=none):jK xs=none:=by
 induction xs generalizing k with
 | nil=>simp at h
 | cons y r ih =>
  cases k with
  | zero=>simp only[jK];simp at hb;rw[hb]
  | succ k=>simp only[jK];rw[ih k (by simpa using h) (by simpa using hb)];cases jL y.data.toList<;>rfl
def xL(c:UInt8)(n:Nat)(s:ByteArray):List ByteArray:=Lib.splitB ⟨#[c]⟩ 0 (min n (s.size+1)-1) s
def j7(s:ByteArray):Option (List Int) :=
 if(xL 47 9 s).length=8 then match jK (xL 47 9 s)with
  | some rs=>some rs.reverse.flatten
  | none=>none
 else none
def iL(A:Array Value):Prop:=A.size=64/\A.all (·.oneCell')=true
def vm(s:ByteArray)(e:Ending):Prop :=
 (∃b,j7 s=some b/\b.length=64/\e=.returned (.tuple #[.agg (b.map (Value.int .u8)).toArray,.bool true]))\/(j7 s=none/\∃A:Array Value,iL A/\e=.returned (.tuple #[.agg A,.bool false]))
def kH(rs:List (List Int)):List Value:=List.replicate (64-8*rs.length) (.int .u8 0)++(rs.reverse.flatten).map (Value.int .u8)
def yw(rs:List (List Int)):Prop:=∀r∈rs,r.length=8
theorem qxe:∀(rs:List (List Int)),yw rs->rs.flatten.length=8*rs.length
 | [],_=>rfl
 | r :: t,h=>by
   rw[List.flatten_cons,qZ,qxe t (fun x hx=>h x (by simp[hx])),h r (by simp)];simp;omega
theorem qvu{rs:List (List Int)}(h:yw rs):yw rs.reverse:=fun r hr=>h r (by simpa using hr)
theorem tV(rs:List (List Int))(h:yw rs)(h8:rs.length<=8):(kH rs).length=64:=by
 unfold kH;rw[qZ,List.length_map,qxe _ (qvu h)];simp;omega
theorem gb(rs:List (List Int))(h:yw rs)(h8:rs.length<=8):iL (kH rs).toArray:=by
 refine⟨by simpa using tV rs h h8,?_⟩;rw[List.all_toArray,qW];intro v hv;unfold kH at hv;rw[List.mem_append]at hv;rcases hv with hv|hv
 ·rw[(List.mem_replicate.mp hv).2];rfl
 ·obtain⟨z,_,rfl⟩:=List.mem_map.mp hv;rfl
theorem m8(rs:List (List Int))(r:List Int)(h8:rs.length<8)(hr:r.length=8) :
  ((kH rs).toArray.toList.take (8*(7-rs.length))++(r.map (Value.int .u8)++(kH rs).toArray.toList.drop (8*(7-rs.length)+(r.map (Value.int .u8)).length)))=kH (rs++[r]):=by
 unfold kH;rw[List.length_map,hr];rw[List.take_append_of_le_length (by simp;omega),List.take_replicate,show min (8*(7-rs.length)) (64-8*rs.length)=64-8*(rs++[r]).length from by simp;omega];rw[List.drop_append,List.drop_replicate,show 64-8*rs.length-(8*(7-rs.length)+8)=0 from by omega,List.length_replicate,show 8*(7-rs.length)+8-(64-8*rs.length)=0 from by omega];simp
theorem gB{l:List UInt8}{a:List Int}(h:jL l=some a):a.length=8:=by
 unfold jL at h;split at h
 ·split at h
  ·simp at h;subst h;assumption
  ·simp at h
 ·simp at h
theorem jg:∀(xs:List ByteArray) (rs:List (List Int)),jK xs=some rs->yw rs/\rs.length=xs.length
 | [],rs,h=>by simp[jK]at h;subst h;exact⟨fun r hr=>by simp at hr,rfl⟩
 | x :: t,rs,h=>by
   unfold jK at h;cases h1:jL x.data.toList with
   | none=>rw[h1]at h;simp at h
   | some a =>
    cases h2:jK t with
    | none=>rw[h1,h2]at h;simp at h
    | some b =>
     rw[h1,h2]at h;simp at h;subst h;obtain⟨e1,e2⟩:=jg t b h2;exact⟨fun r hr=>by rcases List.mem_cons.mp hr with rfl|hr;exact gB h1;exact e1 r hr,by simp[e2]⟩
theorem zc(sep:ByteArray):∀(k:Nat)(s x:ByteArray),x∈Lib.splitB sep 0 k s->x.size<=s.size
 | 0,s,x,h=>by simp[Lib.splitB]at h;subst h;exact qL _
 | k+1,s,x,h=>by
   unfold Lib.splitB at h;split at h
   ·simp at h;subst h;exact qL _
   ·rcases List.mem_cons.mp h with rfl|h
    ·rw[ByteArray.size_extract];omega
    ·have:=zc sep k _ x h;rw[ByteArray.size_extract]at this;omega
theorem x7:(Tryz.prog.info? 67).map (·.size)=some 64:=by kernel_rfl
theorem EZ:(Tryz.prog.info? 5).map (·.size)=some 1:=by kernel_rfl
theorem qj{P:Program}{fn:Func}{p q:Tmp}{ty:TypeId}(h:fn.results=#[.cell p ty,.tmp q])(tmps:Array Value)(w:World)(g:Nat)(t:TypeId)(cs:Array Value)(fr:Nat × Nat)(d:TypeDesc)
  (hp:tmps.getD p undef=.pointer (some ⟨g,0,none⟩)) (hg:w.heap[g]?=some (.cells cs t fr))
  (hu:P.underlying ty=some d) (hd:(match d with|.struct _|.array _ _=>true|_=>false)=true) (hi:(P.info? ty).map (·.size)=some cs.size) :
  (results fn tmps).run P w=.ok (.tuple #[.agg cs,tmps.getD q undef]) w:=by
 have hp':tmps[p]?.getD undef=.pointer (some ⟨g,0,none⟩):=by simpa using hp
 simp[results,h,hp',asAddr,run_loadVar_row w g t ty cs fr d hg hu hd hi]
theorem lM(w:World)(a b c:Obj):(((w.alloc a).alloc b).alloc c).heap[w.heap.size]?=some a/\(((w.alloc a).alloc b).alloc c).heap[w.heap.size+1]?=some b/\(((w.alloc a).alloc b).alloc c).heap[w.heap.size+2]?=some c:=by
 have e:(((w.alloc a).alloc b).alloc c).heap=((w.heap.push a).push b).push c:=rfl;rw[e];refine⟨?_,?_,?_⟩
 ·simp only[Array.getElem?_push,Array.size_push];rw[qF (by omega),qF (by omega),qI trivial]
 ·simp only[Array.getElem?_push,Array.size_push];rw[qF (by omega),qI trivial]
 ·simp only[Array.getElem?_push,Array.size_push];rw[qI trivial]
def BAt(w:World)(N:Nat)(xs:List ByteArray)(sq:Array Value)(wr:World):Prop :=
 (∃A,iL A/\wr.heap[w.heap.size]?=some (.cells A 67))/\wr.heap[w.heap.size+1]?=some (.cells sq 67)/\wr.heap[w.heap.size+2]?=some (.cells (Lib.cellsOf xs N) 9)/\w.heap.size+3<=wr.heap.size/\Gr w wr
theorem iY(s:ByteArray)(hs:s.size<4294967281)(m:Int)(w:World)(hm:w.cell? ⟨4,0,none⟩=some (.int .i64 m)) :
  Calls Tryz.prog 136 #[.string s,.string ⟨#[47]⟩,.int .i64 9] w fun e w'=>e=.returned (.slice (some ⟨w.heap.size,0,none⟩) (xL 47 9 s).length (min 9 (s.size+1)))/\w'=w.alloc (.cells (Lib.cellsOf (xL 47 9 s) (min 9 (s.size+1))) 9) :=
 Tryz.strings_SplitN s ⟨#[47]⟩ 9 m w hs hm (by decide) (by omega) (by omega)
theorem qjn(xs:List ByteArray)(N k:Nat)(h:k<xs.length):(Lib.cellsOf xs N)[k]?=some (.string xs[k]):=by
 unfold Lib.cellsOf;rw[List.getElem?_toArray,List.getElem?_append_left (by simpa using h)];simp[h]
def kQ:Array Value:=#[.int .u8 0,.int .u8 0,.int .u8 0,.int .u8 0,.int .u8 0,.int .u8 0,.int .u8 0,.int .u8 0,.int .u8 0,.int .u8 0,.int .u8 0,.int .u8 0,.int .u8 0,.int .u8 0,.int .u8 0,.int .u8 0,.int .u8 0,.int .u8 0,.int .u8 0,.int .u8 0,.int .u8 0,.int .u8 0,.int .u8 0,.int .u8 0,.int .u8 0,.int .u8 0,.int .u8 0,.int .u8 0,.int .u8 0,.int .u8 0,.int .u8 0,.int .u8 0,.int .u8 0,.int .u8 0,.int .u8 0,.int .u8 0,.int .u8 0,.int .u8 0,.int .u8 0,.int .u8 0,.int .u8 0,.int .u8 0,.int .u8 0,.int .u8 0,.int .u8 0,.int .u8 0,.int .u8 0,.int .u8 0,.int .u8 0,.int .u8 0,.int .u8 0,.int .u8 0,.int .u8 0,.int .u8 0,.int .u8 0,.int .u8 0,.int .u8 0,.int .u8 0,.int .u8 0,.int .u8 0,.int .u8 0,.int .u8 0,.int .u8 0,.int .u8 0]
theorem qk5:iL kQ:=⟨rfl,by decide +kernel⟩
theorem Cu:kQ=(kH []).toArray:=by kernel_rfl
theorem Gr.setRow{a b:World}(h:Gr a b)(g:Nat)(hg:a.heap.size<=g)(cs:Array Value):Gr a (b.setRow g cs) :=
 Below.trans h ⟨rfl,rfl,rfl,by simp[World.setRow],fun k hk=>setRow_other b g k cs (by omega)⟩
theorem nO(s:ByteArray)(hs:s.size<4294967281)(m:Int)(w:World)(hm:w.cell? ⟨4,0,none⟩=some (.int .i64 m))(hz:4<w.heap.size)(h8:(xL 47 9 s).length≠8):Calls Tryz.prog 137 #[.string s] w fun e w'=>vm s e/\Gr w w':=by
 have hm':=qC hm;clear hm;have hend:Hid (vm s (.returned (.tuple #[.agg kQ,.bool false]))):=qC (.inr ⟨by unfold j7;rw[qF h8],kQ,qk5,rfl⟩);have hne:(((xL 47 9 s).length:Int)==8)=false:=by simp;omega
 clear h8;go_enter Tryz.func137,Tryz.ntmps137;go_wp2_with fail;refine(iY s hs m _ ?_).mono ?_
 ·rw[World.cell?_alloc_past _ _ _ (by simp;omega),World.cell?_alloc_past _ _ _ hz];exact qa hm'
 rintro e w3 ⟨rfl,hw3⟩;have hh:=lM w (.cells kQ 67) (.cells kQ 67) (.cells (Lib.cellsOf (xL 47 9 s) (min 9 (s.size+1))) 9);have hg3:Gr w w3:=by rw[hw3];exact((((Gr.refl w).alloc _ _).alloc _ _).alloc _ _)
 have hA0:w3.heap[w.heap.size]?=some (.cells kQ 67):=by rw[hw3];exact hh.1
 have hA1:w3.heap[w.heap.size+1]?=some (.cells kQ 67):=by rw[hw3];exact hh.2.1
 clear hh hw3;generalize hZ:kQ=Z at hA0 hA1 hend;have hZs:Z.size=64:=by rw[<-hZ];rfl
 have hZo:Z.all (·.oneCell')=true:=by rw[<-hZ];exact qk5.2
 clear hZ;have hA0':=qC hA0;have hA1':=qC hA1;have hZs':=qC hZs;clear hA0 hA1 hZs;go_wp2_with(first|(refine wpList_load_row rfl 67 _ rfl (w.heap.size+1) rfl 67 Z (0,0) _ (qa hA1') Tryz.underlying67 rfl (by rw[qa hZs'];exact x7) ?_)|(refine wpList_store_row rfl 67 _ _ rfl w.heap.size Z rfl rfl 67 Z (qa hA0') (by rw[qa hZs'];exact x7) rfl hZo ?_));exact bodyPost_ret (v:=.tuple #[.agg Z,.bool false]) (qj Tryz.results137 _ _ w.heap.size 67 Z (0,0) _ rfl (setRow_heap _ _ _ _ _ _ (qa hA0')) Tryz.underlying67 rfl (by rw[qa hZs'];exact x7)) rfl ⟨qa hend,hg3.setRow _ (qL _) _⟩
theorem GJ(l:List Int)(h:l.length=8):∃a b c d e f g i,l=[a,b,c,d,e,f,g,i]:=by
 match l,h with
 | [a,b,c,d,e,f,g,i],_=>exact⟨a,b,c,d,e,f,g,i,rfl⟩
theorem nR(s:ByteArray)(hs:s.size<4294967281)(m:Int)(w:World)(hm:w.cell? ⟨4,0,none⟩=some (.int .i64 m))(hz:4<w.heap.size)(h8:(xL 47 9 s).length=8):Calls Tryz.prog 137 #[.string s] w fun e w'=>vm s e/\Gr w w':=by
 have hm':=qC hm;clear hm
 have hbad:Hid (jK (xL 47 9 s)=none->∀A,iL A->vm s (.returned (.tuple #[.agg A,.bool false]))) :=
  qC (fun h A hA=>.inr ⟨by unfold j7;rw[qI h8,h],A,hA,rfl⟩)
 have hgood:Hid (∀rs,jK (xL 47 9 s)=some rs->vm s (.returned (.tuple #[.agg (kH rs).toArray,.bool true]))):=qC (by
  intro rs h;obtain⟨e1,e2⟩:=jg _ _ h;refine .inl ⟨rs.reverse.flatten,by unfold j7;rw[qI h8,h],?_,?_⟩
  ·rw[qxe _ (qvu e1),List.length_reverse,e2,h8]
  ·unfold kH;rw[e2,h8];simp)
 have hsz:Hid (∀x∈xL 47 9 s,x.size<=s.size):=qC (fun x hx=>zc _ _ _ _ hx);go_enter Tryz.func137,Tryz.ntmps137;go_wp2_with fail;refine(iY s hs m _ ?_).mono ?_
 ·rw[World.cell?_alloc_past _ _ _ (by simp;omega),World.cell?_alloc_past _ _ _ hz];exact qa hm'
 rintro e w3 ⟨rfl,hw3⟩
 have hbat0:BAt w (min 9 (s.size+1)) (xL 47 9 s) (kH []).toArray w3:=by
  have hh:=lM w (.cells kQ 67) (.cells kQ 67) (.cells (Lib.cellsOf (xL 47 9 s) (min 9 (s.size+1))) 9);rw[hw3];exact⟨⟨kQ,qk5,hh.1⟩,by rw[<-Cu];exact hh.2.1,hh.2.2,Nat.le_of_eq (by rw[World.size_alloc,World.size_alloc,World.size_alloc]),((((Gr.refl w).alloc _ _).alloc _ _).alloc _ _)⟩
 clear hw3;generalize xL 47 9 s=xs at h8 hbad hgood hsz hbat0 ⊢;generalize min 9 (s.size+1)=N at hbat0 ⊢;have hbat:=qC hbat0;have h8':=qC h8;clear hbat0;go_wp2;go_loopg [18] 8 (fun g i wr=>∃k:Nat,k+g=8/\i=.int .i64 k/\∃rs,jK (xs.take k)=some rs/\BAt w N xs (kH rs).toArray wr)
 case atStart=>exact⟨0,rfl,rfl,[],rfl,qa hbat⟩
 case round =>
  clear hbat;obtain⟨k,k1,rfl,rs,hrs0,⟨A0,hO0,hb0⟩,hb1,hb2,hsz3,hgr⟩:=hrel;have hrs:=qC hrs0;have hlen:=qC (jg _ _ hrs0);have hb0':=qC hb0;have hb1':=qC hb1;have hb2':=qC hb2;have hgr':=qC hgr;have hO0':=qC hO0;clear hrs0 hb0 hb1 hb2 hgr hO0;by_cases hlt:k<8
  ·have hk:k<xs.length:=by rw[qa h8'];exact hlt
   have hcell:wr.cell? ⟨w.heap.size+2,k,none⟩=some (.string xs[k]):=by
    rw[cell_of_row _ _ _ _ _ _ (qa hb2')];exact qjn xs N k hk
   have hcur:=qC (gb rs (qa hlen).1 (by have:=(qa hlen).2;rw[List.length_take]at this;omega));go_wp2_with fail;refine(rh xs[k] (by have:=qa hsz xs[k] (List.getElem_mem hk);unfold maxLen;omega) _).mono ?_;rintro e w4 ⟨hr,hg4⟩;have h0:Hid (∀o,(w4.alloc o).heap[w.heap.size]?=some (Obj.cells A0 67)):=qC (fun o=>by rw[heap_alloc_old _ _ (by have:=Below.size hg4;omega),Below.block hg4 _ (by omega)];exact qa hb0');have h1:Hid (∀o,(w4.alloc o).heap[w.heap.size+1]?=some (Obj.cells (kH rs).toArray 67)):=qC (fun o=>by rw[heap_alloc_old _ _ (by have:=Below.size hg4;omega),Below.block hg4 _ (by omega)];exact qa hb1');have h2:Hid (∀o,(w4.alloc o).heap[w.heap.size+2]?=some (Obj.cells (Lib.cellsOf xs N) 9)):=qC (fun o=>by rw[heap_alloc_old _ _ (by have:=Below.size hg4;omega),Below.block hg4 _ (by omega)];exact qa hb2');have hg5:Hid (∀c,Gr w (w4.alloc (Obj.cells c 277))):=qC (fun c=>((qa hgr').trans hg4).alloc _ _);have hsz5:w.heap.size+3<=w4.heap.size:=by have:=Below.size hg4;omega
   clear hb0' hb1' hb2' hcell hsz3;rcases hr with⟨acc,ha,rfl⟩|⟨hn,a0,a1,a2,a3,a4,a5,a6,a7,rfl⟩
   ·obtain⟨a0,a1,a2,a3,a4,a5,a6,a7,rfl⟩:=GJ acc (gB ha);have ha':=qC ha;clear ha;go_wp2;have hrl:rs.length=k:=by have:=(qa hlen).2;rw[List.length_take]at this;omega
    have hfit:8*(7-k)+8<=(kH rs).toArray.size:=by rw[(qa hcur).1];omega
    have hrl':=qC hrl;clear hrl;obtain⟨o,ho⟩:∃o:Nat,o=8*(7-k):=⟨_,rfl⟩;have hw1:IntKind.i64.wrap (7-(k:Int))=7-(k:Int):=by rw[IntKind.wrap_i64];omega
    have hw2:IntKind.i64.wrap (8*(7-(k:Int)))=(o:Int):=by rw[IntKind.wrap_i64];omega
    have ho64:(o:Int)<=64:=by omega
    have ho56:o<=56:=by omega
    have hfit':o+8<=(kH rs).toArray.size:=by rw[ho];exact hfit
    have ho':=qC ho;clear ho hfit;go_region_law (refine qj5 rfl (.tmp 34) (.tmp 35) 145 145 rfl 5 Tryz.underlying145 EZ (w.heap.size+1) o (64-o) (64-o) ⟨w4.heap.size,0,none⟩ 8 8 (by simp[Act.eval,Act.put];omega) (by simp[Act.eval,Act.put]) (kH rs).toArray 67 (qa h1 _) [.int .u8 a0,.int .u8 a1,.int .u8 a2,.int .u8 a3,.int .u8 a4,.int .u8 a5,.int .u8 a6,.int .u8 a7] (Nat.min_eq_left (show 8<=64-o by omega)).symm (by intro j v hj;rw[Addr.add_lit,Nat.zero_add];show(World.alloc _ _).cell? _=_;rw[World.cell?_alloc_at _ _ _ _ rfl];simpa using hj) hfit' (by simp[Value.oneCell']) ?_);go_wp2;go_roundg (gk-1)
    case measure=>omega
    case rel =>
     have hst:=m8 rs [a0,a1,a2,a3,a4,a5,a6,a7] (by rw[qa hrl'];exact hlt) rfl;rw[qa hrl',<-qa ho']at hst;refine⟨k+1,by omega,by go_num,rs++[[a0,a1,a2,a3,a4,a5,a6,a7]],?_,⟨A0,qa hO0',?_⟩,?_,?_,?_,?_⟩
     ·rw[List.take_succ_eq_append_getElem hk,uJ,qa hrs,qa ha']
     ·exact(setRow_other _ _ _ _ (by omega)).trans (qa h0 _)
     ·rw[<-hst];exact setRow_heap _ _ _ _ _ _ (qa h1 _)
     ·exact(setRow_other _ _ _ _ (by omega)).trans (qa h2 _)
     ·rw[size_setRow];show _<=(World.alloc _ _).heap.size;rw[World.size_alloc];omega
     ·exact(qa hg5 _).drew.setRow _ (by omega) _
   ·have hend:=qC (qa hbad (eY xs k hk hn) _ (qa hcur));clear hn hbad hgood;have hcs:=qC (qa hcur).1;go_wp2_with(first|(refine wpList_load_row rfl 67 _ rfl (w.heap.size+1) rfl 67 (kH rs).toArray (0,0) _ (qa h1 _) Tryz.underlying67 rfl (by rw[qa hcs];exact x7) ?_)|(refine wpList_store_row rfl 67 _ _ rfl w.heap.size (kH rs).toArray rfl rfl 67 A0 (qa h0 _) (by rw[qa hcs];exact x7) (by rw[(qa hO0').1,qa hcs]) (qa hcur).2 ?_));exact bodyPost_ret (v:=.tuple #[.agg (kH rs).toArray,.bool false]) (qj Tryz.results137 _ _ w.heap.size 67 _ (0,0) _ rfl (setRow_heap _ _ _ _ _ _ (qa h0 _)) Tryz.underlying67 rfl (by rw[qa hcs];exact x7)) rfl ⟨qa hend,(qa hg5 _).setRow _ (qL _) _⟩
  ·have ek:k=8:=by omega
   subst ek;have hfull:xs.take 8=xs:=List.take_of_length_le (by rw[qa h8'];exact qL _);rw[hfull]at hrs;have hend:=qC (qa hgood rs (qa hrs));have hcur:=qC (gb rs (qa hlen).1 (by have:=(qa hlen).2;rw[List.length_take]at this;omega));have hcs:=qC (qa hcur).1;clear hbad hgood hlen hrs hfull;go_wp2_with(first|(refine wpList_load_row rfl 67 _ rfl (w.heap.size+1) rfl 67 (kH rs).toArray (0,0) _ (qa hb1') Tryz.underlying67 rfl (by rw[qa hcs];exact x7) ?_)|(refine wpList_store_row rfl 67 _ _ rfl w.heap.size (kH rs).toArray rfl rfl 67 A0 (qa hb0') (by rw[qa hcs];exact x7) (by rw[(qa hO0').1,qa hcs]) (qa hcur).2 ?_));exact bodyPost_ret (v:=.tuple #[.agg (kH rs).toArray,.bool true]) (qj Tryz.results137 _ _ w.heap.size 67 _ (0,0) _ rfl (setRow_heap _ _ _ _ _ _ (qa hb0')) Tryz.underlying67 rfl (by rw[qa hcs];exact x7)) rfl ⟨qa hend,(qa hgr').setRow _ (qL _) _⟩
theorem nQ(s:ByteArray)(hs:s.size<4294967281)(m:Int)(w:World)(hm:w.cell? ⟨4,0,none⟩=some (.int .i64 m))(hz:4<w.heap.size):Calls Tryz.prog 137 #[.string s] w fun e w'=>vm s e/\Gr w w':=by
 by_cases h8:(xL 47 9 s).length=8
 ·exact nR s hs m w hm hz h8
 ·exact nO s hs m w hm hz h8
end
end Go.Proofs.YtnfakamfmkhlbabGreatDoor.C
