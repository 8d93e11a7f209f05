import Derived.Test.YtnfakamfmkhlbaaGreatDoorZf2
import Derived.Deep.Draws
set_option maxRecDepth 100000
set_option maxHeartbeats 4000000
set_option linter.unusedSimpArgs false
namespace Go.Proofs.YtnfakamfmkhlbaaGreatDoor.C
open Go.ChangeShapes Go.WideShapes Go.ChangeAt Go.RowKit
def clc:Nat->UInt8
 | 0=>75
 | 1=>81
 | 2=>107
 | _=>113
def restS (l:List UInt8):Nat->List UInt8
 | 0=>l
 | i+1=>Lib.trimPrefix (restS l i) [clc i]
def leftS (l:List UInt8) (i:Nat):Bool:=Lib.hasPrefix (restS l i) [clc i]
theorem castle_dash (s:ByteArray) (h:s.toList=[45]) (w:World):Calls Tryz.prog 70 #[.string s] w fun e w'=>e=.returned (.tuple #[.agg #[.bool false,.bool false,.bool false,.bool false],.bool true])/\Gr w w':=by
 go_enter Tryz.func70,Tryz.ntmps70;go_wp2;refine bodyPost_ret (v:=.tuple #[.agg #[.bool false,.bool false,.bool false,.bool false],.bool true]) (by simp [results,Tryz.results70,go_sem]) rfl ⟨rfl,?_⟩
 repeat (first|exact Gr.refl _|apply Gr.alloc)
def CastEnd (l:List UInt8) (e:Ending):Prop :=
 e=.returned (.tuple #[.agg #[.bool (leftS l 0),.bool (leftS l 1),.bool (leftS l 2),.bool (leftS l 3)],.bool (!l.isEmpty&&(restS l 4).isEmpty)])
theorem arr4 (A:Array Value) (hs:A.size=4) (f:Nat->Bool) (h:∀ j,j<4->A[j]?=some (.bool (f j))):A=#[.bool (f 0),.bool (f 1),.bool (f 2),.bool (f 3)]:=by
 apply Array.ext_getElem?;intro i;by_cases hi:i<4
 ·rw [h i hi];have:i=0\/i=1\/i=2\/i=3:=by omega
  rcases this with rfl|rfl|rfl|rfl<;>rfl
 ·rw [Array.getElem?_eq_none (by omega),Array.getElem?_eq_none (by simp;omega)]
theorem set4 (A:Array Value) (hs:A.size=4) (f:Nat->Bool) (i:Nat) (hi:i<4) (b:Bool) (hb:b=f i) (h:∀ j,j<i->A[j]?=some (.bool (f j))) :
  (A.setIfInBounds i (.bool b)).size=4/\∀ j,j<i+1->(A.setIfInBounds i (.bool b))[j]?=some (.bool (f j)):=by
 refine ⟨by simpa using hs,?_⟩;intro j hj;rw [Array.getElem?_setIfInBounds];by_cases e:i=j
 ·subst e;rw [if_pos rfl,if_pos (by omega),hb]
 ·rw [if_neg e];exact h j (by omega)
theorem castle_loop (s:ByteArray) (h:(s.toList==[45])=false) (w:World):Calls Tryz.prog 70 #[.string s] w fun e w'=>CastEnd s.data.toList e/\Gr w w':=by
 go_enter Tryz.func70,Tryz.ntmps70;go_wp2;go_loopg [5,11] 4 (fun g r n wr=>∃ i:Nat,i+g=4/\n=.int .i64 i/\(∃ q:ByteArray,r=.string q/\q.data.toList=restS s.data.toList i)/\∃ A:Array Value,wr=(w.alloc (Obj.cells #[.bool false,.bool false,.bool false,.bool false] 23)).alloc (Obj.cells A 23)/\A.size=4/\∀ j,j<i->A[j]?=some (.bool (leftS s.data.toList j)))
 case atStart=>exact ⟨0,rfl,rfl,⟨s,rfl,rfl⟩,_,rfl,rfl,fun j hj=>by omega⟩
 case round =>
  obtain ⟨i,i1,rfl,⟨q,rfl,hq0⟩,A,rfl,hs,hA0⟩:=hrel;have hA:=hide hA0;have hq:=hide hq0;clear hA0 hq0;by_cases hlt:i<4
  ·have hcell:((w.alloc (Obj.cells #[.bool false,.bool false,.bool false,.bool false] 23)).alloc (Obj.cells A 23)).cell? ⟨w.heap.size+1,i,none⟩=some (A[i]'(by omega)):=by
    rw [cell_of_row _ _ _ _ _ _ (heap_alloc2_new _ _ _)];exact Array.getElem?_eq_getElem _
   have hi:i=0\/i=1\/i=2\/i=3:=by omega
   rcases hi with rfl|rfl|rfl|rfl
   ·go_wp2_with (go_at_call 135;refine (Tryz.strings_CutPrefix _ _ _).mono ?_;rintro e w' ⟨rfl,rfl⟩);go_roundg (gk-1)
    case measure=>omega
    case rel =>
     obtain ⟨e1,e2⟩:=set4 A hs (leftS s.data.toList) 0 hlt (Lib.hasPrefix q.data.toList [clc 0]) (by unfold leftS;rw [qa hq]) (qa hA);refine ⟨1,by omega,rfl,⟨_,rfl,?_⟩,_,rfl,e1,e2⟩;show Lib.trimPrefix q.data.toList [clc 0]=Lib.trimPrefix (restS s.data.toList 0) [clc 0];rw [qa hq]
   ·go_wp2_with (go_at_call 135;refine (Tryz.strings_CutPrefix _ _ _).mono ?_;rintro e w' ⟨rfl,rfl⟩);go_roundg (gk-1)
    case measure=>omega
    case rel =>
     obtain ⟨e1,e2⟩:=set4 A hs (leftS s.data.toList) 1 hlt (Lib.hasPrefix q.data.toList [clc 1]) (by unfold leftS;rw [qa hq]) (qa hA);refine ⟨2,by omega,rfl,⟨_,rfl,?_⟩,_,rfl,e1,e2⟩;show Lib.trimPrefix q.data.toList [clc 1]=Lib.trimPrefix (restS s.data.toList 1) [clc 1];rw [qa hq]
   ·go_wp2_with (go_at_call 135;refine (Tryz.strings_CutPrefix _ _ _).mono ?_;rintro e w' ⟨rfl,rfl⟩);go_roundg (gk-1)
    case measure=>omega
    case rel =>
     obtain ⟨e1,e2⟩:=set4 A hs (leftS s.data.toList) 2 hlt (Lib.hasPrefix q.data.toList [clc 2]) (by unfold leftS;rw [qa hq]) (qa hA);refine ⟨3,by omega,rfl,⟨_,rfl,?_⟩,_,rfl,e1,e2⟩;show Lib.trimPrefix q.data.toList [clc 2]=Lib.trimPrefix (restS s.data.toList 2) [clc 2];rw [qa hq]
   ·go_wp2_with (go_at_call 135;refine (Tryz.strings_CutPrefix _ _ _).mono ?_;rintro e w' ⟨rfl,rfl⟩);go_roundg (gk-1)
    case measure=>omega
    case rel =>
     obtain ⟨e1,e2⟩:=set4 A hs (leftS s.data.toList) 3 hlt (Lib.hasPrefix q.data.toList [clc 3]) (by unfold leftS;rw [qa hq]) (qa hA);refine ⟨4,by omega,rfl,⟨_,rfl,?_⟩,_,rfl,e1,e2⟩;show Lib.trimPrefix q.data.toList [clc 3]=Lib.trimPrefix (restS s.data.toList 3) [clc 3];rw [qa hq]
  ·have ei:i=4:=by omega
   subst ei;have eA:=arr4 A hs _ (qa hA);subst eA;have hq2:=qa hq;have hemp:q.toList.isEmpty=(restS s.data.toList 4).isEmpty:=by rw [<-hq2,Lib.toList_data]
   have hse:s.toList.isEmpty=s.data.toList.isEmpty:=by rw [Lib.toList_data]
   generalize hb1:s.data.toList.isEmpty=b1 at hse;generalize hb2:(restS s.data.toList 4).isEmpty=b2 at hemp;have hb1':=hide hb1;have hb2':=hide hb2;clear hb1 hb2 hq2;cases b1<;>cases b2
   all_goals
    go_wp2;refine bodyPost_ret (v:=.tuple #[.agg #[.bool (leftS s.data.toList 0),.bool (leftS s.data.toList 1),.bool (leftS s.data.toList 2),.bool (leftS s.data.toList 3)],.bool (!s.data.toList.isEmpty&&(restS s.data.toList 4).isEmpty)]) (by rw [qa hb1',qa hb2'];simp [results,Tryz.results70,go_sem]) rfl ⟨rfl,?_⟩
    repeat (first|exact Gr.refl _|apply Gr.alloc)
def castS (l:List UInt8):Option (Nat->Bool) :=
 if l=[45] then some (fun _=>false) else if !l.isEmpty&&(restS l 4).isEmpty then some (leftS l) else none
def CastleEnd (l:List UInt8) (e:Ending):Prop:=∃ f:Nat->Bool,e=.returned (.tuple #[.agg #[.bool (f 0),.bool (f 1),.bool (f 2),.bool (f 3)],.bool (castS l).isSome])/\∀ g,castS l=some g->f=g
theorem castle_any (s:ByteArray) (w:World):Calls Tryz.prog 70 #[.string s] w fun e w'=>CastleEnd s.data.toList e/\Gr w w':=by
 by_cases h:s.toList=[45]
 ·refine (castle_dash s h w).mono ?_;rintro e w' ⟨rfl,hg⟩;have e1:castS s.data.toList=some (fun _=>false):=by unfold castS;rw [if_pos (by rw [<-Lib.toList_data];exact h)]
  exact ⟨⟨fun _=>false,by rw [e1];rfl,fun g hg=>by rw [e1] at hg;simpa using hg⟩,hg⟩
 ·refine (castle_loop s (by simpa using h) w).mono ?_;rintro e w' ⟨he,hg⟩;have h':¬ s.data.toList=[45]:=by rw [<-Lib.toList_data];exact h
  refine ⟨⟨leftS s.data.toList,?_,?_⟩,hg⟩
  ·rw [he];congr 4;unfold castS;rw [if_neg h'];cases (!s.data.toList.isEmpty&&(restS s.data.toList 4).isEmpty)<;>rfl
  ·intro g hg;unfold castS at hg;rw [if_neg h'] at hg;cases hb:(!s.data.toList.isEmpty&&(restS s.data.toList 4).isEmpty) with
   | true=>rw [hb] at hg;simpa using hg
   | false=>rw [hb] at hg;exact absurd hg (by simp)
theorem qb (w:World) (n:Nat) (a:Addr) (v:Value):(w.drewN n).setCell a v=(w.setCell a v).drewN n:=rfl
theorem qd (w:World) (n:Nat) (o:Obj):(w.drewN n).alloc o=(w.alloc o).drewN n:=rfl
theorem Gr.drewN {a b:World} (h:Gr a b) (n:Nat):Gr a (b.drewN n):=Below.trans h ⟨rfl,rfl,rfl,Nat.le_refl _,fun _ _=>rfl⟩
attribute [local go_sem] qb qd
def lettersL:List UInt8:=[80,78,66,82,81,75,112,110,98,114,113,107]
def letS (c:UInt8):Bool:=!decide (Lib.indexByte lettersL c<0)
def digS (c:UInt8):Bool:=decide (49<=c.toNat)&&decide (c.toNat<=56)
def rkStep (st:Option (List Int × Bool)) (c:UInt8):Option (List Int × Bool) :=
 match st with
 | none=>none
 | some (acc,a) =>
  if digS c then (if a||decide (8<acc.length+(c.toNat-48)) then none else some (acc++List.replicate (c.toNat-48) 46,true))
  else if letS c then (if 8<acc.length+1 then none else some (acc++[(c.toNat:Int)],false)) else none
def rkFold (l:List UInt8):Option (List Int × Bool):=l.foldl rkStep (some ([],false))
def rankS (l:List UInt8):Option (List Int) :=
 match rkFold l with
 | some (acc,_)=>if acc.length=8 then some acc else none
 | none=>none
theorem rkFold_snoc (l:List UInt8) (c:UInt8):rkFold (l++[c])=rkStep (rkFold l) c:=by
 unfold rkFold;rw [List.foldl_append];rfl
theorem rk_none (l:List UInt8):l.foldl rkStep none=none:=by
 induction l with
 | nil=>rfl
 | cons c r ih=>exact ih
theorem qxn (s:ByteArray) (k:Nat) (h:k<s.size) (hb:rkStep (rkFold (s.data.toList.take k)) s[k]=none):rankS s.data.toList=none:=by
 unfold rankS
 have:rkFold s.data.toList=none:=by
  rw [<-List.take_append_drop (k+1) s.data.toList,xt s k h];unfold rkFold at hb ⊢;rw [List.foldl_append,List.foldl_append];simp only [List.foldl_cons,List.foldl_nil];rw [hb,rk_none]
 rw [this]
def PutR (acc:List Int) (R:Array Value):Prop:=R.size=8/\(∀ j (h:j<acc.length),R[j]?=some (.int .u8 acc[j]))/\∀ j,j<8->∃ z,R[j]?=some (.int .u8 z)
theorem PutR.nil:PutR [] #[.int .u8 0,.int .u8 0,.int .u8 0,.int .u8 0,.int .u8 0,.int .u8 0,.int .u8 0,.int .u8 0] :=
 ⟨rfl,fun j h=>by simp at h,fun j h=>⟨0,by
  have:j=0\/j=1\/j=2\/j=3\/j=4\/j=5\/j=6\/j=7:=by omega
  rcases this with rfl|rfl|rfl|rfl|rfl|rfl|rfl|rfl<;>rfl⟩⟩
theorem PutR.snoc {acc:List Int} {R:Array Value} (h:PutR acc R) (hl:acc.length<8) (c:Int):PutR (acc++[c]) (R.setIfInBounds acc.length (.int .u8 c)):=by
 refine ⟨by simpa using h.1,fun j hj=>?_,fun j hj=>?_⟩
 ·rw [Array.getElem?_setIfInBounds];by_cases e:acc.length=j
  ·subst e;rw [if_pos rfl,if_pos (by rw [h.1];exact hl)];simp
  ·have hj':j<acc.length:=by simp at hj;omega
   rw [if_neg e,h.2.1 j hj',List.getElem_append_left hj']
 ·rw [Array.getElem?_setIfInBounds];by_cases e:acc.length=j
  ·exact ⟨c,by rw [if_pos e,if_pos (by rw [h.1];exact hl)]⟩
  ·rw [if_neg e];exact h.2.2 j hj
theorem PutR.done {acc:List Int} {R:Array Value} (h:PutR acc R) (hl:acc.length=8):R=(acc.map (Value.int .u8)).toArray:=by
 apply Array.ext_getElem?;intro i;by_cases hi:i<8
 ·rw [h.2.1 i (by omega)];simp [hl,hi]
 ·rw [Array.getElem?_eq_none (by have:=h.1;omega),Array.getElem?_eq_none (by simp;omega)]
theorem arr8 {acc:List Int} {R:Array Value} (h:PutR acc R):∃ a b c d e f g i:Int,R=#[.int .u8 a,.int .u8 b,.int .u8 c,.int .u8 d,.int .u8 e,.int .u8 f,.int .u8 g,.int .u8 i]:=by
 obtain ⟨a,ha⟩:=h.2.2 0 (by omega);obtain ⟨b,hb⟩:=h.2.2 1 (by omega);obtain ⟨c,hc⟩:=h.2.2 2 (by omega);obtain ⟨d,hd⟩:=h.2.2 3 (by omega);obtain ⟨e,he⟩:=h.2.2 4 (by omega);obtain ⟨f,hf⟩:=h.2.2 5 (by omega);obtain ⟨g,hg⟩:=h.2.2 6 (by omega);obtain ⟨i,hi⟩:=h.2.2 7 (by omega);refine ⟨a,b,c,d,e,f,g,i,?_⟩;apply Array.ext_getElem?;intro j;by_cases hj:j<8
 ·have:j=0\/j=1\/j=2\/j=3\/j=4\/j=5\/j=6\/j=7:=by omega
  rcases this with rfl|rfl|rfl|rfl|rfl|rfl|rfl|rfl<;>simp [*]
 ·rw [Array.getElem?_eq_none (by have:=h.1;omega),Array.getElem?_eq_none (by simp;omega)]
def RankEnd (l:List UInt8) (e:Ending):Prop :=
 (∃ acc,rankS l=some acc/\e=.returned (.tuple #[.agg (acc.map (Value.int .u8)).toArray,.bool true]))\/(rankS l=none/\∃ a b c d e' f g i:Int,e=.returned (.tuple #[.agg #[.int .u8 a,.int .u8 b,.int .u8 c,.int .u8 d,.int .u8 e',.int .u8 f,.int .u8 g,.int .u8 i],.bool false]))
theorem rank_any (s:ByteArray) (hs:s.size<=maxLen) (w:World):Calls Tryz.prog 134 #[.string s] w fun e w'=>RankEnd s.data.toList e/\Gr w w':=by
 unfold maxLen at hs;go_enter Tryz.func134,Tryz.ntmps134;go_wp2;go_loopg [5,6,13] s.size (fun g fl af i wr=>∃ k:Nat,k+g=s.size/\i=.int .i64 k/\∃ (acc:List Int) (a:Bool),rkFold (s.data.toList.take k)=some (acc,a)/\fl=.int .i64 acc.length/\af=.bool a/\∃ (R:Array Value) (n:Nat),wr=((w.alloc (Obj.cells #[.int .u8 0,.int .u8 0,.int .u8 0,.int .u8 0,.int .u8 0,.int .u8 0,.int .u8 0,.int .u8 0] 208)).alloc (Obj.cells R 208)).drewN n/\PutR acc R/\acc.length<=8)
 case atStart=>exact ⟨0,by omega,rfl,[],false,rfl,rfl,rfl,_,0,rfl,PutR.nil,by simp⟩
 case round =>
  obtain ⟨k,k1,rfl,acc,a,hf0,rfl,rfl,R,n,rfl,hR0,hacc⟩:=hrel;have hf:=hide hf0;have hR:=hide hR0;clear hf0 hR0;by_cases hlt:k<s.size
  ·by_cases hd:49<=s[k].toNat/\s[k].toNat<=56
   ·obtain ⟨hd1,hd2⟩:=hd;have hdS:Hid (digS s[k]=true):=hide (by unfold digS;rw [decide_eq_true hd1,decide_eq_true hd2];rfl);cases a
    ·by_cases h8:8<acc.length+(s[k].toNat-48)
     ·have hbad:Hid (rankS s.data.toList=none):=hide (qxn s k hlt (by rw [qa hf];unfold rkStep;simp only [qa hdS,if_true,Bool.false_or,decide_eq_true h8]));obtain ⟨r0,r1,r2,r3,r4,r5,r6,r7,rfl⟩:=arr8 (qa hR);clear hR;go_wp2;go_region;go_wp2;refine bodyPost_ret (v:=.tuple #[.agg #[.int .u8 r0,.int .u8 r1,.int .u8 r2,.int .u8 r3,.int .u8 r4,.int .u8 r5,.int .u8 r6,.int .u8 r7],.bool false]) (by simp [results,Tryz.results134,go_sem]) rfl ⟨.inr ⟨qa hbad,_,_,_,_,_,_,_,_,rfl⟩,?_⟩
      repeat (first|exact Gr.refl _|apply Gr.drew|apply Gr.drewN|apply Gr.alloc)
     ·go_wp2;go_region;go_wp2;go_loopg [5,45] (s[k].toNat-48) (fun g fl jj wr=>∃ j:Nat,j+g=s[k].toNat-48/\jj=.int .i64 j/\∃ acc':List Int,acc'=acc++List.replicate j 46/\fl=.int .i64 acc'.length/\∃ (R:Array Value) (n:Nat),wr=((w.alloc (Obj.cells #[.int .u8 0,.int .u8 0,.int .u8 0,.int .u8 0,.int .u8 0,.int .u8 0,.int .u8 0,.int .u8 0] 208)).alloc (Obj.cells R 208)).drewN n/\PutR acc' R)
      case atStart=>exact ⟨0,by omega,rfl,acc,by simp,rfl,R,_,rfl,qa hR⟩
      case round =>
       obtain ⟨j,j1,rfl,acc',hacc0,rfl,R',n',rfl,hR0'⟩:=hrel;have hacc':=hide hacc0;have hR':=hide hR0';have hlen:acc'.length=acc.length+j:=by rw [hacc0];simp
       clear hacc0 hR0';by_cases hj:j<s[k].toNat-48
       ·have hl8:acc'.length<8:=by omega
        have hsz:=(qa hR').1;have hlR:acc'.length<R'.size:=by omega
        clear hlen
        have hcell:((w.alloc (Obj.cells #[.int .u8 0,.int .u8 0,.int .u8 0,.int .u8 0,.int .u8 0,.int .u8 0,.int .u8 0,.int .u8 0] 208)).alloc (Obj.cells R' 208)).cell? ⟨w.heap.size+1,acc'.length,none⟩=some (R'[acc'.length]'hlR):=by
         rw [cell_of_row _ _ _ _ _ _ (heap_alloc2_new _ _ _)];exact Array.getElem?_eq_getElem _
        go_wp2;go_roundg (gk-1)
        case measure=>omega
        case rel =>
         refine ⟨j+1,by omega,by go_num,acc'++[46],?_,by simp,_,_,rfl,(qa hR').snoc hl8 _⟩;rw [qa hacc',List.append_assoc,<-List.replicate_succ']
       ·have ej:j=s[k].toNat-48:=by omega
        clear hlen;go_wp2;go_roundg (s.size-k-1)
        case measure=>omega
        case rel =>
         have ea:=qa hacc';rw [ej] at ea;refine ⟨k+1,by omega,by go_num,acc',true,?_,rfl,rfl,R',_,rfl,qa hR',by rw [ea];simp;omega⟩;rw [xt s k hlt,rkFold_snoc,qa hf,ea];unfold rkStep;simp only [qa hdS,if_true,Bool.false_or,decide_eq_false h8,Bool.false_eq_true,if_false]
    ·have hbad:Hid (rankS s.data.toList=none):=hide (qxn s k hlt (by rw [qa hf];unfold rkStep;simp only [qa hdS,if_true,Bool.true_or]));obtain ⟨r0,r1,r2,r3,r4,r5,r6,r7,rfl⟩:=arr8 (qa hR);clear hR;go_wp2;go_region;go_wp2;refine bodyPost_ret (v:=.tuple #[.agg #[.int .u8 r0,.int .u8 r1,.int .u8 r2,.int .u8 r3,.int .u8 r4,.int .u8 r5,.int .u8 r6,.int .u8 r7],.bool false]) (by simp [results,Tryz.results134,go_sem]) rfl ⟨.inr ⟨qa hbad,_,_,_,_,_,_,_,_,rfl⟩,?_⟩
     repeat (first|exact Gr.refl _|apply Gr.drew|apply Gr.drewN|apply Gr.alloc)
   ·have hdS:Hid (digS s[k]=false):=hide (by unfold digS;rw [<-Bool.decide_and];exact decide_eq_false hd);have hd:s[k].toNat<49\/56<s[k].toNat:=by omega
    have hu:(s[k].toNat:Int).toNat.toUInt8=s[k]:=by simp
    have hl0:Hid (letS s[k]=!decide (Lib.indexByte lettersL s[k]<0)):=hide rfl;generalize hix:Lib.indexByte lettersL s[k]=ix at hl0;have hix':Lib.indexByte [80,78,66,82,81,75,112,110,98,114,113,107] s[k]=ix:=hix;clear hix;by_cases hneg:ix<0
    ·have hbad:Hid (rankS s.data.toList=none):=hide (qxn s k hlt (by rw [qa hf];unfold rkStep;simp only [qa hdS,qa hl0,decide_eq_true hneg];rfl));rcases hd with hd|hd
     all_goals
      obtain ⟨r0,r1,r2,r3,r4,r5,r6,r7,rfl⟩:=arr8 (qa hR);clear hR;go_wp2;go_region;go_wp2_with (go_at_call 138;refine (Tryz.strings_IndexByte _ _ _).mono ?_;rintro e w' ⟨rfl,rfl⟩);refine bodyPost_ret (v:=.tuple #[.agg #[.int .u8 r0,.int .u8 r1,.int .u8 r2,.int .u8 r3,.int .u8 r4,.int .u8 r5,.int .u8 r6,.int .u8 r7],.bool false]) (by simp [results,Tryz.results134,go_sem]) rfl ⟨.inr ⟨qa hbad,_,_,_,_,_,_,_,_,rfl⟩,?_⟩
      repeat (first|exact Gr.refl _|apply Gr.drew|apply Gr.drewN|apply Gr.alloc)
    ·have hlS:Hid (letS s[k]=true):=hide (by rw [qa hl0,decide_eq_false hneg];rfl);by_cases h8:8<acc.length+1
     ·have hbad:Hid (rankS s.data.toList=none):=hide (qxn s k hlt (by rw [qa hf];unfold rkStep;simp only [qa hdS,qa hlS,Bool.false_eq_true,if_false,if_true,h8]));rcases hd with hd|hd
      all_goals
       obtain ⟨r0,r1,r2,r3,r4,r5,r6,r7,rfl⟩:=arr8 (qa hR);clear hR;go_wp2;go_region;go_wp2_with (go_at_call 138;refine (Tryz.strings_IndexByte _ _ _).mono ?_;rintro e w' ⟨rfl,rfl⟩);refine bodyPost_ret (v:=.tuple #[.agg #[.int .u8 r0,.int .u8 r1,.int .u8 r2,.int .u8 r3,.int .u8 r4,.int .u8 r5,.int .u8 r6,.int .u8 r7],.bool false]) (by simp [results,Tryz.results134,go_sem]) rfl ⟨.inr ⟨qa hbad,_,_,_,_,_,_,_,_,rfl⟩,?_⟩
       repeat (first|exact Gr.refl _|apply Gr.drew|apply Gr.drewN|apply Gr.alloc)
     ·rcases hd with hd|hd
      all_goals
       go_wp2;go_region;go_wp2_with (go_at_call 138;refine (Tryz.strings_IndexByte _ _ _).mono ?_;rintro e w' ⟨rfl,rfl⟩);go_loopg [5,45] (1) (fun g fl jj wr=>∃ j:Nat,j+g=1/\jj=.int .i64 j/\∃ acc':List Int,acc'=acc++List.replicate j (s[k].toNat:Int)/\fl=.int .i64 acc'.length/\∃ (R:Array Value) (n:Nat),wr=((w.alloc (Obj.cells #[.int .u8 0,.int .u8 0,.int .u8 0,.int .u8 0,.int .u8 0,.int .u8 0,.int .u8 0,.int .u8 0] 208)).alloc (Obj.cells R 208)).drewN n/\PutR acc' R)
       case atStart=>exact ⟨0,by omega,rfl,acc,by simp,rfl,R,_,rfl,qa hR⟩
       case round =>
        obtain ⟨j,j1,rfl,acc',hacc0,rfl,R',n',rfl,hR0'⟩:=hrel;have hacc':=hide hacc0;have hR':=hide hR0';have hlen:acc'.length=acc.length+j:=by rw [hacc0];simp
        clear hacc0 hR0';by_cases hj:j<1
        ·have hl8:acc'.length<8:=by omega
         have hsz:=(qa hR').1;have hlR:acc'.length<R'.size:=by omega
         clear hlen
         have hcell:((w.alloc (Obj.cells #[.int .u8 0,.int .u8 0,.int .u8 0,.int .u8 0,.int .u8 0,.int .u8 0,.int .u8 0,.int .u8 0] 208)).alloc (Obj.cells R' 208)).cell? ⟨w.heap.size+1,acc'.length,none⟩=some (R'[acc'.length]'hlR):=by
          rw [cell_of_row _ _ _ _ _ _ (heap_alloc2_new _ _ _)];exact Array.getElem?_eq_getElem _
         go_wp2;go_roundg (gk-1)
         case measure=>omega
         case rel =>
          refine ⟨j+1,by omega,by go_num,acc'++[(s[k].toNat:Int)],?_,by simp,_,_,rfl,(qa hR').snoc hl8 _⟩;rw [qa hacc',List.append_assoc,<-List.replicate_succ']
        ·have ej:j=1:=by omega
         clear hlen;go_wp2;go_roundg (s.size-k-1)
         case measure=>omega
         case rel =>
          have ea:=qa hacc';rw [ej] at ea;refine ⟨k+1,by omega,by go_num,acc',false,?_,rfl,rfl,R',_,rfl,qa hR',by rw [ea];simp;omega⟩;rw [xt s k hlt,rkFold_snoc,qa hf,ea];unfold rkStep;simp only [qa hdS,qa hlS,Bool.false_eq_true,if_false,if_true,h8];rfl
  ·have ek:k=s.size:=by omega
   subst ek;have hfull:s.data.toList.take s.size=s.data.toList:=List.take_of_length_le (by simp);rw [hfull] at hf;clear hfull;by_cases h8:acc.length=8
   ·have hdone:=(qa hR).done h8;obtain ⟨r0,r1,r2,r3,r4,r5,r6,r7,rfl⟩:=arr8 (qa hR)
    have hend:Hid (RankEnd s.data.toList (.returned (.tuple #[.agg #[.int .u8 r0,.int .u8 r1,.int .u8 r2,.int .u8 r3,.int .u8 r4,.int .u8 r5,.int .u8 r6,.int .u8 r7],.bool true]))) :=
     hide (.inl ⟨acc,by unfold rankS;rw [qa hf];simp [h8],by rw [<-hdone]⟩)
    clear hR hdone hf;go_wp2;refine bodyPost_ret (v:=.tuple #[.agg #[.int .u8 r0,.int .u8 r1,.int .u8 r2,.int .u8 r3,.int .u8 r4,.int .u8 r5,.int .u8 r6,.int .u8 r7],.bool true]) (by simp [results,Tryz.results134,go_sem]) rfl ⟨qa hend,?_⟩
    repeat (first|exact Gr.refl _|apply Gr.drew|apply Gr.drewN|apply Gr.alloc)
   ·obtain ⟨r0,r1,r2,r3,r4,r5,r6,r7,rfl⟩:=arr8 (qa hR)
    have hend:Hid (RankEnd s.data.toList (.returned (.tuple #[.agg #[.int .u8 r0,.int .u8 r1,.int .u8 r2,.int .u8 r3,.int .u8 r4,.int .u8 r5,.int .u8 r6,.int .u8 r7],.bool false]))) :=
     hide (.inr ⟨by unfold rankS;rw [qa hf];simp [h8],_,_,_,_,_,_,_,_,rfl⟩)
    have hne:((acc.length:Int)==8)=false:=by simp;omega
    clear hR hf h8;go_wp2;refine bodyPost_ret (v:=.tuple #[.agg #[.int .u8 r0,.int .u8 r1,.int .u8 r2,.int .u8 r3,.int .u8 r4,.int .u8 r5,.int .u8 r6,.int .u8 r7],.bool false]) (by simp [results,Tryz.results134,go_sem]) rfl ⟨qa hend,?_⟩
    repeat (first|exact Gr.refl _|apply Gr.drew|apply Gr.drewN|apply Gr.alloc)
end Go.Proofs.YtnfakamfmkhlbaaGreatDoor.C
