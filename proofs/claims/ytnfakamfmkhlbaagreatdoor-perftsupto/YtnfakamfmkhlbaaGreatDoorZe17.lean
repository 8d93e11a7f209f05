import Derived.Test.YtnfakamfmkhlbaaGreatDoorZe16
import Derived.Test.YtnfakamfmkhlbaaGreatDoorZe4
import Derived.Test.YtnfakamfmkhlbaaGreatDoorZe13
import Derived.Test.YtnfakamfmkhlbaaGreatDoorZe2
import Derived.Test.YtnfakamfmkhlbaaGreatDoorZe5
set_option maxRecDepth 100000
set_option maxHeartbeats 4000000
set_option linter.unusedSimpArgs false
namespace Go.Proofs.YtnfakamfmkhlbaaGreatDoor.C
open Go.ChangeShapes Go.WideShapes Go.ChangeAt Go.RowKit
attribute [local go_sem] qd qi
def ixs (c:UInt8):Int:=Lib.indexByte [32,49,50,51,52,53,54,55,56] c
theorem ixs_dig:∀ c:UInt8,digS c=true->ixs c=(c.toNat:Int)-48/\Lib.indexByte lettersL c=-1/\49<=c.toNat/\c.toNat<=56:=all256 (by decide +kernel)
theorem ixs_not:∀ c:UInt8,digS c=false->-1<=ixs c/\ixs c<=0:=all256 (by decide +kernel)
theorem ixs_let:∀ c:UInt8,digS c=false->0<=Lib.indexByte lettersL c->ixs c=-1:=all256 (by decide +kernel)
theorem ixk_bd:∀ c:UInt8,-1<=Lib.indexByte lettersL c/\Lib.indexByte lettersL c<12:=all256 (by decide +kernel)
theorem rankR_any (s:ByteArray) (hs:s.size<=maxLen) (w:World):Calls Tryz.prog 147 #[.string s] w fun e w'=>RankEnd s.data.toList e/\Gr w w':=by
 unfold maxLen at hs;go_enter Tryz.func147,Tryz.ntmps147;go_wp2;go_loopg [5,6,7] s.size (fun g fl af i wr=>∃ k:Nat,k+g=s.size/\i=.int .i64 k/\∃ (acc:List Int) (a:Bool),rkFold (s.data.toList.take k)=some (acc,a)/\fl=.int .i64 acc.length/\af=.bool a/\∃ (R:Array Value),wr=((w.alloc (Obj.cells #[.int .u8 0,.int .u8 0,.int .u8 0,.int .u8 0,.int .u8 0,.int .u8 0,.int .u8 0,.int .u8 0] 208)).alloc (Obj.cells R 208))/\PutR acc R/\acc.length<=8)
 case atStart=>exact ⟨0,by omega,rfl,[],false,rfl,rfl,rfl,_,rfl,PutR.nil,by simp⟩
 case round =>
  obtain ⟨k,k1,rfl,acc,a,hf0,rfl,rfl,R,rfl,hR0,hacc⟩:=hrel;have hf:=hide hf0;have hR:=hide hR0;clear hf0 hR0;by_cases hlt:k<s.size
  ·obtain ⟨xd,hxd⟩:∃ x,Hid (Lib.indexByte (ByteArray.mk #[32,49,50,51,52,53,54,55,56]).data.toList s[k]=x):=⟨_,hide rfl⟩;obtain ⟨xk,hxk⟩:∃ x,Hid (Lib.indexByte (ByteArray.mk #[80,78,66,82,81,75,112,110,98,114,113,107]).data.toList s[k]=x):=⟨_,hide rfl⟩;have hkb:-1<=xk/\xk<12:=by rw [<-qa hxk];exact ixk_bd s[k]
   have hlS:Hid (letS s[k]=!decide (xk<0)):=hide (by rw [<-qa hxk];rfl);cases hdS0:digS s[k] with
   | true =>
    have hdS:=hide hdS0;obtain ⟨d1,d2,d3,d4⟩:=ixs_dig s[k] hdS0;have e1:xd=(s[k].toNat:Int)-48:=(qa hxd).symm.trans d1;have e2:xk=-1:=(qa hxk).symm.trans d2;obtain ⟨dn,hdn⟩:∃ dn:Nat,s[k].toNat-48=dn:=⟨_,rfl⟩;have e3:xd=(dn:Int):=by omega
    have hdn8:1<=dn/\dn<=8:=by omega
    subst e3 e2;clear hdS0 d1 d2 d3 d4 e1 hkb hlS;cases a
    ·by_cases h8:8<acc.length+dn
     ·have hbad:Hid (rankS s.data.toList=none):=hide (ze s k hlt (by rw [qa hf];unfold rkStep;simp only [qa hdS,if_true,Bool.false_or,hdn,decide_eq_true h8]));obtain ⟨r0,r1,r2,r3,r4,r5,r6,r7,rfl⟩:=arr8 (qa hR);clear hR;go_wp2_with (go_at_call 118;refine (qx _ (by decide) _ _).mono ?_;rintro e w' ⟨rfl,rfl⟩;(first|rw [qa hxd]|rw [qa hxk]));refine bodyPost_ret (v:=.tuple #[.agg #[.int .u8 r0,.int .u8 r1,.int .u8 r2,.int .u8 r3,.int .u8 r4,.int .u8 r5,.int .u8 r6,.int .u8 r7],.bool false]) (by simp [results,Tryz.results147,go_sem]) rfl ⟨.inr ⟨qa hbad,_,_,_,_,_,_,_,_,rfl⟩,?_⟩
      repeat (first|exact Gr.refl _|apply Gr.drew|apply Gr.drewN|apply Gr.alloc)
     ·have hne8:((acc.length:Int)==8)=false:=by rw [beq_eq_false_iff_ne];omega
      have h8':=hide h8;go_wp2_with (go_at_call 118;refine (qx _ (by decide) _ _).mono ?_;rintro e w' ⟨rfl,rfl⟩;(first|rw [qa hxd]|rw [qa hxk]));go_loopg [5,8] dn (fun g fl dd wr=>∃ j:Nat,j+g=dn/\dd=.int .i64 ((dn:Int)-j)/\∃ acc':List Int,acc'=acc++List.replicate j 46/\fl=.int .i64 acc'.length/\∃ (R:Array Value),wr=((w.alloc (Obj.cells #[.int .u8 0,.int .u8 0,.int .u8 0,.int .u8 0,.int .u8 0,.int .u8 0,.int .u8 0,.int .u8 0] 208)).alloc (Obj.cells R 208))/\PutR acc' R)
      case atStart=>exact ⟨0,by omega,by simp,acc,by simp,rfl,R,rfl,qa hR⟩
      case round =>
       obtain ⟨j,j1,rfl,acc',hacc0,rfl,R',rfl,hR0'⟩:=hrel;have hacc':=hide hacc0;have hR':=hide hR0';have hlen:acc'.length=acc.length+j:=by rw [hacc0];simp
       clear hacc0 hR0';by_cases hj:j<dn
       ·have hl8:acc'.length<8:=by omega
        have hsz:=(qa hR').1;have hlR:acc'.length<R'.size:=by omega
        clear hlen
        have hcell:((w.alloc (Obj.cells #[.int .u8 0,.int .u8 0,.int .u8 0,.int .u8 0,.int .u8 0,.int .u8 0,.int .u8 0,.int .u8 0] 208)).alloc (Obj.cells R' 208)).cell? ⟨w.heap.size+1,acc'.length,none⟩=some (R'[acc'.length]'hlR):=by
         rw [cell_of_row _ _ _ _ _ _ (heap_alloc2_new _ _ _)];exact Array.getElem?_eq_getElem _
        have hw1:IntKind.i64.wrap ((dn:Int)-(j:Int)-1)=(dn:Int)-((j+1:Nat):Int):=by rw [IntKind.wrap_i64];omega
        have hdj:(0:Int)<(dn:Int)-(j:Int):=by omega
        go_wp2;go_roundg (gk-1)
        case measure=>omega
        case rel =>
         refine ⟨j+1,by omega,rfl,acc'++[46],?_,by simp,_,rfl,(qa hR').snoc hl8 _⟩;rw [qa hacc',List.append_assoc,<-List.replicate_succ']
       ·have ej:j=dn:=by omega
        clear hlen;subst ej;go_wp2;go_roundg (s.size-k-1)
        case measure=>omega
        case rel =>
         have ea:=qa hacc';refine ⟨k+1,by omega,by go_num,acc',true,?_,rfl,rfl,R',rfl,qa hR',by rw [ea];simp;omega⟩;rw [xj s k hlt,rkFold_snoc,qa hf,ea];unfold rkStep;simp only [qa hdS,if_true,Bool.false_or,hdn,decide_eq_false (qa h8'),Bool.false_eq_true,if_false]
    ·have hbad:Hid (rankS s.data.toList=none):=hide (ze s k hlt (by rw [qa hf];unfold rkStep;simp only [qa hdS,if_true,Bool.true_or]));obtain ⟨r0,r1,r2,r3,r4,r5,r6,r7,rfl⟩:=arr8 (qa hR);clear hR;go_wp2_with (go_at_call 118;refine (qx _ (by decide) _ _).mono ?_;rintro e w' ⟨rfl,rfl⟩;(first|rw [qa hxd]|rw [qa hxk]));refine bodyPost_ret (v:=.tuple #[.agg #[.int .u8 r0,.int .u8 r1,.int .u8 r2,.int .u8 r3,.int .u8 r4,.int .u8 r5,.int .u8 r6,.int .u8 r7],.bool false]) (by simp [results,Tryz.results147,go_sem]) rfl ⟨.inr ⟨qa hbad,_,_,_,_,_,_,_,_,rfl⟩,?_⟩
     repeat (first|exact Gr.refl _|apply Gr.drew|apply Gr.drewN|apply Gr.alloc)
   | false =>
    have hdS:=hide hdS0;obtain ⟨d1,d2⟩:=ixs_not s[k] hdS0;have e1:-1<=xd:=by rw [<-qa hxd];exact d1
    have e2:xd<=0:=by rw [<-qa hxd];exact d2
    have e3:0<=xk->xd=-1:=fun h=>by rw [<-qa hxd];exact ixs_let s[k] hdS0 (by rw [<-qa hxk] at h;exact h)
    clear d1 d2 hdS0;by_cases hneg:xk<0
    ·have hbad:Hid (rankS s.data.toList=none):=hide (ze s k hlt (by rw [qa hf];unfold rkStep;simp only [qa hdS,qa hlS,decide_eq_true hneg];rfl));obtain ⟨r0,r1,r2,r3,r4,r5,r6,r7,rfl⟩:=arr8 (qa hR);clear hR;go_wp2_with (go_at_call 118;refine (qx _ (by decide) _ _).mono ?_;rintro e w' ⟨rfl,rfl⟩;(first|rw [qa hxd]|rw [qa hxk]));refine bodyPost_ret (v:=.tuple #[.agg #[.int .u8 r0,.int .u8 r1,.int .u8 r2,.int .u8 r3,.int .u8 r4,.int .u8 r5,.int .u8 r6,.int .u8 r7],.bool false]) (by simp [results,Tryz.results147,go_sem]) rfl ⟨.inr ⟨qa hbad,_,_,_,_,_,_,_,_,rfl⟩,?_⟩
     repeat (first|exact Gr.refl _|apply Gr.drew|apply Gr.drewN|apply Gr.alloc)
    ·have e4:=e3 (by omega);subst e4;clear e1 e2 e3;by_cases h8:8<acc.length+1
     ·have hbad:Hid (rankS s.data.toList=none):=hide (ze s k hlt (by rw [qa hf];unfold rkStep;simp only [qa hdS,qa hlS,decide_eq_false hneg,Bool.not_false,Bool.false_eq_true,if_false,if_true,h8]));have hl8:acc.length=8:=by omega
      have hl8i:(acc.length:Int)=8:=by omega
      clear h8;obtain ⟨r0,r1,r2,r3,r4,r5,r6,r7,rfl⟩:=arr8 (qa hR);clear hR;go_wp2_with (go_at_call 118;refine (qx _ (by decide) _ _).mono ?_;rintro e w' ⟨rfl,rfl⟩;(first|rw [qa hxd]|rw [qa hxk]));refine bodyPost_ret (v:=.tuple #[.agg #[.int .u8 r0,.int .u8 r1,.int .u8 r2,.int .u8 r3,.int .u8 r4,.int .u8 r5,.int .u8 r6,.int .u8 r7],.bool false]) (by simp [results,Tryz.results147,go_sem]) rfl ⟨.inr ⟨qa hbad,_,_,_,_,_,_,_,_,rfl⟩,?_⟩
      repeat (first|exact Gr.refl _|apply Gr.drew|apply Gr.drewN|apply Gr.alloc)
     ·have hl8:acc.length<8:=by omega
      have hne8:((acc.length:Int)==8)=false:=by rw [beq_eq_false_iff_ne];omega
      have hlT:Hid (letS s[k]=true):=hide (by rw [qa hlS,decide_eq_false hneg];rfl);have h8':=hide h8;have hsz:=(qa hR).1;have hlR:acc.length<R.size:=by omega
      have hcell:((w.alloc (Obj.cells #[.int .u8 0,.int .u8 0,.int .u8 0,.int .u8 0,.int .u8 0,.int .u8 0,.int .u8 0,.int .u8 0] 208)).alloc (Obj.cells R 208)).cell? ⟨w.heap.size+1,acc.length,none⟩=some (R[acc.length]'hlR):=by
       rw [cell_of_row _ _ _ _ _ _ (heap_alloc2_new _ _ _)];exact Array.getElem?_eq_getElem _
      go_wp2_with (go_at_call 118;refine (qx _ (by decide) _ _).mono ?_;rintro e w' ⟨rfl,rfl⟩;(first|rw [qa hxd]|rw [qa hxk]));go_loopg [5,8] 0 (fun g fl dd wr=>g=0/\dd=.int .i64 (-1)/\fl=.int .i64 ((acc.length:Int)+1)/\wr=((w.alloc (Obj.cells #[.int .u8 0,.int .u8 0,.int .u8 0,.int .u8 0,.int .u8 0,.int .u8 0,.int .u8 0,.int .u8 0] 208)).alloc (Obj.cells (R.setIfInBounds acc.length (.int .u8 (s[k].toNat:Int))) 208)))
      case atStart=>exact ⟨rfl,rfl,rfl,rfl⟩
      case round =>
       obtain ⟨rfl,rfl,rfl,rfl⟩:=hrel;go_wp2;go_roundg (s.size-k-1)
       case measure=>omega
       case rel =>
        refine ⟨k+1,by omega,by go_num,acc++[(s[k].toNat:Int)],false,?_,by simp,rfl,_,rfl,(qa hR).snoc hl8 _,by simp;omega⟩;rw [xj s k hlt,rkFold_snoc,qa hf];unfold rkStep;simp only [qa hdS,qa hlT,Bool.false_eq_true,if_false,if_true,if_neg (qa h8')]
  ·have ek:k=s.size:=by omega
   subst ek;have hfull:s.data.toList.take s.size=s.data.toList:=List.take_of_length_le (by simp);rw [hfull] at hf;clear hfull;by_cases h8:acc.length=8
   ·have hdone:=(qa hR).done h8;obtain ⟨r0,r1,r2,r3,r4,r5,r6,r7,rfl⟩:=arr8 (qa hR)
    have hend:Hid (RankEnd s.data.toList (.returned (.tuple #[.agg #[.int .u8 r0,.int .u8 r1,.int .u8 r2,.int .u8 r3,.int .u8 r4,.int .u8 r5,.int .u8 r6,.int .u8 r7],.bool true]))) :=
     hide (.inl ⟨acc,by unfold rankS;rw [qa hf];simp [h8],by rw [<-hdone]⟩)
    clear hR hdone hf;go_wp2;refine bodyPost_ret (v:=.tuple #[.agg #[.int .u8 r0,.int .u8 r1,.int .u8 r2,.int .u8 r3,.int .u8 r4,.int .u8 r5,.int .u8 r6,.int .u8 r7],.bool true]) (by simp [results,Tryz.results147,go_sem]) rfl ⟨qa hend,?_⟩
    repeat (first|exact Gr.refl _|apply Gr.drew|apply Gr.drewN|apply Gr.alloc)
   ·obtain ⟨r0,r1,r2,r3,r4,r5,r6,r7,rfl⟩:=arr8 (qa hR)
    have hend:Hid (RankEnd s.data.toList (.returned (.tuple #[.agg #[.int .u8 r0,.int .u8 r1,.int .u8 r2,.int .u8 r3,.int .u8 r4,.int .u8 r5,.int .u8 r6,.int .u8 r7],.bool false]))) :=
     hide (.inr ⟨by unfold rankS;rw [qa hf];simp [h8],_,_,_,_,_,_,_,_,rfl⟩)
    have hne:((acc.length:Int)==8)=false:=by simp;omega
    clear hR hf h8;go_wp2;refine bodyPost_ret (v:=.tuple #[.agg #[.int .u8 r0,.int .u8 r1,.int .u8 r2,.int .u8 r3,.int .u8 r4,.int .u8 r5,.int .u8 r6,.int .u8 r7],.bool false]) (by simp [results,Tryz.results147,go_sem]) rfl ⟨qa hend,?_⟩
    repeat (first|exact Gr.refl _|apply Gr.drew|apply Gr.drewN|apply Gr.alloc)
theorem infoS:(Tryz.prog.info? 9).map (fun i=>(i.zero,i.size,i.bytes))=some (some (.string ⟨#[]⟩),1,16):=by kernel_rfl
def Strs (base:Nat) (v:Value) (xs:List ByteArray) (w:World):Prop:=w.ownsRow base 9 1 v xs.length (xs.map Value.string)
theorem qxp {base:Nat} {v:Value} {l:List ByteArray} {w:World} (h:Strs base v l w):∀ k,v.ownBlock=some k->base<=k:=by
 intro k hk;rcases h.2 with ⟨rfl,_⟩|⟨g,cap,cur,rfl,hg,_⟩
 ·simp [Value.ownBlock] at hk
 ·simp [Value.ownBlock] at hk;omega
def jc (c:UInt8) (out:List ByteArray):List UInt8:=(out.map fun x=>x.data.toList++[c]).flatten
theorem jc_snoc (c:UInt8) (out:List ByteArray) (x:ByteArray):jc c (out++[x])=jc c out++(x.data.toList++[c]):=by
 unfold jc;simp
theorem join_snoc (c:UInt8):∀ (out:List ByteArray) (x:ByteArray),Lib.join ((out++[x]).map (·.data.toList)) [c]=jc c out++x.data.toList
 | [],x=>by simp [jc,Lib.join_one]
 | [y],x=>by simp [jc,join_cons2,Lib.join_one]
 | y :: z :: r,x=>by
   have ih:=join_snoc c (z :: r) x;simp only [List.cons_append,List.map_cons] at ih ⊢;rw [join_cons2,ih];simp [jc]
theorem qv5 (s:ByteArray) (f i:Nat):(s.extract f i).data.toList=(s.data.toList.take i).drop f:=by
 rw [ByteArray.data_extract,Array.toList_extract,List.extract_eq_take_drop,List.drop_take]
theorem take_cut {l:List UInt8} {f i:Nat} (h:f<=i):l.take f++(l.take i).drop f=l.take i:=by
 conv=>rhs;rw [<-List.take_append_drop f (l.take i)]
 rw [List.take_take,Nat.min_eq_left h]
def Cut (s:ByteArray) (c:UInt8) (i f:Nat) (out:List ByteArray):Prop :=
 (∀ x∈out,c∉x.data.toList)/\out.length<=i/\((i<=s.size/\f<=i/\jc c out=s.data.toList.take f/\∀ j,f<=j->j<i->s.data.toList[j]?≠some c)\/(i=s.size+1/\out≠[]/\Lib.join (out.map (·.data.toList)) [c]=s.data.toList))
theorem cut_free {s:ByteArray} {c:UInt8} {i f:Nat} (h:∀ j,f<=j->j<i->s.data.toList[j]?≠some c):c∉(s.extract f i).data.toList:=by
 rw [qv5 s f i];intro hm;obtain ⟨j,hj⟩:=List.mem_iff_getElem?.1 hm;rw [List.getElem?_drop,List.getElem?_take] at hj;split at hj
 ·exact h (f+j) (by omega) (by assumption) hj
 ·cases hj
theorem Cut.skip {s:ByteArray} {c:UInt8} {i f:Nat} {out:List ByteArray} (h:Cut s c i f out) (hi:i<s.size) (hc:s[i]≠c):Cut s c (i+1) f out:=by
 obtain ⟨h1,h2,⟨a1,a2,a3,a4⟩|⟨a1,_⟩⟩:=h
 ·refine ⟨h1,by omega,.inl ⟨by omega,by omega,a3,fun j hj1 hj2=>?_⟩⟩;by_cases e:j=i
  ·subst e;rw [byte_at s j hi];intro hh;exact hc (Option.some.inj hh)
  ·exact a4 j hj1 (by omega)
 ·omega
theorem Cut.cut {s:ByteArray} {c:UInt8} {i f:Nat} {out:List ByteArray} (h:Cut s c i f out) (hi:i<s.size) (hc:s[i]=c):Cut s c (i+1) (i+1) (out++[s.extract f i]):=by
 obtain ⟨h1,h2,⟨a1,a2,a3,a4⟩|⟨a1,_⟩⟩:=h
 ·refine ⟨fun x hx=>?_,by simp;omega,.inl ⟨by omega,Nat.le_refl _,?_,fun j hj1 hj2=>by omega⟩⟩
  ·rcases List.mem_append.1 hx with hx|hx
   ·exact h1 x hx
   ·rw [List.mem_singleton.1 hx];exact cut_free a4
  ·rw [jc_snoc,a3,qv5 s f i,<-List.append_assoc,take_cut a2,xj s i hi,hc]
 ·omega
theorem Cut.last {s:ByteArray} {c:UInt8} {f:Nat} {out:List ByteArray} (h:Cut s c s.size f out):Cut s c (s.size+1) (s.size+1) (out++[s.extract f s.size]):=by
 obtain ⟨h1,h2,⟨a1,a2,a3,a4⟩|⟨a1,_⟩⟩:=h
 ·refine ⟨fun x hx=>?_,by simp;omega,.inr ⟨rfl,by simp,?_⟩⟩
  ·rcases List.mem_append.1 hx with hx|hx
   ·exact h1 x hx
   ·rw [List.mem_singleton.1 hx];exact cut_free a4
  ·rw [join_snoc,a3,qv5 s f s.size,take_cut a2];exact List.take_of_length_le (by simp)
 ·omega
theorem Cut.from_le {s:ByteArray} {c:UInt8} {i f:Nat} {out:List ByteArray} (h:Cut s c i f out) (hi:i<=s.size):f<=i:=by
 obtain ⟨_,_,⟨_,a2,_⟩|⟨a1,_⟩⟩:=h
 ·exact a2
 ·omega
theorem qzv (s:ByteArray) (hs:s.size<4294967281) (c:UInt8) (w:World):Calls Tryz.prog 146 #[.string s,.int .u8 (c.toNat:Int)] w fun e w'=>∃ v xs,e=.returned v/\Strs w.heap.size v xs w'/\(∀ x∈xs,c∉x.data.toList)/\xs≠[]/\Lib.join (xs.map (·.data.toList)) [c]=s.data.toList/\Gr w w':=by
 obtain ⟨i0,hi,hz0,hz1,hz2⟩:=info_parts infoS;have hi':=hide hi;clear hi;go_enter Tryz.func146,Tryz.ntmps146;go_wp2;go_loopg [5,6,7] (s.size+1) (fun g v ff ii wr=>∃ k f:Nat,k+g=s.size+1/\ii=.int .i64 k/\ff=.int .i64 f/\∃ out:List ByteArray,Cut s c k f out/\Strs w.heap.size v out wr/\Gr w wr)
 case atStart=>exact ⟨0,0,by omega,rfl,rfl,[],⟨fun x hx=>(by cases hx),Nat.le_refl _,.inl ⟨Nat.zero_le _,Nat.le_refl _,by simp [jc],fun j h1 h2=>absurd h2 (Nat.not_lt_zero j)⟩⟩,⟨rfl,.inl ⟨rfl,rfl⟩⟩,Gr.refl _⟩
 case round =>
  obtain ⟨k,f,k1,rfl,rfl,out,hcut,hst,hgr⟩:=hrel;have hlen:=hcut.2.1;have hwz:w.heap.size<=wr.heap.size:=Below.size hgr;have hcut':=hide hcut;have hst':=hide hst;have hgr':=hide hgr;clear hst hgr;by_cases hle:k<=s.size
  ·have hfk:=hcut.from_le hle;clear hcut;by_cases hlt:k<s.size
   ·by_cases hc:s[k]=c
    ·have hcut2:=hide ((qa hcut').cut hlt hc);subst hc;have hne:((k:Int)==(s.size:Int))=false:=by rw [beq_eq_false_iff_ne];omega
     go_wp2_with (at_builtin;refine wpList_append_own _ rfl (.tmp 25) (.tmp 30) 37 rfl w.heap.size 9 i0 (.string ⟨#[]⟩) 1 16 Tryz.underlying37 (qa hi') hz0 hz1 hz2 rfl (by decide) u5 out.length (out.map Value.string) rfl ((qa hst').alloc _) ⟨wr.heap.size,0,none⟩ 1 1 [.string (s.extract f k)] rfl rfl (cell_one_new _ _ _) (by simp [Value.oneCell']) (by unfold maxLen;omega) (by omega) (by simp;omega) ?_;intro v' w2 hown' hgrow hnil);go_roundg (gk-1)
     case measure=>omega
     case rel =>
      refine ⟨k+1,k+1,by omega,by go_num,by go_num,out++[s.extract f k],qa hcut2,?_,?_⟩
      ·unfold Strs;rw [List.map_append,List.length_append];exact hown'
      ·exact ((qa hgr').alloc _ _).grown hgrow (by simp;omega) (qxp (qa hst'))
    ·have hcut2:=hide ((qa hcut').skip hlt hc);have hne:((k:Int)==(s.size:Int))=false:=by rw [beq_eq_false_iff_ne];omega
     have hne2:((s[k].toNat:Int)==(c.toNat:Int))=false:=by
      rw [beq_eq_false_iff_ne];intro h;exact hc (UInt8.toNat_inj.1 (by omega))
     clear hc;go_wp2;go_roundg (gk-1)
     case measure=>omega
     case rel=>exact ⟨k+1,f,by omega,by go_num,rfl,out,qa hcut2,qa hst',qa hgr'⟩
   ·have ek:k=s.size:=by omega
    subst ek;have hcut2:=hide ((qa hcut').last);go_wp2_with (at_builtin;refine wpList_append_own _ rfl (.tmp 25) (.tmp 30) 37 rfl w.heap.size 9 i0 (.string ⟨#[]⟩) 1 16 Tryz.underlying37 (qa hi') hz0 hz1 hz2 rfl (by decide) u5 out.length (out.map Value.string) rfl ((qa hst').alloc _) ⟨wr.heap.size,0,none⟩ 1 1 [.string (s.extract f s.size)] rfl rfl (cell_one_new _ _ _) (by simp [Value.oneCell']) (by unfold maxLen;omega) (by omega) (by simp;omega) ?_;intro v' w2 hown' hgrow hnil);go_roundg (gk-1)
    case measure=>omega
    case rel =>
     refine ⟨s.size+1,s.size+1,by omega,by go_num,by go_num,out++[s.extract f s.size],qa hcut2,?_,?_⟩
     ·unfold Strs;rw [List.map_append,List.length_append];exact hown'
     ·exact ((qa hgr').alloc _ _).grown hgrow (by simp;omega) (qxp (qa hst'))
  ·obtain ⟨b1,b2,⟨b3,_⟩|⟨b3,b4,b5⟩⟩:=hcut
   ·exact absurd b3 hle
   ·subst b3;have hb1:=hide b1;have hb4:=hide b4;have hb5:=hide b5;clear b1 b4 b5;go_wp2;go_ret;exact ⟨u5,out,rfl,qa hst',qa hb1,qa hb4,qa hb5,qa hgr'⟩
end Go.Proofs.YtnfakamfmkhlbaaGreatDoor.C
namespace Go.Proofs.YtnfakamfmkhlbaaGreatDoor.C
theorem qzl (c:UInt8):∀ (k:Nat) (x:List UInt8) (r:List (List UInt8)),(∀ y∈x :: r,c∉y)->k<r.length->(Lib.splitK [c] 0 k (Lib.join (x :: r) [c])).length=k+1
 | 0,_,_,_,_=>rfl
 | k+1,x,[],_,hk=>by simp at hk
 | k+1,x,y :: r,h,hk=>by
   rw [join_cons2,List.append_assoc];show (Lib.splitK [c] 0 (k+1) (x++c :: Lib.join (y :: r) [c])).length=_;rw [qjj c k x _ (h x (by simp)),List.length_cons,qzl c k y r (fun z hz=>h z (by simp at hz ⊢;right;exact hz)) (by simp at hk;omega)]
theorem data_inj:∀ {xs ys:List ByteArray},xs.map (·.data.toList)=ys.map (·.data.toList)->xs=ys
 | [],[],_=>rfl
 | [],y :: ys,h=>by simp at h
 | x :: xs,[],h=>by simp at h
 | x :: xs,y :: ys,h=>by
   simp only [List.map_cons,List.cons.injEq] at h
   have e:x=y:=by
    cases x;cases y;simpa using h.1
   rw [e,data_inj h.2]
theorem pieces_words (c:UInt8) (n:Nat) (hn:1<=n) (s:ByteArray) (xs:List ByteArray) (h1:∀ x∈xs,c∉x.data.toList) (h2:xs≠[]) (h3:Lib.join (xs.map (·.data.toList)) [c]=s.data.toList) :
  (xs.length<=n->wordsS c n s=xs)/\(n<xs.length->(wordsS c n s).length=n):=by
 obtain ⟨x,r,rfl⟩:=List.exists_cons_of_ne_nil h2
 have hno:∀ y∈x.data.toList :: r.map (·.data.toList),c∉y:=fun y hy=>by
  rcases List.mem_cons.1 hy with rfl|hy
  ·exact h1 x (by simp)
  ·obtain ⟨z,hz,rfl⟩:=List.mem_map.1 hy;exact h1 z (by simp [hz])
 rw [List.map_cons] at h3;constructor
 ·intro hl;apply data_inj;rw [qvi c n x.data.toList (r.map (·.data.toList)) hno (by simpa using hl) s h3.symm,List.map_cons]
 ·intro hl;have hsz:=qjz [c] x.data.toList (r.map (·.data.toList));rw [h3] at hsz;simp only [List.length_map,List.length_cons,List.length_nil,Nat.zero_add,Nat.mul_one,Array.length_toList,ByteArray.size_data] at hsz hl;have e1:min n (s.size+1)-1=n-1:=by omega
  have:=congrArg List.length (qxo c n s);rw [List.length_map,e1,<-h3,qzl c (n-1) _ _ hno (by simp;omega)] at this;omega
theorem qzu (c:UInt8) (n:Nat) (hn:1<=n) (s:ByteArray) (xs:List ByteArray) (h1:∀ x∈xs,c∉x.data.toList) (h2:xs≠[]) (h3:Lib.join (xs.map (·.data.toList)) [c]=s.data.toList) (m:Nat) (hm:m<n) :
  (xs.length=m->wordsS c n s=xs)/\(xs.length≠m->(wordsS c n s).length≠m):=by
 obtain ⟨a,b⟩:=pieces_words c n hn s xs h1 h2 h3;refine ⟨fun h=>a (by omega),fun h=>?_⟩;by_cases hl:xs.length<=n
 ·rw [a hl];exact h
 ·rw [b (by omega)];omega
def ixq (c:UInt8):Int:=Lib.indexByte [75,81,107,113] c
def rises:List UInt8->Int->Bool
 | [],_=>true
 | c :: r,last=>decide (last<ixq c)&&rises r (ixq c)
theorem ixq_bd:∀ c:UInt8,-1<=ixq c/\ixq c<=3:=all256 (by decide +kernel)
theorem qqa:∀ c:UInt8,∀ i:Nat,i<4->(ixq c=(i:Int)↔c=clc i):=by
 have:∀ i:Fin 4,∀ c:UInt8,(ixq c=((i.val:Nat):Int)↔c=clc i.val):=fun i=>all256 (by revert i;decide +kernel)
 intro c i hi;exact this ⟨i,hi⟩ c
theorem trim_hit (c:UInt8) (r:List UInt8):Lib.trimPrefix (c :: r) [c]=r:=by simp [Lib.trimPrefix,Lib.hasPrefix]
theorem qjg {c:UInt8} {l:List UInt8} (h:l.head?≠some c):Lib.trimPrefix l [c]=l:=by
 cases l with
 | nil=>simp [Lib.trimPrefix,Lib.hasPrefix]
 | cons b r =>
  have:b≠c:=fun e=>h (by rw [e];rfl)
  simp [Lib.trimPrefix,Lib.hasPrefix,Ne.symm this]
theorem has_head (c:UInt8) (l:List UInt8):Lib.hasPrefix l [c]=decide (l.head?=some c):=by
 cases l with
 | nil=>simp [Lib.hasPrefix]
 | cons b r =>
  by_cases h:b=c
  ·simp [Lib.hasPrefix,h]
  ·have h':¬ c=b:=fun e=>h e.symm
   simp [Lib.hasPrefix,List.isPrefixOf,h,h']
theorem rises_step {m:List UInt8} {i:Nat} (hi:i<4):rises m ((i:Int)-1)=rises (Lib.trimPrefix m [clc i]) (i:Int):=by
 cases m with
 | nil=>rw [qjg (by simp)];rfl
 | cons b r =>
  by_cases h:b=clc i
  ·subst h;rw [trim_hit];have e:=(qqa (clc i) i hi).2 rfl;show (decide ((i:Int)-1<ixq (clc i))&&rises r (ixq (clc i)))=_;rw [e,decide_eq_true (by omega)];rfl
  ·rw [qjg (by simpa using h)];have hb:ixq b≠(i:Int):=fun e=>h ((qqa b i hi).1 e)
   show (decide ((i:Int)-1<ixq b)&&rises r (ixq b))=(decide ((i:Int)<ixq b)&&rises r (ixq b));congr 1;apply decide_eq_decide.2;omega
theorem rises_mem {m:List UInt8}:∀ {last:Int},rises m last=true->∀ c∈m,last<ixq c:=by
 induction m with
 | nil=>intro last _ c hc;cases hc
 | cons b r ih =>
  intro last h c hc
  have h':decide (last<ixq b)=true/\rises r (ixq b)=true:=by
   have:(decide (last<ixq b)&&rises r (ixq b))=true:=h;simpa using this
  have hb:=of_decide_eq_true h'.1;rcases List.mem_cons.1 hc with rfl|hc
  ·exact hb
  ·have:=ih h'.2 c hc;omega
theorem qxr (l:List UInt8):∀ i,i<=4->rises (restS l i) ((i:Int)-1)=rises l (-1)
 | 0,_=>rfl
 | i+1,hi=>by
   rw [<-qxr l i (by omega),rises_step (m:=restS l i) (i:=i) (by omega)];show rises (Lib.trimPrefix (restS l i) [clc i]) (((i+1:Nat):Int)-1)=_;congr 1;omega
theorem rises_3 (m:List UInt8):rises m 3=m.isEmpty:=by
 cases m with
 | nil=>rfl
 | cons b r =>
  have:=ixq_bd b;show (decide ((3:Int)<ixq b)&&rises r (ixq b))=false;rw [decide_eq_false (by omega)];rfl
theorem rest_empty (l:List UInt8):(restS l 4).isEmpty=rises l (-1):=by
 rw [<-qxr l 4 (by omega),<-rises_3];rfl
theorem rest_mem (l:List UInt8) (k:Nat) (hk:k<4):∀ i,i<=k->(clc k∈restS l i↔clc k∈l)
 | 0,_=>Iff.rfl
 | i+1,hi=>by
   rw [<-rest_mem l k hk i (by omega)];show clc k∈Lib.trimPrefix (restS l i) [clc i]↔_;by_cases h:(restS l i).head?=some (clc i)
   ·obtain ⟨r,hr⟩:∃ r,restS l i=clc i :: r:=by
     cases e:restS l i with
     | nil=>rw [e] at h;simp at h
     | cons b r=>rw [e] at h;simp at h;exact ⟨r,by rw [h]⟩
    rw [hr,trim_hit]
    have hne:clc k≠clc i:=fun e=>by
     have h1:=(qqa (clc k) k hk).2 rfl;have h2:=(qqa (clc k) i (by omega)).2 e;omega
    simp [hne]
   ·rw [qjg h]
theorem left_mem (l:List UInt8) (h:rises l (-1)=true) (i:Nat) (hi:i<4):leftS l i=decide (clc i∈l):=by
 unfold leftS;rw [has_head];apply decide_eq_decide.2;rw [<-rest_mem l i hi i (Nat.le_refl _)];have hr:=qxr l i (by omega);rw [h] at hr;constructor
 ·intro hh;cases e:restS l i with
  | nil=>rw [e] at hh;simp at hh
  | cons b r=>rw [e] at hh;simp at hh;rw [hh];simp
 ·intro hm;cases e:restS l i with
  | nil=>rw [e] at hm;cases hm
  | cons b r =>
   rw [e] at hm hr;by_cases hb:b=clc i
   ·rw [hb];rfl
   ·rcases List.mem_cons.1 hm with h1|h1
    ·exact absurd h1.symm hb
    ·have h2:decide ((i:Int)-1<ixq b)=true/\rises r (ixq b)=true:=by
      have:(decide ((i:Int)-1<ixq b)&&rises r (ixq b))=true:=hr;simpa using this
     have h3:=of_decide_eq_true h2.1;have h4:=rises_mem h2.2 _ h1;rw [(qqa (clc i) i hi).2 rfl] at h4;omega
end Go.Proofs.YtnfakamfmkhlbaaGreatDoor.C
namespace Go.Proofs.YtnfakamfmkhlbaaGreatDoor.C
open Go.ChangeShapes Go.WideShapes Go.ChangeAt Go.RowKit
open Go.Proofs.YtnfakamfmkhlbaaGreatDoor.P
noncomputable def PA0:Array Value:=put 69 #[.int .i64 (-1)] Tryz.zeroCells25
theorem built_0:Tryz.prog.built 25 [(3,.int .i64 (-1))]=some PA0:=by
 rw [builtP,xh _ _ 3 69 1 _ _ rfl rfl (by rw [zeroP];decide)];rfl
theorem zero_sq:Tryz.zeroCells25.toList.take 64=List.replicate 64 (.int .u8 0):=by kernel_rfl
theorem zero_c0:Tryz.zeroCells25[65]?=some (.bool false):=by kernel_rfl
theorem zero_c1:Tryz.zeroCells25[66]?=some (.bool false):=by kernel_rfl
theorem zero_c2:Tryz.zeroCells25[67]?=some (.bool false):=by kernel_rfl
theorem zero_c3:Tryz.zeroCells25[68]?=some (.bool false):=by kernel_rfl
theorem row_zero:Row (fun _=>0) false (fun _=>false) 0 0 0 Tryz.zeroCells25:=by
 refine ⟨zeroP,fun i hi=>?_,by kernel_rfl,fun i hi=>?_,by kernel_rfl,by kernel_rfl,by kernel_rfl⟩
 ·have h:=congrArg (fun l=>l[i]?) zero_sq;simp only [List.getElem?_take,if_pos hi,List.getElem?_replicate,Array.getElem?_toList] at h;rw [h];rfl
 ·have:i=0\/i=1\/i=2\/i=3:=by omega
  rcases this with rfl|rfl|rfl|rfl
  ·exact zero_c0
  ·exact zero_c1
  ·exact zero_c2
  ·exact zero_c3
section
variable {z:Nat->UInt8} {wh:Bool} {f:Nat->Bool} {b h g:Int} {PA:Array Value}
theorem qv {PA:Array Value} {i j:Nat} {v:Value} (h:i≠j):(PA.setIfInBounds i v)[j]?=PA[j]?:=by
 rw [Array.getElem?_setIfInBounds,if_neg h]
theorem qzp {PA:Array Value} {i:Nat} {v:Value} (h:i<PA.size):(PA.setIfInBounds i v)[i]?=some v:=by
 rw [Array.getElem?_setIfInBounds,if_pos rfl,if_pos h]
theorem Row.setSq (r:Row z wh f b h g PA) (i:Nat) (hi:i<64) (c:UInt8):Row (fun j=>if j=i then c else z j) wh f b h g (PA.setIfInBounds i (.int .u8 (c.toNat:Int))):=by
 refine ⟨by rw [Array.size_setIfInBounds];exact r.size,fun j hj=>?_,?_,fun j hj=>?_,?_,?_,?_⟩
 ·by_cases e:j=i
  ·subst e;rw [qzp (by rw [r.size];omega),if_pos rfl]
  ·rw [qv (fun h=>e h.symm),if_neg e];exact r.sq j hj
 ·rw [qv (by omega)];exact r.wh
 ·rw [qv (by omega)];exact r.c j hj
 ·rw [qv (by omega)];exact r.b
 ·rw [qv (by omega)];exact r.h
 ·rw [qv (by omega)];exact r.g
theorem Row.setWh (r:Row z wh f b h g PA) (x:Bool):Row z x f b h g (PA.setIfInBounds 64 (.bool x)):=by
 refine ⟨by rw [Array.size_setIfInBounds];exact r.size,fun j hj=>?_,qzp (by rw [r.size];omega),fun j hj=>?_,?_,?_,?_⟩
 ·rw [qv (by omega)];exact r.sq j hj
 ·rw [qv (by omega)];exact r.c j hj
 ·rw [qv (by omega)];exact r.b
 ·rw [qv (by omega)];exact r.h
 ·rw [qv (by omega)];exact r.g
theorem Row.setC (r:Row z wh f b h g PA) (i:Nat) (hi:i<4) (x:Bool):Row z wh (fun j=>if j=i then x else f j) b h g (PA.setIfInBounds (65+i) (.bool x)):=by
 refine ⟨by rw [Array.size_setIfInBounds];exact r.size,fun j hj=>?_,?_,fun j hj=>?_,?_,?_,?_⟩
 ·rw [qv (by omega)];exact r.sq j hj
 ·rw [qv (by omega)];exact r.wh
 ·by_cases e:j=i
  ·subst e;rw [qzp (by rw [r.size];omega),if_pos rfl]
  ·rw [qv (by omega),if_neg e];exact r.c j hj
 ·rw [qv (by omega)];exact r.b
 ·rw [qv (by omega)];exact r.h
 ·rw [qv (by omega)];exact r.g
theorem Row.setB (r:Row z wh f b h g PA) (x:Int):Row z wh f x h g (PA.setIfInBounds 69 (.int .i64 x)):=by
 refine ⟨by rw [Array.size_setIfInBounds];exact r.size,fun j hj=>?_,?_,fun j hj=>?_,qzp (by rw [r.size];omega),?_,?_⟩
 ·rw [qv (by omega)];exact r.sq j hj
 ·rw [qv (by omega)];exact r.wh
 ·rw [qv (by omega)];exact r.c j hj
 ·rw [qv (by omega)];exact r.h
 ·rw [qv (by omega)];exact r.g
theorem Row.setH (r:Row z wh f b h g PA) (x:Int):Row z wh f b x g (PA.setIfInBounds 70 (.int .i64 x)):=by
 refine ⟨by rw [Array.size_setIfInBounds];exact r.size,fun j hj=>?_,?_,fun j hj=>?_,?_,qzp (by rw [r.size];omega),?_⟩
 ·rw [qv (by omega)];exact r.sq j hj
 ·rw [qv (by omega)];exact r.wh
 ·rw [qv (by omega)];exact r.c j hj
 ·rw [qv (by omega)];exact r.b
 ·rw [qv (by omega)];exact r.g
theorem Row.setG (r:Row z wh f b h g PA) (x:Int):Row z wh f b h x (PA.setIfInBounds 71 (.int .i64 x)):=by
 refine ⟨by rw [Array.size_setIfInBounds];exact r.size,fun j hj=>?_,?_,fun j hj=>?_,?_,?_,qzp (by rw [r.size];omega)⟩
 ·rw [qv (by omega)];exact r.sq j hj
 ·rw [qv (by omega)];exact r.wh
 ·rw [qv (by omega)];exact r.c j hj
 ·rw [qv (by omega)];exact r.b
 ·rw [qv (by omega)];exact r.h
end
theorem row_0:Row (fun _=>0) false (fun _=>false) (-1) 0 0 PA0:=by
 have e:PA0=Tryz.zeroCells25.setIfInBounds 69 (.int .i64 (-1)):=by
  apply Array.ext_getElem?;intro i;unfold PA0;rw [(jf 69 #[.int .i64 (-1)] Tryz.zeroCells25).2 i (by rw [zeroP];decide),Array.getElem?_setIfInBounds];by_cases h:i=69
  ·subst h;rw [if_pos ⟨Nat.le_refl _,by decide⟩,if_pos rfl,if_pos (by rw [zeroP];decide)];rfl
  ·rw [if_neg (by simp;omega),if_neg (by omega)]
 rw [e];exact row_zero.setB (-1)
end Go.Proofs.YtnfakamfmkhlbaaGreatDoor.C
namespace Go.Proofs.YtnfakamfmkhlbaaGreatDoor.C
open Go.ChangeShapes Go.WideShapes Go.ChangeAt Go.RowKit
open Go.Proofs.YtnfakamfmkhlbaaGreatDoor.P
attribute [local go_sem] qd qi
structure Wd (gw:Nat) (xs:List ByteArray) (cur:World):Prop where
 lt:gw<cur.heap.size
 at':∀ (j:Nat) (h:j<xs.length),cur.cell? ⟨gw,j,none⟩=some (.string xs[j])
theorem Wd.next {gw:Nat} {xs:List ByteArray} {cur cur':World} (h:Wd gw xs cur) (g:Gr cur cur'):Wd gw xs cur' :=
 ⟨Nat.lt_of_lt_of_le h.lt (Below.size g),fun j hj=>(Below.cell g (p:=⟨gw,j,none⟩) h.lt).trans (h.at' j hj)⟩
theorem Wd.far {gw bp i:Nat} {xs:List ByteArray} {cur:World} {v:Value} (h:Wd gw xs cur) (hne:gw≠bp):Wd gw xs (cur.setCell ⟨bp,i,none⟩ v):=by
 refine ⟨by rw [World.size_setCell];exact h.lt,fun j hj=>?_⟩;rw [World.cell?_of_block (w:=cur) (Below.heap_setCell cur ⟨bp,i,none⟩ v gw hne)];exact h.at' j hj
theorem wd_of {base:Nat} {v:Value} {xs:List ByteArray} {w:World} (h:Strs base v xs w) (hne:xs≠[]):∃ gw cap,v=.slice (some ⟨gw,0,none⟩) xs.length cap/\base<=gw/\xs.length<=cap/\Wd gw xs w:=by
 rcases h.2 with ⟨_,hn⟩|⟨g,cap,cur,rfl,hg,hh,hn,hc,hs,ht⟩
 ·exact absurd (List.length_eq_zero_iff.1 hn) hne
 ·refine ⟨g,cap,rfl,hg,hn,(Array.getElem?_eq_some_iff.1 hh).1,fun j hj=>?_⟩;rw [cell_of_row _ _ _ _ _ _ hh,<-Array.getElem?_toList];have:=congrArg (fun l=>l[j]?) ht;simp only [List.getElem?_take,Nat.mul_one,if_pos hj,List.getElem?_map,List.getElem?_eq_getElem hj] at this;exact this
theorem set_row {W:World} {b i:Nat} {cs:Array Value} {t:TypeId} {v:Value} (h:W.heap[b]?=some (.cells cs t)):(W.setCell ⟨b,i,none⟩ v).heap[b]?=some (.cells (cs.setIfInBounds i v) t):=by
 have hb:=(Array.getElem?_eq_some_iff.1 h).1;have h':W.heap[b]=.cells cs t:=(Array.getElem?_eq_some_iff.1 h).2;simp [World.setCell,hb,Array.getElem_modify,h']
structure Fo (w:World) (bp:Nat) (PA:Array Value) (cur:World):Prop where
 res:cur.heap[w.heap.size]?=some (.cells Tryz.zeroCells25 25)
 p:cur.heap[bp]?=some (.cells PA 25)
 ne:w.heap.size<bp
 lp:bp<cur.heap.size
 gr:Gr w cur
theorem Fo.next {w cur cur':World} {bp:Nat} {PA:Array Value} (h:Fo w bp PA cur) (g:Gr cur cur'):Fo w bp PA cur' :=
 ⟨by rw [Below.block g _ (Nat.lt_trans h.ne h.lp)];exact h.res,by rw [Below.block g _ h.lp];exact h.p,h.ne,Nat.lt_of_lt_of_le h.lp (Below.size g),Gr.trans h.gr g⟩
theorem Fo.put {w cur:World} {bp:Nat} {PA:Array Value} (h:Fo w bp PA cur) (i:Nat) (v:Value):Fo w bp (PA.setIfInBounds i v) (cur.setCell ⟨bp,i,none⟩ v) :=
 ⟨by rw [Below.heap_setCell cur ⟨bp,i,none⟩ v w.heap.size (Nat.ne_of_lt h.ne)];exact h.res,set_row h.p,h.ne,by rw [World.size_setCell];exact h.lp,Below.setCell h.gr (Nat.le_of_lt h.ne) v⟩
theorem Fo.cell {w cur:World} {bp:Nat} {PA:Array Value} (h:Fo w bp PA cur) {i:Nat} {v:Value} (hv:PA[i]?=some v):cur.cell? ⟨bp,i,none⟩=some v:=by
 rw [cell_of_row _ _ _ _ _ _ h.p];exact hv
theorem Fo.soft {w cur:World} {bp:Nat} {PA:Array Value} (h:Fo w bp PA cur) (i:Nat):cur.frozen? ⟨bp,i,none⟩=false:=by
 unfold World.frozen?;rw [h.p];simp
def FormEnd (s:ByteArray) (e:Ending):Prop :=
 (∃ p,readS s=some p/\e=.returned (.tuple #[.agg (posV p),.bool true]))\/(readS s=none/\∃ A:Array Value,A.size=72/\A.all (·.oneCell')=true/\e=.returned (.tuple #[.agg A,.bool false]))
theorem read_no6 {s:ByteArray} (h:(wordsS 32 7 s).length≠6):readS s=none:=by
 unfold readS;split
 ·rename_i hw;rw [hw] at h;exact absurd rfl h
 ·rfl
theorem read_is6 {s x0 x1 x2 x3 x4 x5:ByteArray} (h:wordsS 32 7 s=[x0,x1,x2,x3,x4,x5]):readS s=six x0 x1 x2 x3 x4 x5:=by
 unfold readS;rw [h]
structure Brd (w:World) (bp:Nat) (PA:Array Value) (cur:World) (z:Nat->UInt8) (wt:Bool) (ys:List ByteArray) (k:Nat) (rs:List (List Int)):Prop where
 fo:Fo w bp PA cur
 row:Row z wt (fun _=>false) (-1) 0 0 PA
 rk:ranksS (ys.take k)=some rs
 at':∀ i f,i<k->f<8->∃ r,rs[i]?=some r/\r[f]?=some ((z (8*(7-i)+f)).toNat:Int)
structure Inn (w:World) (bp:Nat) (PA:Array Value) (cur:World) (z z':Nat->UInt8) (wt:Bool) (zs:List UInt8) (k j rb:Nat) (t:TypeId):Prop where
 fo:Fo w bp PA cur
 row:Row z' wt (fun _=>false) (-1) 0 0 PA
 rb:cur.heap[rb]?=some (.cells (zs.map (fun c=>Value.int .u8 (c.toNat:Int))).toArray t)
 new:∀ f,f<j->zs[f]?=some (z' (8*(7-k)+f))
 old:∀ m,m<8*(7-k)\/8*(7-k)+8<=m->z' m=z m
theorem Inn.rcell {w cur:World} {bp k j rb:Nat} {PA:Array Value} {z z':Nat->UInt8} {wt:Bool} {zs:List UInt8} {t:TypeId} (h:Inn w bp PA cur z z' wt zs k j rb t) (hj:j<zs.length):cur.cell? ⟨rb,j,none⟩=some (.int .u8 ((zs[j]).toNat:Int)):=by
 rw [cell_of_row _ _ _ _ _ _ h.rb];simp [hj]
theorem Inn.step {w cur:World} {bp k j rb:Nat} {PA:Array Value} {z z':Nat->UInt8} {wt:Bool} {zs:List UInt8} {t:TypeId} (h:Inn w bp PA cur z z' wt zs k j rb t) (hj:j<zs.length) (hj8:j<8) (hk:k<8) (hn:rb≠bp):Inn w bp (PA.setIfInBounds (8*(7-k)+j) (.int .u8 ((zs[j]).toNat:Int))) (cur.setCell ⟨bp,8*(7-k)+j,none⟩ (.int .u8 ((zs[j]).toNat:Int))) z (fun m=>if m=8*(7-k)+j then zs[j] else z' m) wt zs k (j+1) rb t:=by
 refine ⟨h.fo.put _ _,h.row.setSq _ (by omega) _,?_,fun f hf=>?_,fun m hm=>?_⟩
 ·rw [Below.heap_setCell cur ⟨bp,_,none⟩ _ rb hn];exact h.rb
 ·by_cases e:f=j
  ·subst e;rw [if_pos rfl];simp [hj]
  ·rw [if_neg (by omega)];exact h.new f (by omega)
 ·rw [if_neg (by omega)];exact h.old m hm
theorem Inn.done {w cur cur':World} {bp k rb:Nat} {PA PA':Array Value} {z z':Nat->UInt8} {wt:Bool} {zs:List UInt8} {t:TypeId} {ys:List ByteArray} {rs:List (List Int)} (h:Inn w bp PA' cur' z z' wt zs k 8 rb t) (hb:Brd w bp PA cur z wt ys k rs) (hk:k<ys.length) (hk8:k<8) (hr:rankS ys[k].data.toList=some (nI zs)):∃ rs',Brd w bp PA' cur' z' wt ys (k+1) rs':=by
 have hl:rs.length=k:=by have:=(xz _ _ hb.rk).2;rw [List.length_take] at this;omega
 refine ⟨rs++[nI zs],h.fo,h.row,?_,fun i f hi hf=>?_⟩
 ·rw [List.take_succ_eq_append_getElem hk,ranksS_snoc,hb.rk,hr]
 ·by_cases e:i=k
  ·subst e;refine ⟨nI zs,by rw [<-hl];simp,?_⟩;unfold nI;rw [List.getElem?_map,h.new f hf];rfl
  ·obtain ⟨r,h1,h2⟩:=hb.at' i f (by omega) hf;refine ⟨r,by rw [List.getElem?_append_left (by omega)];exact h1,?_⟩;rw [h2,h.old (8*(7-i)+f) (by omega)]
theorem board_no8 {x:ByteArray} (h:(wordsS 47 9 x).length≠8):(boardS x).isSome=false:=by
 unfold boardS;rw [if_neg h];rfl
theorem ranks_bad {ys:List ByteArray} {k:Nat} (hk:k<ys.length) (hn:rankS ys[k].data.toList=none):ranksS ys=none:=by
 induction ys generalizing k with
 | nil=>exact absurd hk (Nat.not_lt_zero _)
 | cons y r ih =>
  cases k with
  | zero=>unfold ranksS;rw [show rankS y.data.toList=none from hn]
  | succ k =>
   have:=ih (k:=k) (by simpa using hk) (by simpa using hn);unfold ranksS;rw [this];cases rankS y.data.toList<;>rfl
theorem board_bad {x:ByteArray} {ys:List ByteArray} {k:Nat} (h:wordsS 47 9 x=ys) (hk:k<ys.length) (hn:rankS ys[k].data.toList=none):(boardS x).isSome=false:=by
 subst h;unfold boardS;split
 ·rw [ranks_bad hk hn];rfl
 ·rfl
end Go.Proofs.YtnfakamfmkhlbaaGreatDoor.C
namespace Go.Proofs.YtnfakamfmkhlbaaGreatDoor.C
open Go.ChangeShapes Go.WideShapes Go.ChangeAt Go.RowKit
open Go.Proofs.YtnfakamfmkhlbaaGreatDoor.P
def lastQ (l:List UInt8):Nat->Int
 | 0=>-1
 | k+1=>match l[k]? with
  | some c=>ixq c
  | none=>-1
theorem lastQ_s (l:List UInt8) (k:Nat) (c:UInt8) (h:l[k]?=some c):lastQ l (k+1)=ixq c:=by
 show (match l[k]? with|some c=>ixq c|none=>-1)=ixq c;rw [h]
theorem drop_at (l:List UInt8) (k:Nat) (c:UInt8) (h:l[k]?=some c):l.drop k=c :: l.drop (k+1):=by
 obtain ⟨hk,rfl⟩:=List.getElem?_eq_some_iff.1 h;exact List.drop_eq_getElem_cons hk
theorem rises_at (l:List UInt8) (k:Nat) (c:UInt8) (h:l[k]?=some c):rises (l.drop k) (lastQ l k)=(decide (lastQ l k<ixq c)&&rises (l.drop (k+1)) (lastQ l (k+1))):=by
 rw [drop_at l k c h,lastQ_s l k c h];rfl
theorem clc_neg {c:UInt8} (h:ixq c<0) (i:Nat) (hi:i<4):c≠clc i:=fun e=>by
 have:=(qqa c i hi).2 e;omega
theorem clc_pos {c:UInt8} (h:0<=ixq c):∃ j:Nat,j<4/\ixq c=(j:Int)/\c=clc j:=by
 have:=ixq_bd c;obtain ⟨j,hj⟩:∃ j:Nat,ixq c=(j:Int):=⟨(ixq c).toNat,by omega⟩;have hj4:j<4:=by omega
 exact ⟨j,hj4,hj,(qqa c j hj4).1 hj⟩
theorem qvj (l:List UInt8) (k:Nat) (c d:UInt8) (h:l[k]?=some c):d∈l.take (k+1)↔d∈l.take k\/d=c:=by
 obtain ⟨hk,rfl⟩:=List.getElem?_eq_some_iff.1 h;rw [List.take_succ_eq_append_getElem hk,List.mem_append,List.mem_singleton]
def casF (l:List UInt8) (k:Nat) (i:Nat):Bool:=decide (clc i∈l.take k)
theorem Row.congr {z z':Nat->UInt8} {wh:Bool} {f f':Nat->Bool} {b h g:Int} {PA:Array Value} (r:Row z wh f b h g PA) (hz:∀ i,i<64->z i=z' i) (hf:∀ i,i<4->f i=f' i):Row z' wh f' b h g PA :=
 ⟨r.size,fun i hi=>by rw [<-hz i hi];exact r.sq i hi,r.wh,fun i hi=>by rw [<-hf i hi];exact r.c i hi,r.b,r.h,r.g⟩
theorem row_eq2 {z:Nat->UInt8} {wh:Bool} {f:Nat->Bool} {b h g:Int} {PA PB:Array Value} (r:Row z wh f b h g PA) (q:Row z wh f b h g PB):PA=PB:=by
 apply Array.ext_getElem?;intro i;by_cases h0:i<64
 ·rw [r.sq i h0,q.sq i h0]
 ·by_cases h1:i<72
  ·have:i=64\/i=65+0\/i=65+1\/i=65+2\/i=65+3\/i=69\/i=70\/i=71:=by omega
   rcases this with rfl|rfl|rfl|rfl|rfl|rfl|rfl|rfl
   ·rw [r.wh,q.wh]
   ·rw [r.c 0 (by omega),q.c 0 (by omega)]
   ·rw [r.c 1 (by omega),q.c 1 (by omega)]
   ·rw [r.c 2 (by omega),q.c 2 (by omega)]
   ·rw [r.c 3 (by omega),q.c 3 (by omega)]
   ·rw [r.b,q.b]
   ·rw [r.h,q.h]
   ·rw [r.g,q.g]
  ·rw [Array.getElem?_eq_none (by rw [r.size];omega),Array.getElem?_eq_none (by rw [q.size];omega)]
theorem Row.casNo {z:Nat->UInt8} {wh:Bool} {b h g:Int} {PA:Array Value} {l:List UInt8} {k:Nat} {c:UInt8} (r:Row z wh (casF l k) b h g PA) (hc:l[k]?=some c) (hn:ixq c<0):Row z wh (casF l (k+1)) b h g PA :=
 r.congr (fun _ _=>rfl) (fun i hi=>by
  unfold casF;apply decide_eq_decide.2;rw [qvj l k c _ hc];have:=clc_neg hn i hi;constructor
  ·exact .inl
  ·rintro (h|h)
   ·exact h
   ·exact absurd h.symm this)
theorem Row.casYes {z:Nat->UInt8} {wh:Bool} {b h g:Int} {PA:Array Value} {l:List UInt8} {k j:Nat} (r:Row z wh (casF l k) b h g PA) (hj:j<4) (hc:l[k]?=some (clc j)):Row z wh (casF l (k+1)) b h g (PA.setIfInBounds (65+j) (.bool true)) :=
 (r.setC j hj true).congr (fun _ _=>rfl) (fun i hi=>by
  unfold casF;by_cases e:i=j
  ·subst e;rw [if_pos rfl,eq_comm,decide_eq_true_eq,qvj l k _ _ hc];exact .inr rfl
  ·rw [if_neg e];apply decide_eq_decide.2;rw [qvj l k _ _ hc]
   have:clc i≠clc j:=fun h=>by
    have h1:=(qqa (clc i) i hi).2 rfl;have h2:=(qqa (clc i) j hj).2 h;omega
   constructor
   ·exact .inl
   ·rintro (h|h)
    ·exact h
    ·exact absurd h this)
theorem flat8:∀ (L:List (List Int)),Eights L->∀ i f,f<8->L.flatten[8*i+f]?=(L[i]?).bind (·[f]?)
 | [],_,i,f,_=>by simp
 | r :: t,h,i,f,hf=>by
   have hr:r.length=8:=h r (by simp);cases i with
   | zero=>rw [List.flatten_cons,List.getElem?_append_left (by omega)];simp
   | succ i =>
    rw [List.flatten_cons,List.getElem?_append_right (by omega),hr,show 8*(i+1)+f-8=8*i+f from by omega,flat8 t (fun x hx=>h x (by simp [hx])) i f hf];simp
theorem Brd.board {w cur:World} {bp:Nat} {PA:Array Value} {z:Nat->UInt8} {wt:Bool} {ys:List ByteArray} {rs:List (List Int)} {x:ByteArray} (hb:Brd w bp PA cur z wt ys 8 rs) (hw:wordsS 47 9 x=ys) (h8:ys.length=8) :
  ∃ b,boardS x=some b/\∀ i,i<64->b[i]?=some ((z i).toNat:Int):=by
 have hrk:=hb.rk;rw [List.take_of_length_le (by omega)] at hrk;obtain ⟨he,hl⟩:=xz _ _ hrk;refine ⟨rs.reverse.flatten,by unfold boardS;rw [hw,if_pos h8,hrk],fun i hi=>?_⟩;have hfl:=flat8 rs.reverse (fun r hr=>he r (List.mem_reverse.1 hr)) (i/8) (i%8) (by omega);rw [show 8*(i/8)+i%8=i from by omega] at hfl;rw [hfl,List.getElem?_reverse (by omega),hl,h8];obtain ⟨r,h1,h2⟩:=hb.at' (7-i/8) (i%8) (by omega) (by omega);rw [show 8-1-i/8=7-i/8 from by omega,h1];rw [show 8*(7-(7-i/8))+i%8=i from by omega] at h2;exact h2
theorem cast_is (l:List UInt8):castS l=if l=[45] then some (fun _=>false) else if !l.isEmpty&&rises l (-1) then some (leftS l) else none:=by
 unfold castS;rw [rest_empty]
theorem cast_bad {l:List UInt8} (h1:l≠[45]) (h2:rises l (-1)=false):(castS l).isSome=false:=by
 rw [cast_is,if_neg h1,h2];simp
theorem cast_nil:(castS []).isSome=false:=by rw [cast_is];rfl
theorem cast_good {l:List UInt8} (h0:l≠[]) (h:l=[45]\/rises l (-1)=true):∃ c,castS l=some c/\∀ i,i<4->casF l l.length i=c i:=by
 rw [cast_is];by_cases h1:l=[45]
 ·subst h1;refine ⟨_,rfl,fun i hi=>?_⟩;have:i=0\/i=1\/i=2\/i=3:=by omega
  rcases this with rfl|rfl|rfl|rfl<;>rfl
 ·have h2:=h.resolve_left h1;rw [if_neg h1,h2];refine ⟨leftS l,by cases l with|nil=>exact absurd rfl h0|cons a r=>rfl,fun i hi=>?_⟩;rw [left_mem l h2 i hi];unfold casF;rw [List.take_length]
theorem num_good {l:List UInt8} (h:0<=numI l):∃ n:Nat,clkS l=some n/\numI l=(n:Int):=by
 revert h;unfold numI
 cases clkS l with
 | none=>intro h;exact absurd h (by decide)
 | some n=>intro _;exact ⟨n,rfl,rfl⟩
theorem form_yes {s x0 x1 x2 x3 x4 x5:ByteArray} {z:Nat->UInt8} {wt:Bool} {b:Int} {PA:Array Value} (hr:readS s=six x0 x1 x2 x3 x4 x5) (hb:∃ b,boardS x0=some b/\∀ i,i<64->b[i]?=some ((z i).toNat:Int)) (hs:sideS x1=some wt)
  (h0:x2.data.toList≠[]) (hc:x2.data.toList=[45]\/rises x2.data.toList (-1)=true) (hbe:behS x3=some b) (h4:0<=numI x4.data.toList) (h5:0<=numI x5.data.toList)
  (row:Row z wt (casF x2.data.toList x2.data.toList.length) b (numI x4.data.toList) (numI x5.data.toList) PA):∃ p,readS s=some p/\PA=posV p:=by
 obtain ⟨B,hB,hz⟩:=hb;obtain ⟨c,hc1,hc2⟩:=cast_good h0 hc;obtain ⟨n4,e4,g4⟩:=num_good h4;obtain ⟨n5,e5,g5⟩:=num_good h5;rw [g4,g5] at row
 have hp:readS s=some ⟨B,wt,c,b,(n4:Int),(n5:Int)⟩:=by
  rw [hr];unfold six;rw [hB,hs,hc1,hbe,e4,e5]
 refine ⟨_,hp,?_⟩;have hq:=jn hp;refine row_eq2 (row.congr (fun i hi=>?_) hc2) hq;have h1:=hq.sq i hi;obtain ⟨U,u1,u2,_⟩:=zo s _ hp;obtain ⟨a1,a2⟩:=qj5 u1 u2;have:=a2 i hi;rw [List.getElem?_toArray,List.getElem?_map,hz i hi] at this;simp only [Option.map_some,Option.some.injEq,Value.int.injEq,true_and] at this;exact UInt8.toNat_inj.1 (by omega)
theorem num_bad {l:List UInt8} (h:¬ 0<=numI l):(clkS l).isSome=false:=by
 revert h;unfold numI
 cases clkS l with
 | none=>intro _;rfl
 | some n=>intro h;exact absurd (Int.natCast_nonneg n) h
theorem qqz {ops:Array Oper} {op:Oper} {a:Act} {PA:Array Value} (hz:PA.size=72) {S:World->Prop} (hw:Region.wanted op (yielded ops a.tmps)=true) (x:Operand) (ho:op.op=.load 25 x) (b:Nat) (hx:a.eval x=.pointer (some ⟨b,0,none⟩)) (hS:∀ w,S w->RowAt b PA w):YieldsIf Tryz.prog ops S op (.agg PA) a:=by
 have:=yieldsIf_load_mid (P:=Tryz.prog) hw 25 x ho b 0 hx PA.toList _ (fun w h=>(hS w h).2) Tryz.underlying25 rfl (by rw [infoP];simp [hz])
 rwa [Array.toArray_toList] at this
def StF (bp gw:Nat) (PA:Array Value) (x:ByteArray) (h g:Int) (w:World):Prop:=RowAt bp PA w/\w.cell? ⟨gw,2,none⟩=some (.string x)/\w.cell? ⟨bp,70,none⟩=some (.int .i64 h)/\w.cell? ⟨bp,71,none⟩=some (.int .i64 g)
theorem beh_sq {x:ByteArray} {b:Int} (h:x.toList≠[45]) (hb:sqI x=b):if 0<=b then behS x=some b else (behS x).isSome=false:=by
 subst hb;unfold behS sqI;rw [if_neg h];cases sqS x with
 | none=>rw [if_neg (by decide)];rfl
 | some n=>rw [if_pos (Int.natCast_nonneg n)];rfl
theorem qzq {W:World} {b j:Nat} {cs:Array Value} (h:j≠b):(W.setRow b cs).heap[j]?=W.heap[j]?:=by
 unfold World.setRow;show (W.heap.modify b _)[j]?=_;rw [Array.getElem?_modify,if_neg (fun e=>h e.symm)]
theorem StF.far {bp gw:Nat} {PA:Array Value} {x:ByteArray} {h g:Int} {W:World} {b:Nat} {cs:Array Value} (s:StF bp gw PA x h g W) (h1:b<bp) (h2:gw≠b):StF bp gw PA x h g (W.setRow b cs):=by
 obtain ⟨⟨a1,a2⟩,a3,a4,a5⟩:=s;have e1:∀ i,(W.setRow b cs).cell? ⟨bp,i,none⟩=W.cell? ⟨bp,i,none⟩:=fun i=>World.cell?_of_block (qzq (Ne.symm (Nat.ne_of_lt h1)))
 have e2:∀ i,(W.setRow b cs).cell? ⟨gw,i,none⟩=W.cell? ⟨gw,i,none⟩:=fun i=>World.cell?_of_block (qzq h2)
 refine ⟨⟨by rw [size_setRow];exact a1,fun j v hv=>?_⟩,by rw [e2];exact a3,by rw [e1];exact a4,by rw [e1];exact a5⟩;rw [e1];exact a2 j v hv
end Go.Proofs.YtnfakamfmkhlbaaGreatDoor.C
