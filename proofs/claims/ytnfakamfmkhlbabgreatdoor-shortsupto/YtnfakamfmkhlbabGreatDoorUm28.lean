import Derived.Test.YtnfakamfmkhlbabGreatDoorUm27
import Derived.Stop.RegionWithIn
import Derived.Maps.AppendAt
import Derived.RangeFuncBox
import Derived.Shelf.SlSortCmp.NoneTotal
import Derived.Shelf.Lay
import Derived.Sort.Walk0
set_option maxRecDepth 100000
set_option maxHeartbeats 4000000
set_option linter.unusedSimpArgs false
namespace Go.Proofs.YtnfakamfmkhlbabGreatDoor.C
open Go.ChangeShapes Go.WideShapes Go.ChangeAt Go.RowKit Go.Proofs.YtnfakamfmkhlbabGreatDoor.P Go.Shelf Go.Sort
section
attribute [local go_sem] qd qe
def ixs(c:UInt8):Int:=Lib.indexByte [32,49,50,51,52,53,54,55,56] c
theorem Be:∀c:UInt8,uT c=true->ixs c=(c.toNat:Int)-48/\Lib.indexByte xU c=-1/\49<=c.toNat/\c.toNat<=56:=vg (by decide +kernel)
theorem Ba:∀c:UInt8,uT c=false->-1<=ixs c/\ixs c<=0:=vg (by decide +kernel)
theorem Bc:∀c:UInt8,uT c=false->0<=Lib.indexByte xU c->ixs c=-1:=vg (by decide +kernel)
theorem EW:∀c:UInt8,-1<=Lib.indexByte xU c/\Lib.indexByte xU c<12:=vg (by decide +kernel)
theorem mK(s:ByteArray)(hs:s.size<=maxLen)(w:World):Calls Tryz.prog 198 #[.string s] w fun e w'=>yf s.data.toList e/\Gr w w':=by
 unfold maxLen at hs;go_enter Tryz.func198,Tryz.ntmps198;go_wp2;go_loopg [5,6,7] s.size (fun g fl af i wr=>∃k:Nat,k+g=s.size/\i=.int .i64 k/\∃(acc:List Int)(a:Bool),vY (s.data.toList.take k)=some (acc,a)/\fl=.int .i64 acc.length/\af=.bool a/\∃(R:Array Value),wr=((w.alloc (Obj.cells #[.int .u8 0,.int .u8 0,.int .u8 0,.int .u8 0,.int .u8 0,.int .u8 0,.int .u8 0,.int .u8 0] 277)).alloc (Obj.cells R 277))/\yu acc R/\acc.length<=8)
 case atStart=>exact⟨0,by omega,rfl,[],false,rfl,rfl,rfl,_,rfl,yu.nil,by simp⟩
 case round =>
  obtain⟨k,k1,rfl,acc,a,hf0,rfl,rfl,R,rfl,hR0,hacc⟩:=hrel;have hf:=qC hf0;have hR:=qC hR0;clear hf0 hR0;by_cases hlt:k<s.size
  ·obtain⟨xd,hxd⟩:∃x,Hid (Lib.indexByte (ByteArray.mk #[32,49,50,51,52,53,54,55,56]).data.toList s[k]=x):=⟨_,qC rfl⟩;obtain⟨xk,hxk⟩:∃x,Hid (Lib.indexByte (ByteArray.mk #[80,78,66,82,81,75,112,110,98,114,113,107]).data.toList s[k]=x):=⟨_,qC rfl⟩;have hkb:-1<=xk/\xk<12:=by rw[<-qa hxk];exact EW s[k]
   have hlS:Hid (bz s[k]=!decide (xk<0)):=qC (by rw[<-qa hxk];rfl);cases hdS0:uT s[k]with
   | true =>
    have hdS:=qC hdS0;obtain⟨d1,d2,d3,d4⟩:=Be s[k] hdS0;have e1:xd=(s[k].toNat:Int)-48:=(qa hxd).symm.trans d1;have e2:xk=-1:=(qa hxk).symm.trans d2;obtain⟨dn,hdn⟩:∃dn:Nat,s[k].toNat-48=dn:=⟨_,rfl⟩;have e3:xd=(dn:Int):=by omega
    have hdn8:1<=dn/\dn<=8:=by omega
    subst e3 e2;clear hdS0 d1 d2 d3 d4 e1 hkb hlS;cases a
    ·by_cases h8:8<acc.length+dn
     ·have hbad:Hid (jL s.data.toList=none):=qC (zn s k hlt (by rw[qa hf];unfold zZ;simp only[qa hdS,if_true,Bool.false_or,hdn,qJ h8]));obtain⟨r0,r1,r2,r3,r4,r5,r6,r7,rfl⟩:=uU (qa hR);clear hR;go_wp2_with(go_at_call 111;refine(xa _ (by decide) _ _).mono ?_;rintro e w' ⟨rfl,rfl⟩;(first|rw[qa hxd]|rw[qa hxk]));refine bodyPost_ret (v:=.tuple #[.agg #[.int .u8 r0,.int .u8 r1,.int .u8 r2,.int .u8 r3,.int .u8 r4,.int .u8 r5,.int .u8 r6,.int .u8 r7],.bool false]) (by simp[results,Tryz.results198,go_sem]) rfl ⟨.inr ⟨qa hbad,_,_,_,_,_,_,_,_,rfl⟩,?_⟩
      repeat(first|exact Gr.refl _|apply Gr.drew|apply Gr.drewN|apply Gr.alloc)
     ·have hne8:((acc.length:Int)==8)=false:=by rw[qM];omega
      have h8':=qC h8;go_wp2_with(go_at_call 111;refine(xa _ (by decide) _ _).mono ?_;rintro e w' ⟨rfl,rfl⟩;(first|rw[qa hxd]|rw[qa hxk]));go_loopg [5,8] dn (fun g fl dd wr=>∃j:Nat,j+g=dn/\dd=.int .i64 ((dn:Int)-j)/\∃acc':List Int,acc'=acc++List.replicate j 46/\fl=.int .i64 acc'.length/\∃(R:Array Value),wr=((w.alloc (Obj.cells #[.int .u8 0,.int .u8 0,.int .u8 0,.int .u8 0,.int .u8 0,.int .u8 0,.int .u8 0,.int .u8 0] 277)).alloc (Obj.cells R 277))/\yu acc' R)
      case atStart=>exact⟨0,by omega,by simp,acc,by simp,rfl,R,rfl,qa hR⟩
      case round =>
       obtain⟨j,j1,rfl,acc',hacc0,rfl,R',rfl,hR0'⟩:=hrel;have hacc':=qC hacc0;have hR':=qC hR0';have hlen:acc'.length=acc.length+j:=by rw[hacc0];simp
       clear hacc0 hR0';by_cases hj:j<dn
       ·have hl8:acc'.length<8:=by omega
        have hsz:=(qa hR').1;have hlR:acc'.length<R'.size:=by omega
        clear hlen
        have hcell:((w.alloc (Obj.cells #[.int .u8 0,.int .u8 0,.int .u8 0,.int .u8 0,.int .u8 0,.int .u8 0,.int .u8 0,.int .u8 0] 277)).alloc (Obj.cells R' 277)).cell? ⟨w.heap.size+1,acc'.length,none⟩=some (R'[acc'.length]'hlR):=by
         rw[cell_of_row _ _ _ _ _ _ (heap_alloc2_new _ _ _)];exact qQ _
        have hw1:IntKind.i64.wrap ((dn:Int)-(j:Int)-1)=(dn:Int)-((j+1:Nat):Int):=by rw[IntKind.wrap_i64];omega
        have hdj:(0:Int)<(dn:Int)-(j:Int):=by omega
        go_wp2;go_roundg (gk-1)
        case measure=>omega
        case rel =>
         refine⟨j+1,by omega,rfl,acc'++[46],?_,by simp,_,rfl,(qa hR').snoc hl8 _⟩;rw[qa hacc',qS,<-List.replicate_succ']
       ·have ej:j=dn:=by omega
        clear hlen;subst ej;go_wp2;go_roundg (s.size-k-1)
        case measure=>omega
        case rel =>
         have ea:=qa hacc';refine⟨k+1,by omega,by go_num,acc',true,?_,rfl,rfl,R',rfl,qa hR',by rw[ea];simp;omega⟩;rw[xi s k hlt,vj,qa hf,ea];unfold zZ;simp only[qa hdS,if_true,Bool.false_or,hdn,qE (qa h8'),qR,if_false]
    ·have hbad:Hid (jL s.data.toList=none):=qC (zn s k hlt (by rw[qa hf];unfold zZ;simp only[qa hdS,if_true,Bool.true_or]));obtain⟨r0,r1,r2,r3,r4,r5,r6,r7,rfl⟩:=uU (qa hR);clear hR;go_wp2_with(go_at_call 111;refine(xa _ (by decide) _ _).mono ?_;rintro e w' ⟨rfl,rfl⟩;(first|rw[qa hxd]|rw[qa hxk]));refine bodyPost_ret (v:=.tuple #[.agg #[.int .u8 r0,.int .u8 r1,.int .u8 r2,.int .u8 r3,.int .u8 r4,.int .u8 r5,.int .u8 r6,.int .u8 r7],.bool false]) (by simp[results,Tryz.results198,go_sem]) rfl ⟨.inr ⟨qa hbad,_,_,_,_,_,_,_,_,rfl⟩,?_⟩
     repeat(first|exact Gr.refl _|apply Gr.drew|apply Gr.drewN|apply Gr.alloc)
   | false =>
    have hdS:=qC hdS0;obtain⟨d1,d2⟩:=Ba s[k] hdS0;have e1:-1<=xd:=by rw[<-qa hxd];exact d1
    have e2:xd<=0:=by rw[<-qa hxd];exact d2
    have e3:0<=xk->xd=-1:=fun h=>by rw[<-qa hxd];exact Bc s[k] hdS0 (by rw[<-qa hxk]at h;exact h)
    clear d1 d2 hdS0;by_cases hneg:xk<0
    ·have hbad:Hid (jL s.data.toList=none):=qC (zn s k hlt (by rw[qa hf];unfold zZ;simp only[qa hdS,qa hlS,qJ hneg];rfl));obtain⟨r0,r1,r2,r3,r4,r5,r6,r7,rfl⟩:=uU (qa hR);clear hR;go_wp2_with(go_at_call 111;refine(xa _ (by decide) _ _).mono ?_;rintro e w' ⟨rfl,rfl⟩;(first|rw[qa hxd]|rw[qa hxk]));refine bodyPost_ret (v:=.tuple #[.agg #[.int .u8 r0,.int .u8 r1,.int .u8 r2,.int .u8 r3,.int .u8 r4,.int .u8 r5,.int .u8 r6,.int .u8 r7],.bool false]) (by simp[results,Tryz.results198,go_sem]) rfl ⟨.inr ⟨qa hbad,_,_,_,_,_,_,_,_,rfl⟩,?_⟩
     repeat(first|exact Gr.refl _|apply Gr.drew|apply Gr.drewN|apply Gr.alloc)
    ·have e4:=e3 (by omega);subst e4;clear e1 e2 e3;by_cases h8:8<acc.length+1
     ·have hbad:Hid (jL s.data.toList=none):=qC (zn s k hlt (by rw[qa hf];unfold zZ;simp only[qa hdS,qa hlS,qE hneg,Bool.not_false,qR,if_false,if_true,h8]));have hl8:acc.length=8:=by omega
      have hl8i:(acc.length:Int)=8:=by omega
      clear h8;obtain⟨r0,r1,r2,r3,r4,r5,r6,r7,rfl⟩:=uU (qa hR);clear hR;go_wp2_with(go_at_call 111;refine(xa _ (by decide) _ _).mono ?_;rintro e w' ⟨rfl,rfl⟩;(first|rw[qa hxd]|rw[qa hxk]));refine bodyPost_ret (v:=.tuple #[.agg #[.int .u8 r0,.int .u8 r1,.int .u8 r2,.int .u8 r3,.int .u8 r4,.int .u8 r5,.int .u8 r6,.int .u8 r7],.bool false]) (by simp[results,Tryz.results198,go_sem]) rfl ⟨.inr ⟨qa hbad,_,_,_,_,_,_,_,_,rfl⟩,?_⟩
      repeat(first|exact Gr.refl _|apply Gr.drew|apply Gr.drewN|apply Gr.alloc)
     ·have hl8:acc.length<8:=by omega
      have hne8:((acc.length:Int)==8)=false:=by rw[qM];omega
      have hlT:Hid (bz s[k]=true):=qC (by rw[qa hlS,qE hneg];rfl);have h8':=qC h8;have hsz:=(qa hR).1;have hlR:acc.length<R.size:=by omega
      have hcell:((w.alloc (Obj.cells #[.int .u8 0,.int .u8 0,.int .u8 0,.int .u8 0,.int .u8 0,.int .u8 0,.int .u8 0,.int .u8 0] 277)).alloc (Obj.cells R 277)).cell? ⟨w.heap.size+1,acc.length,none⟩=some (R[acc.length]'hlR):=by
       rw[cell_of_row _ _ _ _ _ _ (heap_alloc2_new _ _ _)];exact qQ _
      go_wp2_with(go_at_call 111;refine(xa _ (by decide) _ _).mono ?_;rintro e w' ⟨rfl,rfl⟩;(first|rw[qa hxd]|rw[qa hxk]));go_loopg [5,8] 0 (fun g fl dd wr=>g=0/\dd=.int .i64 (-1)/\fl=.int .i64 ((acc.length:Int)+1)/\wr=((w.alloc (Obj.cells #[.int .u8 0,.int .u8 0,.int .u8 0,.int .u8 0,.int .u8 0,.int .u8 0,.int .u8 0,.int .u8 0] 277)).alloc (Obj.cells (R.setIfInBounds acc.length (.int .u8 (s[k].toNat:Int))) 277)))
      case atStart=>exact⟨rfl,rfl,rfl,rfl⟩
      case round =>
       obtain⟨rfl,rfl,rfl,rfl⟩:=hrel;go_wp2;go_roundg (s.size-k-1)
       case measure=>omega
       case rel =>
        refine⟨k+1,by omega,by go_num,acc++[(s[k].toNat:Int)],false,?_,by simp,rfl,_,rfl,(qa hR).snoc hl8 _,by simp;omega⟩;rw[xi s k hlt,vj,qa hf];unfold zZ;simp only[qa hdS,qa hlT,qR,if_false,if_true,qF (qa h8')]
  ·have ek:k=s.size:=by omega
   subst ek;have hfull:s.data.toList.take s.size=s.data.toList:=List.take_of_length_le (by simp);rw[hfull]at hf;clear hfull;by_cases h8:acc.length=8
   ·have hdone:=(qa hR).done h8;obtain⟨r0,r1,r2,r3,r4,r5,r6,r7,rfl⟩:=uU (qa hR)
    have hend:Hid (yf s.data.toList (.returned (.tuple #[.agg #[.int .u8 r0,.int .u8 r1,.int .u8 r2,.int .u8 r3,.int .u8 r4,.int .u8 r5,.int .u8 r6,.int .u8 r7],.bool true]))) :=
     qC (.inl ⟨acc,by unfold jL;rw[qa hf];simp[h8],by rw[<-hdone]⟩)
    clear hR hdone hf;go_wp2;refine bodyPost_ret (v:=.tuple #[.agg #[.int .u8 r0,.int .u8 r1,.int .u8 r2,.int .u8 r3,.int .u8 r4,.int .u8 r5,.int .u8 r6,.int .u8 r7],.bool true]) (by simp[results,Tryz.results198,go_sem]) rfl ⟨qa hend,?_⟩
    repeat(first|exact Gr.refl _|apply Gr.drew|apply Gr.drewN|apply Gr.alloc)
   ·obtain⟨r0,r1,r2,r3,r4,r5,r6,r7,rfl⟩:=uU (qa hR)
    have hend:Hid (yf s.data.toList (.returned (.tuple #[.agg #[.int .u8 r0,.int .u8 r1,.int .u8 r2,.int .u8 r3,.int .u8 r4,.int .u8 r5,.int .u8 r6,.int .u8 r7],.bool false]))) :=
     qC (.inr ⟨by unfold jL;rw[qa hf];simp[h8],_,_,_,_,_,_,_,_,rfl⟩)
    have hne:((acc.length:Int)==8)=false:=by simp;omega
    clear hR hf h8;go_wp2;refine bodyPost_ret (v:=.tuple #[.agg #[.int .u8 r0,.int .u8 r1,.int .u8 r2,.int .u8 r3,.int .u8 r4,.int .u8 r5,.int .u8 r6,.int .u8 r7],.bool false]) (by simp[results,Tryz.results198,go_sem]) rfl ⟨qa hend,?_⟩
    repeat(first|exact Gr.refl _|apply Gr.drew|apply Gr.drewN|apply Gr.alloc)
theorem DH:(Tryz.prog.info? 9).map (fun i=>(i.zero,i.size,i.bytes))=some (some (.string ⟨#[]⟩),1,16):=by kernel_rfl
def yt(base:Nat)(v:Value)(xs:List ByteArray)(w:World):Prop:=w.ownsRow base 9 1 v xs.length (xs.map Value.string)
theorem qjd{base:Nat}{v:Value}{l:List ByteArray}{w:World}(h:yt base v l w):∀k,v.ownBlock=some k->base<=k:=by
 intro k hk;rcases h.2 with⟨rfl,_⟩|⟨g,cap,cur,rfl,hg,_⟩
 ·simp[Value.ownBlock]at hk
 ·simp[Value.ownBlock]at hk;omega
def jc(c:UInt8)(out:List ByteArray):List UInt8:=(out.map fun x=>x.data.toList++[c]).flatten
theorem BZ(c:UInt8)(out:List ByteArray)(x:ByteArray):jc c (out++[x])=jc c out++(x.data.toList++[c]):=by
 unfold jc;simp
theorem gS(c:UInt8):∀(out:List ByteArray)(x:ByteArray),Lib.join ((out++[x]).map (·.data.toList)) [c]=jc c out++x.data.toList
 | [],x=>by simp[jc,Lib.join_one]
 | [y],x=>by simp[jc,ve,Lib.join_one]
 | y :: z :: r,x=>by
   have ih:=gS c (z :: r) x;simp only[List.cons_append,List.map_cons]at ih ⊢;rw[ve,ih];simp[jc]
theorem qkq(s:ByteArray)(f i:Nat):(s.extract f i).data.toList=(s.data.toList.take i).drop f:=by
 rw[ByteArray.data_extract,Array.toList_extract,List.extract_eq_take_drop,List.drop_take]
theorem bI{l:List UInt8}{f i:Nat}(h:f<=i):l.take f++(l.take i).drop f=l.take i:=by
 conv=>rhs;rw[<-List.take_append_drop f (l.take i)]
 rw[List.take_take,Nat.min_eq_left h]
def Cut(s:ByteArray)(c:UInt8)(i f:Nat)(out:List ByteArray):Prop :=
 (∀x∈out,c∉x.data.toList)/\out.length<=i/\((i<=s.size/\f<=i/\jc c out=s.data.toList.take f/\∀j,f<=j->j<i->s.data.toList[j]?≠some c)\/(i=s.size+1/\out≠[]/\Lib.join (out.map (·.data.toList)) [c]=s.data.toList))
theorem aL{s:ByteArray}{c:UInt8}{i f:Nat}(h:∀j,f<=j->j<i->s.data.toList[j]?≠some c):c∉(s.extract f i).data.toList:=by
 rw[qkq s f i];intro hm;obtain⟨j,hj⟩:=List.mem_iff_getElem?.1 hm;rw[List.getElem?_drop,List.getElem?_take]at hj;split at hj
 ·exact h (f+j) (by omega) (by assumption) hj
 ·cases hj
theorem Cut.skip{s:ByteArray}{c:UInt8}{i f:Nat}{out:List ByteArray}(h:Cut s c i f out)(hi:i<s.size)(hc:s[i]≠c):Cut s c (i+1) f out:=by
 obtain⟨h1,h2,⟨a1,a2,a3,a4⟩|⟨a1,_⟩⟩:=h
 ·refine⟨h1,by omega,.inl ⟨by omega,by omega,a3,fun j hj1 hj2=>?_⟩⟩;by_cases e:j=i
  ·subst e;rw[cL s j hi];intro hh;exact hc (qP hh)
  ·exact a4 j hj1 (by omega)
 ·omega
theorem Cut.cut{s:ByteArray}{c:UInt8}{i f:Nat}{out:List ByteArray}(h:Cut s c i f out)(hi:i<s.size)(hc:s[i]=c):Cut s c (i+1) (i+1) (out++[s.extract f i]):=by
 obtain⟨h1,h2,⟨a1,a2,a3,a4⟩|⟨a1,_⟩⟩:=h
 ·refine⟨fun x hx=>?_,by simp;omega,.inl ⟨by omega,qL _,?_,fun j hj1 hj2=>by omega⟩⟩
  ·rcases List.mem_append.1 hx with hx|hx
   ·exact h1 x hx
   ·rw[qT.1 hx];exact aL a4
  ·rw[BZ,a3,qkq s f i,<-qS,bI a2,xi s i hi,hc]
 ·omega
theorem Cut.last{s:ByteArray}{c:UInt8}{f:Nat}{out:List ByteArray}(h:Cut s c s.size f out):Cut s c (s.size+1) (s.size+1) (out++[s.extract f s.size]):=by
 obtain⟨h1,h2,⟨a1,a2,a3,a4⟩|⟨a1,_⟩⟩:=h
 ·refine⟨fun x hx=>?_,by simp;omega,.inr ⟨rfl,by simp,?_⟩⟩
  ·rcases List.mem_append.1 hx with hx|hx
   ·exact h1 x hx
   ·rw[qT.1 hx];exact aL a4
  ·rw[gS,a3,qkq s f s.size,bI a2];exact List.take_of_length_le (by simp)
 ·omega
theorem Cut.from_le{s:ByteArray}{c:UInt8}{i f:Nat}{out:List ByteArray}(h:Cut s c i f out)(hi:i<=s.size):f<=i:=by
 obtain⟨_,_,⟨_,a2,_⟩|⟨a1,_⟩⟩:=h
 ·exact a2
 ·omega
theorem qvl(s:ByteArray)(hs:s.size<4294967281)(c:UInt8)(w:World):Calls Tryz.prog 71 #[.string s,.int .u8 (c.toNat:Int)] w fun e w'=>∃v xs,e=.returned v/\yt w.heap.size v xs w'/\(∀x∈xs,c∉x.data.toList)/\xs≠[]/\Lib.join (xs.map (·.data.toList)) [c]=s.data.toList/\Gr w w':=by
 obtain⟨i0,hi,hz0,hz1,hz2⟩:=info_parts DH;have hi':=qC hi;clear hi;go_enter Tryz.func71,Tryz.ntmps71;go_wp2;go_loopg [5,6,7] (s.size+1) (fun g v ff ii wr=>∃k f:Nat,k+g=s.size+1/\ii=.int .i64 k/\ff=.int .i64 f/\∃out:List ByteArray,Cut s c k f out/\yt w.heap.size v out wr/\Gr w wr)
 case atStart=>exact⟨0,0,by omega,rfl,rfl,[],⟨fun x hx=>(by cases hx),qL _,.inl ⟨Nat.zero_le _,qL _,by simp[jc],fun j h1 h2=>absurd h2 (Nat.not_lt_zero j)⟩⟩,⟨rfl,.inl ⟨rfl,rfl⟩⟩,Gr.refl _⟩
 case round =>
  obtain⟨k,f,k1,rfl,rfl,out,hcut,hst,hgr⟩:=hrel;have hlen:=hcut.2.1;have hwz:w.heap.size<=wr.heap.size:=Below.size hgr;have hcut':=qC hcut;have hst':=qC hst;have hgr':=qC hgr;clear hst hgr;by_cases hle:k<=s.size
  ·have hfk:=hcut.from_le hle;clear hcut;by_cases hlt:k<s.size
   ·by_cases hc:s[k]=c
    ·have hcut2:=qC ((qa hcut').cut hlt hc);subst hc;have hne:((k:Int)==(s.size:Int))=false:=by rw[qM];omega
     go_wp2_with(at_builtin;refine wpList_append_own _ rfl (.tmp 25) (.tmp 30) 43 rfl w.heap.size 9 i0 (.string ⟨#[]⟩) 1 16 Tryz.underlying43 (qa hi') hz0 hz1 hz2 rfl (by decide) u5 out.length (out.map Value.string) rfl ((qa hst').alloc _) ⟨wr.heap.size,0,none⟩ 1 1 [.string (s.extract f k)] rfl rfl (cell_one_new _ _ _) (by simp[Value.oneCell']) (by unfold maxLen;omega) (by omega) (by simp;omega) ?_;intro v' w2 hown' hgrow hnil);go_roundg (gk-1)
     case measure=>omega
     case rel =>
      refine⟨k+1,k+1,by omega,by go_num,by go_num,out++[s.extract f k],qa hcut2,?_,?_⟩
      ·unfold yt;rw[List.map_append,qZ];exact hown'
      ·exact((qa hgr').alloc _ _).grown hgrow (by simp;omega) (qjd (qa hst'))
    ·have hcut2:=qC ((qa hcut').skip hlt hc);have hne:((k:Int)==(s.size:Int))=false:=by rw[qM];omega
     have hne2:((s[k].toNat:Int)==(c.toNat:Int))=false:=by
      rw[qM];intro h;exact hc (q6.1 (by omega))
     clear hc;go_wp2;go_roundg (gk-1)
     case measure=>omega
     case rel=>exact⟨k+1,f,by omega,by go_num,rfl,out,qa hcut2,qa hst',qa hgr'⟩
   ·have ek:k=s.size:=by omega
    subst ek;have hcut2:=qC ((qa hcut').last);go_wp2_with(at_builtin;refine wpList_append_own _ rfl (.tmp 25) (.tmp 30) 43 rfl w.heap.size 9 i0 (.string ⟨#[]⟩) 1 16 Tryz.underlying43 (qa hi') hz0 hz1 hz2 rfl (by decide) u5 out.length (out.map Value.string) rfl ((qa hst').alloc _) ⟨wr.heap.size,0,none⟩ 1 1 [.string (s.extract f s.size)] rfl rfl (cell_one_new _ _ _) (by simp[Value.oneCell']) (by unfold maxLen;omega) (by omega) (by simp;omega) ?_;intro v' w2 hown' hgrow hnil);go_roundg (gk-1)
    case measure=>omega
    case rel =>
     refine⟨s.size+1,s.size+1,by omega,by go_num,by go_num,out++[s.extract f s.size],qa hcut2,?_,?_⟩
     ·unfold yt;rw[List.map_append,qZ];exact hown'
     ·exact((qa hgr').alloc _ _).grown hgrow (by simp;omega) (qjd (qa hst'))
  ·obtain⟨b1,b2,⟨b3,_⟩|⟨b3,b4,b5⟩⟩:=hcut
   ·exact absurd b3 hle
   ·subst b3;have hb1:=qC b1;have hb4:=qC b4;have hb5:=qC b5;clear b1 b4 b5;go_wp2;go_ret;exact⟨u5,out,rfl,qa hst',qa hb1,qa hb4,qa hb5,qa hgr'⟩
end
theorem qz9(c:UInt8):∀(k:Nat)(x:List UInt8) (r:List (List UInt8)),(∀y∈x :: r,c∉y)->k<r.length->(Lib.splitK [c] 0 k (Lib.join (x :: r) [c])).length=k+1
 | 0,_,_,_,_=>rfl
 | k+1,x,[],_,hk=>by simp at hk
 | k+1,x,y :: r,h,hk=>by
   rw[ve,qS];show(Lib.splitK [c] 0 (k+1) (x++c :: Lib.join (y :: r) [c])).length=_;rw[qj6 c k x _ (h x (by simp)),List.length_cons,qz9 c k y r (fun z hz=>h z (by simp at hz ⊢;right;exact hz)) (by simp at hk;omega)]
theorem aK:∀{xs ys:List ByteArray},xs.map (·.data.toList)=ys.map (·.data.toList)->xs=ys
 | [],[],_=>rfl
 | [],y :: ys,h=>by simp at h
 | x :: xs,[],h=>by simp at h
 | x :: xs,y :: ys,h=>by
   simp only[List.map_cons,List.cons.injEq]at h
   have e:x=y:=by
    cases x;cases y;simpa using h.1
   rw[e,aK h.2]
theorem dQ(c:UInt8)(n:Nat)(hn:1<=n)(s:ByteArray)(xs:List ByteArray)(h1:∀x∈xs,c∉x.data.toList)(h2:xs≠[])(h3:Lib.join (xs.map (·.data.toList)) [c]=s.data.toList) :
  (xs.length<=n->xL c n s=xs)/\(n<xs.length->(xL c n s).length=n):=by
 obtain⟨x,r,rfl⟩:=List.exists_cons_of_ne_nil h2
 have hno:∀y∈x.data.toList :: r.map (·.data.toList),c∉y:=fun y hy=>by
  rcases List.mem_cons.1 hy with rfl|hy
  ·exact h1 x (by simp)
  ·obtain⟨z,hz,rfl⟩:=List.mem_map.1 hy;exact h1 z (by simp[hz])
 rw[List.map_cons]at h3;constructor
 ·intro hl;apply aK;rw[qv4 c n x.data.toList (r.map (·.data.toList)) hno (by simpa using hl) s h3.symm,List.map_cons]
 ·intro hl;have hsz:=qzr [c] x.data.toList (r.map (·.data.toList));rw[h3]at hsz;simp only[List.length_map,List.length_cons,List.length_nil,Nat.zero_add,Nat.mul_one,Array.length_toList,ByteArray.size_data]at hsz hl;have e1:min n (s.size+1)-1=n-1:=by omega
  have:=congrArg List.length (qjc c n s);rw[List.length_map,e1,<-h3,qz9 c (n-1) _ _ hno (by simp;omega)]at this;omega
theorem qvk(c:UInt8)(n:Nat)(hn:1<=n)(s:ByteArray)(xs:List ByteArray)(h1:∀x∈xs,c∉x.data.toList)(h2:xs≠[])(h3:Lib.join (xs.map (·.data.toList)) [c]=s.data.toList)(m:Nat)(hm:m<n) :
  (xs.length=m->xL c n s=xs)/\(xs.length≠m->(xL c n s).length≠m):=by
 obtain⟨a,b⟩:=dQ c n hn s xs h1 h2 h3;refine⟨fun h=>a (by omega),fun h=>?_⟩;by_cases hl:xs.length<=n
 ·rw[a hl];exact h
 ·rw[b (by omega)];omega
def kY(c:UInt8):Int:=Lib.indexByte [75,81,107,113] c
def j8:List UInt8->Int->Bool
 | [],_=>true
 | c :: r,last=>decide (last<kY c)&&j8 r (kY c)
theorem fL:∀c:UInt8,-1<=kY c/\kY c<=3:=vg (by decide +kernel)
theorem Az:∀c:UInt8,∀i:Nat,i<4->(kY c=(i:Int)↔c=vn i):=by
 have:∀i:Fin 4,∀c:UInt8,(kY c=((i.val:Nat):Int)↔c=vn i.val):=fun i=>vg (by revert i;decide +kernel)
 intro c i hi;exact this ⟨i,hi⟩ c
theorem bC(c:UInt8)(r:List UInt8):Lib.trimPrefix (c :: r) [c]=r:=by simp[Lib.trimPrefix,Lib.hasPrefix]
theorem qj2{c:UInt8}{l:List UInt8}(h:l.head?≠some c):Lib.trimPrefix l [c]=l:=by
 cases l with
 | nil=>simp[Lib.trimPrefix,Lib.hasPrefix]
 | cons b r =>
  have:b≠c:=fun e=>h (by rw[e];rfl)
  simp[Lib.trimPrefix,Lib.hasPrefix,Ne.symm this]
theorem tB(c:UInt8)(l:List UInt8):Lib.hasPrefix l [c]=decide (l.head?=some c):=by
 cases l with
 | nil=>simp[Lib.hasPrefix]
 | cons b r =>
  by_cases h:b=c
  ·simp[Lib.hasPrefix,h]
  ·have h':¬ c=b:=fun e=>h e.symm
   simp[Lib.hasPrefix,List.isPrefixOf,h,h']
theorem eS{m:List UInt8}{i:Nat}(hi:i<4):j8 m ((i:Int)-1)=j8 (Lib.trimPrefix m [vn i]) (i:Int):=by
 cases m with
 | nil=>rw[qj2 (by simp)];rfl
 | cons b r =>
  by_cases h:b=vn i
  ·subst h;rw[bC];have e:=(Az (vn i) i hi).2 rfl;show(decide ((i:Int)-1<kY (vn i))&&j8 r (kY (vn i)))=_;rw[e,qJ (by omega)];rfl
  ·rw[qj2 (by simpa using h)];have hb:kY b≠(i:Int):=fun e=>h ((Az b i hi).1 e)
   show(decide ((i:Int)-1<kY b)&&j8 r (kY b))=(decide ((i:Int)<kY b)&&j8 r (kY b));congr 1;apply decide_eq_decide.2;omega
theorem mE{m:List UInt8}:∀{last:Int},j8 m last=true->∀c∈m,last<kY c:=by
 induction m with
 | nil=>intro last _ c hc;cases hc
 | cons b r ih =>
  intro last h c hc
  have h':decide (last<kY b)=true/\j8 r (kY b)=true:=by
   have:(decide (last<kY b)&&j8 r (kY b))=true:=h;simpa using this
  have hb:=q8 h'.1;rcases List.mem_cons.1 hc with rfl|hc
  ·exact hb
  ·have:=ih h'.2 c hc;omega
theorem qjf(l:List UInt8):∀i,i<=4->j8 (jN l i) ((i:Int)-1)=j8 l (-1)
 | 0,_=>rfl
 | i+1,hi=>by
   rw[<-qjf l i (by omega),eS (m:=jN l i) (i:=i) (by omega)];show j8 (Lib.trimPrefix (jN l i) [vn i]) (((i+1:Nat):Int)-1)=_;congr 1;omega
theorem Ap(m:List UInt8):j8 m 3=m.isEmpty:=by
 cases m with
 | nil=>rfl
 | cons b r =>
  have:=fL b;show(decide ((3:Int)<kY b)&&j8 r (kY b))=false;rw[qE (by omega)];rfl
theorem eU(l:List UInt8):(jN l 4).isEmpty=j8 l (-1):=by
 rw[<-qjf l 4 (by omega),<-Ap];rfl
theorem bV(l:List UInt8)(k:Nat)(hk:k<4):∀i,i<=k->(vn k∈jN l i↔vn k∈l)
 | 0,_=>Iff.rfl
 | i+1,hi=>by
   rw[<-bV l k hk i (by omega)];show vn k∈Lib.trimPrefix (jN l i) [vn i]↔_;by_cases h:(jN l i).head?=some (vn i)
   ·obtain⟨r,hr⟩:∃r,jN l i=vn i :: r:=by
     cases e:jN l i with
     | nil=>rw[e]at h;simp at h
     | cons b r=>rw[e]at h;simp at h;exact⟨r,by rw[h]⟩
    rw[hr,bC]
    have hne:vn k≠vn i:=fun e=>by
     have h1:=(Az (vn k) k hk).2 rfl;have h2:=(Az (vn k) i (by omega)).2 e;omega
    simp[hne]
   ·rw[qj2 h]
theorem sb(l:List UInt8)(h:j8 l (-1)=true)(i:Nat)(hi:i<4):zW l i=decide (vn i∈l):=by
 unfold zW;rw[tB];apply decide_eq_decide.2;rw[<-bV l i hi i (qL _)];have hr:=qjf l i (by omega);rw[h]at hr;constructor
 ·intro hh;cases e:jN l i with
  | nil=>rw[e]at hh;simp at hh
  | cons b r=>rw[e]at hh;simp at hh;rw[hh];simp
 ·intro hm;cases e:jN l i with
  | nil=>rw[e]at hm;cases hm
  | cons b r =>
   rw[e]at hm hr;by_cases hb:b=vn i
   ·rw[hb];rfl
   ·rcases List.mem_cons.1 hm with h1|h1
    ·exact absurd h1.symm hb
    ·have h2:decide ((i:Int)-1<kY b)=true/\j8 r (kY b)=true:=by
      have:(decide ((i:Int)-1<kY b)&&j8 r (kY b))=true:=hr;simpa using this
     have h3:=q8 h2.1;have h4:=mE h2.2 _ h1;rw[(Az (vn i) i hi).2 rfl]at h4;omega
section
noncomputable def gq:Array Value:=put 69 #[.int .i64 (-1)] Tryz.zeroCells70
theorem CZ:Tryz.prog.built 70 [(3,.int .i64 (-1))]=some gq:=by
 rw[wD,xv _ _ 3 69 1 _ _ rfl rfl (by rw[xF];decide)];rfl
theorem AE:Tryz.zeroCells70.toList.take 64=List.replicate 64 (.int .u8 0):=by kernel_rfl
theorem AK:Tryz.zeroCells70[65]?=some (.bool false):=by kernel_rfl
theorem AJ:Tryz.zeroCells70[66]?=some (.bool false):=by kernel_rfl
theorem AI:Tryz.zeroCells70[67]?=some (.bool false):=by kernel_rfl
theorem AG:Tryz.zeroCells70[68]?=some (.bool false):=by kernel_rfl
theorem rI:jE (fun _=>0) false (fun _=>false) 0 0 0 Tryz.zeroCells70:=by
 refine⟨xF,fun i hi=>?_,by kernel_rfl,fun i hi=>?_,by kernel_rfl,by kernel_rfl,by kernel_rfl⟩
 ·have h:=congrArg (fun l=>l[i]?) AE;simp only[List.getElem?_take,qI hi,List.getElem?_replicate,qO]at h;rw[h];rfl
 ·have:i=0\/i=1\/i=2\/i=3:=by omega
  rcases this with rfl|rfl|rfl|rfl
  ·exact AK
  ·exact AJ
  ·exact AI
  ·exact AG
section
variable {z:Nat->UInt8}{wh:Bool}{f:Nat->Bool}{b h g:Int}{PA:Array Value}
theorem qz{PA:Array Value}{i j:Nat}{v:Value}(h:i≠j):(PA.setIfInBounds i v)[j]?=PA[j]?:=by
 rw[Array.getElem?_setIfInBounds,qF h]
theorem FG{PA:Array Value}{i:Nat}{v:Value}(h:i<PA.size):(PA.setIfInBounds i v)[i]?=some v:=by
 rw[Array.getElem?_setIfInBounds,qI rfl,qI h]
theorem jE.setSq(r:jE z wh f b h g PA)(i:Nat)(hi:i<64)(c:UInt8):jE (fun j=>if j=i then c else z j) wh f b h g (PA.setIfInBounds i (.int .u8 (c.toNat:Int))):=by
 refine⟨by rw[Array.size_setIfInBounds];exact r.size,fun j hj=>?_,?_,fun j hj=>?_,?_,?_,?_⟩
 ·by_cases e:j=i
  ·subst e;rw[FG (by rw[r.size];omega),qI rfl]
  ·rw[qz (fun h=>e h.symm),qF e];exact r.sq j hj
 ·rw[qz (by omega)];exact r.wh
 ·rw[qz (by omega)];exact r.c j hj
 ·rw[qz (by omega)];exact r.b
 ·rw[qz (by omega)];exact r.h
 ·rw[qz (by omega)];exact r.g
theorem jE.setWh(r:jE z wh f b h g PA)(x:Bool):jE z x f b h g (PA.setIfInBounds 64 (.bool x)):=by
 refine⟨by rw[Array.size_setIfInBounds];exact r.size,fun j hj=>?_,FG (by rw[r.size];omega),fun j hj=>?_,?_,?_,?_⟩
 ·rw[qz (by omega)];exact r.sq j hj
 ·rw[qz (by omega)];exact r.c j hj
 ·rw[qz (by omega)];exact r.b
 ·rw[qz (by omega)];exact r.h
 ·rw[qz (by omega)];exact r.g
theorem jE.setC(r:jE z wh f b h g PA)(i:Nat)(hi:i<4)(x:Bool):jE z wh (fun j=>if j=i then x else f j) b h g (PA.setIfInBounds (65+i) (.bool x)):=by
 refine⟨by rw[Array.size_setIfInBounds];exact r.size,fun j hj=>?_,?_,fun j hj=>?_,?_,?_,?_⟩
 ·rw[qz (by omega)];exact r.sq j hj
 ·rw[qz (by omega)];exact r.wh
 ·by_cases e:j=i
  ·subst e;rw[FG (by rw[r.size];omega),qI rfl]
  ·rw[qz (by omega),qF e];exact r.c j hj
 ·rw[qz (by omega)];exact r.b
 ·rw[qz (by omega)];exact r.h
 ·rw[qz (by omega)];exact r.g
theorem jE.setB(r:jE z wh f b h g PA)(x:Int):jE z wh f x h g (PA.setIfInBounds 69 (.int .i64 x)):=by
 refine⟨by rw[Array.size_setIfInBounds];exact r.size,fun j hj=>?_,?_,fun j hj=>?_,FG (by rw[r.size];omega),?_,?_⟩
 ·rw[qz (by omega)];exact r.sq j hj
 ·rw[qz (by omega)];exact r.wh
 ·rw[qz (by omega)];exact r.c j hj
 ·rw[qz (by omega)];exact r.h
 ·rw[qz (by omega)];exact r.g
theorem jE.setH(r:jE z wh f b h g PA)(x:Int):jE z wh f b x g (PA.setIfInBounds 70 (.int .i64 x)):=by
 refine⟨by rw[Array.size_setIfInBounds];exact r.size,fun j hj=>?_,?_,fun j hj=>?_,?_,FG (by rw[r.size];omega),?_⟩
 ·rw[qz (by omega)];exact r.sq j hj
 ·rw[qz (by omega)];exact r.wh
 ·rw[qz (by omega)];exact r.c j hj
 ·rw[qz (by omega)];exact r.b
 ·rw[qz (by omega)];exact r.g
theorem jE.setG(r:jE z wh f b h g PA)(x:Int):jE z wh f b h x (PA.setIfInBounds 71 (.int .i64 x)):=by
 refine⟨by rw[Array.size_setIfInBounds];exact r.size,fun j hj=>?_,?_,fun j hj=>?_,?_,?_,FG (by rw[r.size];omega)⟩
 ·rw[qz (by omega)];exact r.sq j hj
 ·rw[qz (by omega)];exact r.wh
 ·rw[qz (by omega)];exact r.c j hj
 ·rw[qz (by omega)];exact r.b
 ·rw[qz (by omega)];exact r.h
end
theorem pr:jE (fun _=>0) false (fun _=>false) (-1) 0 0 gq:=by
 have e:gq=Tryz.zeroCells70.setIfInBounds 69 (.int .i64 (-1)):=by
  apply Array.ext_getElem?;intro i;unfold gq;rw[(zo 69 #[.int .i64 (-1)] Tryz.zeroCells70).2 i (by rw[xF];decide),Array.getElem?_setIfInBounds];by_cases h:i=69
  ·subst h;rw[qI ⟨qL _,by decide⟩,qI rfl,qI (by rw[xF];decide)];rfl
  ·rw[qF (by simp;omega),qF (by omega)]
 rw[e];exact rI.setB (-1)
end
section
attribute [local go_sem] qd qe
theorem C1{base:Nat}{v:Value}{xs:List ByteArray}{w:World}(h:yt base v xs w)(hne:xs≠[]):∃gw cap,v=.slice (some ⟨gw,0,none⟩) xs.length cap/\base<=gw/\xs.length<=cap/\Wd gw xs w:=by
 rcases h.2 with⟨_,hn⟩|⟨g,cap,cur,rfl,hg,hh,hn,hc,hs,ht⟩
 ·exact absurd (List.length_eq_zero_iff.1 hn) hne
 ·refine⟨g,cap,rfl,hg,hn,(qB.1 hh).1,fun j hj=>?_⟩;rw[cell_of_row _ _ _ _ _ _ hh,<-qO];have:=congrArg (fun l=>l[j]?) ht;simp only[List.getElem?_take,Nat.mul_one,qI hj,List.getElem?_map,List.getElem?_eq_getElem hj]at this;exact this
theorem Ag{W:World}{b i:Nat}{cs:Array Value}{t:TypeId}{v:Value}(h:W.heap[b]?=some (.cells cs t)):(W.setCell ⟨b,i,none⟩ v).heap[b]?=some (.cells (cs.setIfInBounds i v) t):=by
 have hb:=(qB.1 h).1;have h':W.heap[b]=.cells cs t:=(qB.1 h).2;simp[World.setCell,hb,Array.getElem_modify,h']
structure Fo(w:World)(bp:Nat)(PA:Array Value)(cur:World):Prop where
 res:cur.heap[w.heap.size]?=some (.cells Tryz.zeroCells70 70)
 p:cur.heap[bp]?=some (.cells PA 70)
 ne:w.heap.size<bp
 lp:bp<cur.heap.size
 gr:Gr w cur
theorem Fo.next{w cur cur':World}{bp:Nat}{PA:Array Value}(h:Fo w bp PA cur)(g:Gr cur cur'):Fo w bp PA cur' :=
 ⟨by rw[Below.block g _ (Nat.lt_trans h.ne h.lp)];exact h.res,by rw[Below.block g _ h.lp];exact h.p,h.ne,qN h.lp (Below.size g),Gr.trans h.gr g⟩
theorem Fo.put{w cur:World}{bp:Nat}{PA:Array Value}(h:Fo w bp PA cur)(i:Nat)(v:Value):Fo w bp (PA.setIfInBounds i v) (cur.setCell ⟨bp,i,none⟩ v) :=
 ⟨by rw[Below.heap_setCell cur ⟨bp,i,none⟩ v w.heap.size (Nat.ne_of_lt h.ne)];exact h.res,Ag h.p,h.ne,by rw[World.size_setCell];exact h.lp,Below.setCell h.gr (Nat.le_of_lt h.ne) v⟩
theorem Fo.cell{w cur:World}{bp:Nat}{PA:Array Value}(h:Fo w bp PA cur){i:Nat}{v:Value}(hv:PA[i]?=some v):cur.cell? ⟨bp,i,none⟩=some v:=by
 rw[cell_of_row _ _ _ _ _ _ h.p];exact hv
theorem Fo.soft{w cur:World}{bp:Nat}{PA:Array Value}(h:Fo w bp PA cur)(i:Nat):cur.frozen? ⟨bp,i,none⟩=false:=by
 unfold World.frozen?;rw[h.p];simp
def kT(s:ByteArray)(e:Ending):Prop :=
 (∃p,xG s=some p/\e=.returned (.tuple #[.agg (jV p),.bool true]))\/(xG s=none/\∃A:Array Value,A.size=72/\A.all (·.oneCell')=true/\e=.returned (.tuple #[.agg A,.bool false]))
theorem rV{s:ByteArray}(h:(xL 32 7 s).length≠6):xG s=none:=by
 unfold xG;split
 ·rename_i hw;rw[hw]at h;exact absurd rfl h
 ·rfl
theorem rW{s x0 x1 x2 x3 x4 x5:ByteArray}(h:xL 32 7 s=[x0,x1,x2,x3,x4,x5]):xG s=Ac x0 x1 x2 x3 x4 x5:=by
 unfold xG;rw[h]
structure HN(w:World)(bp:Nat)(PA:Array Value)(cur:World)(z:Nat->UInt8)(wt:Bool)(ys:List ByteArray)(k:Nat)(rs:List (List Int)):Prop where
 fo:Fo w bp PA cur
 row:jE z wt (fun _=>false) (-1) 0 0 PA
 rk:jK (ys.take k)=some rs
 at':∀i f,i<k->f<8->∃r,rs[i]?=some r/\r[f]?=some ((z (8*(7-i)+f)).toNat:Int)
structure DR(w:World)(bp:Nat)(PA:Array Value)(cur:World)(z z':Nat->UInt8)(wt:Bool)(zs:List UInt8)(k j rb:Nat)(t:TypeId):Prop where
 fo:Fo w bp PA cur
 row:jE z' wt (fun _=>false) (-1) 0 0 PA
 rb:cur.heap[rb]?=some (.cells (zs.map (fun c=>Value.int .u8 (c.toNat:Int))).toArray t)
 new:∀f,f<j->zs[f]?=some (z' (8*(7-k)+f))
 old:∀m,m<8*(7-k)\/8*(7-k)+8<=m->z' m=z m
theorem DR.rcell{w cur:World}{bp k j rb:Nat}{PA:Array Value}{z z':Nat->UInt8}{wt:Bool}{zs:List UInt8}{t:TypeId}(h:DR w bp PA cur z z' wt zs k j rb t)(hj:j<zs.length):cur.cell? ⟨rb,j,none⟩=some (.int .u8 ((zs[j]).toNat:Int)):=by
 rw[cell_of_row _ _ _ _ _ _ h.rb];simp[hj]
theorem DR.step{w cur:World}{bp k j rb:Nat}{PA:Array Value}{z z':Nat->UInt8}{wt:Bool}{zs:List UInt8}{t:TypeId}(h:DR w bp PA cur z z' wt zs k j rb t)(hj:j<zs.length)(hj8:j<8)(hk:k<8)(hn:rb≠bp):DR w bp (PA.setIfInBounds (8*(7-k)+j) (.int .u8 ((zs[j]).toNat:Int))) (cur.setCell ⟨bp,8*(7-k)+j,none⟩ (.int .u8 ((zs[j]).toNat:Int))) z (fun m=>if m=8*(7-k)+j then zs[j]else z' m) wt zs k (j+1) rb t:=by
 refine⟨h.fo.put _ _,h.row.setSq _ (by omega) _,?_,fun f hf=>?_,fun m hm=>?_⟩
 ·rw[Below.heap_setCell cur ⟨bp,_,none⟩ _ rb hn];exact h.rb
 ·by_cases e:f=j
  ·subst e;rw[qI rfl];simp[hj]
  ·rw[qF (by omega)];exact h.new f (by omega)
 ·rw[qF (by omega)];exact h.old m hm
theorem DR.done{w cur cur':World}{bp k rb:Nat}{PA PA':Array Value}{z z':Nat->UInt8}{wt:Bool}{zs:List UInt8}{t:TypeId}{ys:List ByteArray}{rs:List (List Int)}(h:DR w bp PA' cur' z z' wt zs k 8 rb t)(hb:HN w bp PA cur z wt ys k rs)(hk:k<ys.length)(hk8:k<8)(hr:jL ys[k].data.toList=some (nI zs)):∃rs',HN w bp PA' cur' z' wt ys (k+1) rs':=by
 have hl:rs.length=k:=by have:=(jg _ _ hb.rk).2;rw[List.length_take]at this;omega
 refine⟨rs++[nI zs],h.fo,h.row,?_,fun i f hi hf=>?_⟩
 ·rw[List.take_succ_eq_append_getElem hk,uJ,hb.rk,hr]
 ·by_cases e:i=k
  ·subst e;refine⟨nI zs,by rw[<-hl];simp,?_⟩;unfold nI;rw[List.getElem?_map,h.new f hf];rfl
  ·obtain⟨r,h1,h2⟩:=hb.at' i f (by omega) hf;refine⟨r,by rw[List.getElem?_append_left (by omega)];exact h1,?_⟩;rw[h2,h.old (8*(7-i)+f) (by omega)]
theorem nN{x:ByteArray}(h:(xL 47 9 x).length≠8):(j7 x).isSome=false:=by
 unfold j7;rw[qF h];rfl
theorem mJ{ys:List ByteArray}{k:Nat}(hk:k<ys.length)(hn:jL ys[k].data.toList=none):jK ys=none:=by
 induction ys generalizing k with
 | nil=>exact absurd hk (Nat.not_lt_zero _)
 | cons y r ih =>
  cases k with
  | zero=>unfold jK;rw[show jL y.data.toList=none from hn]
  | succ k =>
   have:=ih (k:=k) (by simpa using hk) (by simpa using hn);unfold jK;rw[this];cases jL y.data.toList<;>rfl
theorem nP{x:ByteArray}{ys:List ByteArray}{k:Nat}(h:xL 47 9 x=ys)(hk:k<ys.length)(hn:jL ys[k].data.toList=none):(j7 x).isSome=false:=by
 subst h;unfold j7;split
 ·rw[mJ hk hn];rfl
 ·rfl
end
def yR(l:List UInt8):Nat->Int
 | 0=>-1
 | k+1=>match l[k]? with
  | some c=>kY c
  | none=>-1
theorem lF(l:List UInt8)(k:Nat)(c:UInt8)(h:l[k]?=some c):yR l (k+1)=kY c:=by
 show(match l[k]? with|some c=>kY c|none=>-1)=kY c;rw[h]
theorem CJ(l:List UInt8)(k:Nat)(c:UInt8)(h:l[k]?=some c):l.drop k=c :: l.drop (k+1):=by
 obtain⟨hk,rfl⟩:=List.getElem?_eq_some_iff.1 h;exact List.drop_eq_getElem_cons hk
theorem rO(l:List UInt8)(k:Nat)(c:UInt8)(h:l[k]?=some c):j8 (l.drop k) (yR l k)=(decide (yR l k<kY c)&&j8 (l.drop (k+1)) (yR l (k+1))):=by
 rw[CJ l k c h,lF l k c h];rfl
theorem CO{c:UInt8}(h:kY c<0)(i:Nat)(hi:i<4):c≠vn i:=fun e=>by
 have:=(Az c i hi).2 e;omega
theorem CN{c:UInt8}(h:0<=kY c):∃j:Nat,j<4/\kY c=(j:Int)/\c=vn j:=by
 have:=fL c;obtain⟨j,hj⟩:∃j:Nat,kY c=(j:Int):=⟨(kY c).toNat,by omega⟩;have hj4:j<4:=by omega
 exact⟨j,hj4,hj,(Az c j hj4).1 hj⟩
theorem qv6(l:List UInt8)(k:Nat)(c d:UInt8)(h:l[k]?=some c):d∈l.take (k+1)↔d∈l.take k\/d=c:=by
 obtain⟨hk,rfl⟩:=List.getElem?_eq_some_iff.1 h;rw[List.take_succ_eq_append_getElem hk,List.mem_append,qT]
def yq(l:List UInt8)(k:Nat)(i:Nat):Bool:=decide (vn i∈l.take k)
theorem Am{z:Nat->UInt8}{wh:Bool}{f:Nat->Bool}{b h g:Int}{PA PB:Array Value}(r:jE z wh f b h g PA)(q:jE z wh f b h g PB):PA=PB:=by
 apply Array.ext_getElem?;intro i;by_cases h0:i<64
 ·rw[r.sq i h0,q.sq i h0]
 ·by_cases h1:i<72
  ·have:i=64\/i=65+0\/i=65+1\/i=65+2\/i=65+3\/i=69\/i=70\/i=71:=by omega
   rcases this with rfl|rfl|rfl|rfl|rfl|rfl|rfl|rfl
   ·rw[r.wh,q.wh]
   ·rw[r.c 0 (by omega),q.c 0 (by omega)]
   ·rw[r.c 1 (by omega),q.c 1 (by omega)]
   ·rw[r.c 2 (by omega),q.c 2 (by omega)]
   ·rw[r.c 3 (by omega),q.c 3 (by omega)]
   ·rw[r.b,q.b]
   ·rw[r.h,q.h]
   ·rw[r.g,q.g]
  ·rw[Array.getElem?_eq_none (by rw[r.size];omega),Array.getElem?_eq_none (by rw[q.size];omega)]
theorem jE.casNo{z:Nat->UInt8}{wh:Bool}{b h g:Int}{PA:Array Value}{l:List UInt8}{k:Nat}{c:UInt8}(r:jE z wh (yq l k) b h g PA)(hc:l[k]?=some c)(hn:kY c<0):jE z wh (yq l (k+1)) b h g PA :=
 r.congr (fun _ _=>rfl) (fun i hi=>by
  unfold yq;apply decide_eq_decide.2;rw[qv6 l k c _ hc];have:=CO hn i hi;constructor
  ·exact .inl
  ·rintro(h|h)
   ·exact h
   ·exact absurd h.symm this)
theorem jE.casYes{z:Nat->UInt8}{wh:Bool}{b h g:Int}{PA:Array Value}{l:List UInt8}{k j:Nat}(r:jE z wh (yq l k) b h g PA)(hj:j<4)(hc:l[k]?=some (vn j)):jE z wh (yq l (k+1)) b h g (PA.setIfInBounds (65+j) (.bool true)) :=
 (r.setC j hj true).congr (fun _ _=>rfl) (fun i hi=>by
  unfold yq;by_cases e:i=j
  ·subst e;rw[qI rfl,eq_comm,qG,qv6 l k _ _ hc];exact .inr rfl
  ·rw[qF e];apply decide_eq_decide.2;rw[qv6 l k _ _ hc]
   have:vn i≠vn j:=fun h=>by
    have h1:=(Az (vn i) i hi).2 rfl;have h2:=(Az (vn i) j hj).2 h;omega
   constructor
   ·exact .inl
   ·rintro(h|h)
    ·exact h
    ·exact absurd h this)
theorem DJ:∀(L:List (List Int)),yw L->∀i f,f<8->L.flatten[8*i+f]?=(L[i]?).bind (·[f]?)
 | [],_,i,f,_=>by simp
 | r :: t,h,i,f,hf=>by
   have hr:r.length=8:=h r (by simp);cases i with
   | zero=>rw[List.flatten_cons,List.getElem?_append_left (by omega)];simp
   | succ i =>
    rw[List.flatten_cons,List.getElem?_append_right (by omega),hr,show 8*(i+1)+f-8=8*i+f from by omega,DJ t (fun x hx=>h x (by simp[hx])) i f hf];simp
theorem HN.board{w cur:World}{bp:Nat}{PA:Array Value}{z:Nat->UInt8}{wt:Bool}{ys:List ByteArray}{rs:List (List Int)}{x:ByteArray}(hb:HN w bp PA cur z wt ys 8 rs)(hw:xL 47 9 x=ys)(h8:ys.length=8) :
  ∃b,j7 x=some b/\∀i,i<64->b[i]?=some ((z i).toNat:Int):=by
 have hrk:=hb.rk;rw[List.take_of_length_le (by omega)]at hrk;obtain⟨he,hl⟩:=jg _ _ hrk;refine⟨rs.reverse.flatten,by unfold j7;rw[hw,qI h8,hrk],fun i hi=>?_⟩;have hfl:=DJ rs.reverse (fun r hr=>he r (List.mem_reverse.1 hr)) (i/8) (i%8) (by omega);rw[show 8*(i/8)+i%8=i from by omega]at hfl;rw[hfl,List.getElem?_reverse (by omega),hl,h8];obtain⟨r,h1,h2⟩:=hb.at' (7-i/8) (i%8) (by omega) (by omega);rw[show 8-1-i/8=7-i/8 from by omega,h1];rw[show 8*(7-(7-i/8))+i%8=i from by omega]at h2;exact h2
theorem cF(l:List UInt8):vS l=if l=[45]then some (fun _=>false)else if !l.isEmpty&&j8 l (-1)then some (zW l)else none:=by
 unfold vS;rw[eU]
theorem ti{l:List UInt8}(h1:l≠[45])(h2:j8 l (-1)=false):(vS l).isSome=false:=by
 rw[cF,qF h1,h2];simp
theorem tf:(vS []).isSome=false:=by rw[cF];rfl
theorem nD{l:List UInt8}(h0:l≠[])(h:l=[45]\/j8 l (-1)=true):∃c,vS l=some c/\∀i,i<4->yq l l.length i=c i:=by
 rw[cF];by_cases h1:l=[45]
 ·subst h1;refine⟨_,rfl,fun i hi=>?_⟩;have:i=0\/i=1\/i=2\/i=3:=by omega
  rcases this with rfl|rfl|rfl|rfl<;>rfl
 ·have h2:=h.resolve_left h1;rw[qF h1,h2];refine⟨zW l,by cases l with|nil=>exact absurd rfl h0|cons a r=>rfl,fun i hi=>?_⟩;rw[sb l h2 i hi];unfold yq;rw[List.take_length]
theorem bn{l:List UInt8}(h:0<=kV l):∃n:Nat,vR l=some n/\kV l=(n:Int):=by
 revert h;unfold kV
 cases vR l with
 | none=>intro h;exact absurd h (by decide)
 | some n=>intro _;exact⟨n,rfl,rfl⟩
theorem tG{s x0 x1 x2 x3 x4 x5:ByteArray}{z:Nat->UInt8}{wt:Bool}{b:Int}{PA:Array Value}(hr:xG s=Ac x0 x1 x2 x3 x4 x5)(hb:∃b,j7 x0=some b/\∀i,i<64->b[i]?=some ((z i).toNat:Int))(hs:kO x1=some wt)
  (h0:x2.data.toList≠[]) (hc:x2.data.toList=[45]\/j8 x2.data.toList (-1)=true) (hbe:v8 x3=some b) (h4:0<=kV x4.data.toList) (h5:0<=kV x5.data.toList)
  (row:jE z wt (yq x2.data.toList x2.data.toList.length) b (kV x4.data.toList) (kV x5.data.toList) PA):∃p,xG s=some p/\PA=jV p:=by
 obtain⟨B,hB,hz⟩:=hb;obtain⟨c,hc1,hc2⟩:=nD h0 hc;obtain⟨n4,e4,g4⟩:=bn h4;obtain⟨n5,e5,g5⟩:=bn h5;rw[g4,g5]at row
 have hp:xG s=some ⟨B,wt,c,b,(n4:Int),(n5:Int)⟩:=by
  rw[hr];unfold Ac;rw[hB,hs,hc1,hbe,e4,e5]
 refine⟨_,hp,?_⟩;have hq:=jo hp;refine Am (row.congr (fun i hi=>?_) hc2) hq;have h1:=hq.sq i hi;obtain⟨U,u1,u2,_⟩:=FM s _ hp;obtain⟨a1,a2⟩:=qzx u1 u2;have:=a2 i hi;rw[List.getElem?_toArray,List.getElem?_map,hz i hi]at this;simp only[Option.map_some,Option.some.injEq,Value.int.injEq,true_and]at this;exact q6.1 (by omega)
theorem iw{l:List UInt8}(h:¬ 0<=kV l):(vR l).isSome=false:=by
 revert h;unfold kV
 cases vR l with
 | none=>intro _;rfl
 | some n=>intro h;exact absurd (Int.natCast_nonneg n) h
def HI(bp gw:Nat)(PA:Array Value)(x:ByteArray)(h g:Int)(w:World):Prop:=zJ bp PA w/\w.cell? ⟨gw,2,none⟩=some (.string x)/\w.cell? ⟨bp,70,none⟩=some (.int .i64 h)/\w.cell? ⟨bp,71,none⟩=some (.int .i64 g)
theorem Et{x:ByteArray}{b:Int}(h:x.toList≠[45])(hb:dJ x=b):if 0<=b then v8 x=some b else(v8 x).isSome=false:=by
 subst hb;unfold v8 dJ;rw[qF h];cases uX x with
 | none=>rw[qF (by decide)];rfl
 | some n=>rw[qI (Int.natCast_nonneg n)];rfl
theorem qvf{W:World}{b j:Nat}{cs:Array Value}(h:j≠b):(W.setRow b cs).heap[j]?=W.heap[j]?:=by
 unfold World.setRow;show(W.heap.modify b _)[j]?=_;rw[Array.getElem?_modify,qF (fun e=>h e.symm)]
theorem HI.far{bp gw:Nat}{PA:Array Value}{x:ByteArray}{h g:Int}{W:World}{b:Nat}{cs:Array Value}(s:HI bp gw PA x h g W)(h1:b<bp)(h2:gw≠b):HI bp gw PA x h g (W.setRow b cs):=by
 obtain⟨⟨a1,a2⟩,a3,a4,a5⟩:=s;have e1:∀i,(W.setRow b cs).cell? ⟨bp,i,none⟩=W.cell? ⟨bp,i,none⟩:=fun i=>World.cell?_of_block (qvf (Ne.symm (Nat.ne_of_lt h1)))
 have e2:∀i,(W.setRow b cs).cell? ⟨gw,i,none⟩=W.cell? ⟨gw,i,none⟩:=fun i=>World.cell?_of_block (qvf h2)
 refine⟨⟨by rw[size_setRow];exact a1,fun j v hv=>?_⟩,by rw[e2];exact a3,by rw[e1];exact a4,by rw[e1];exact a5⟩;rw[e1];exact a2 j v hv
section
attribute [local go_sem] qd qe
theorem mZ(f t:Nat)(hf:f<64)(ht:t<64)(u:UInt8)(w:World):Calls Tryz.prog 55 #[.agg #[.int .i64 (f:Int),.int .i64 (t:Int),.int .u8 (u.toNat:Int)]] w fun e w'=>e=.returned (.string (xJ (uY f t u)))/\Gr w w':=by
 obtain⟨nm,hnm⟩:∃nm:Nat->ByteArray,Hid (∀n,nm n=xJ (xQ n)):=⟨fun n=>xJ (xQ n),qC (fun _=>rfl)⟩;have hN:Hid (∀n:Nat,n<64->∀W,Calls Tryz.prog 110 #[.int .i64 (n:Int)] W fun e w'=>e=.returned (.string (nm n))/\Gr W w'):=qC (fun n h W=>by rw[qa hnm];exact qxo n h W);go_enter Tryz.func55,Tryz.ntmps55;have hsum:Hid (xJ (uY f t u)=xJ (xQ f++xQ t)++xJ (if u=0 then[]else[u])):=qC (by rw[F6];rfl);have hs2:(xJ (xQ f++xQ t)).size=4:=rfl;obtain⟨S2,hS2⟩:∃x,Hid (x=xJ (xQ f++xQ t)):=⟨_,qC rfl⟩
 have f1:∀W:World,(Op.stringOp .add (nm f) (nm t)).run Tryz.prog W=.ok (.string S2) W:=fun W=>by
  rw[qa hS2,<-F6,<-qa hnm,<-qa hnm];exact run_string_add_sum W _ _ (by rw[qa hnm,qa hnm];show 2+2<=_;decide)
 rw[<-qa hS2]at hs2 hsum;clear hS2 hnm;go_wp2_with fail;have hin:Hid (∀w',Gr (w.alloc (.cells #[.int .i64 (f:Int),.int .i64 (t:Int),.int .u8 (u.toNat:Int)] 125)) w'->_):=qC (fun w' g=>sO g);have hg0:Gr w (w.alloc (.cells #[.int .i64 (f:Int),.int .i64 (t:Int),.int .u8 (u.toNat:Int)] 125)):=Below.alloc (Below.refl _ w) (qL _) _;have hg0':=qC hg0;clear hg0;generalize w.alloc (.cells #[.int .i64 (f:Int),.int .i64 (t:Int),.int .u8 (u.toNat:Int)] 125)=w1 at hin hg0' ⊢;go_region_held3 (fun w'=>Gr w1 w'/\w'.cell? ⟨w.heap.size,0,none⟩=some (.int .i64 (f:Int))/\w'.cell? ⟨w.heap.size,1,none⟩=some (.int .i64 (t:Int))/\w'.cell? ⟨w.heap.size,2,none⟩=some (.int .u8 (u.toNat:Int))) (first|exact qa hin _ (Gr.refl _).drew|exact qa hin _ (by assumption)) (first|(go_at_call 110;refine(qa hN _ (by omega) _).mono ?_;rintro e w' ⟨rfl,hg⟩;have hg2:=Gr.trans (vy (by assumption)) hg));rename_i hH;obtain⟨hgr,c0,c1,c2⟩:=hH;have hgw:Hid (Gr w w'):=qC (Gr.trans (qa hg0') hgr);clear hin hg0' hgr hg hg2 f1 hN;by_cases hu:u=0
 ·subst hu;have he:Hid (xJ (uY f t 0)=S2):=qC (by rw[qa hsum,qI rfl];apply ByteArray.ext;simp[xJ]);clear hsum;go_wp2_with fail;go_ret;exact⟨by rw[qa he];rfl,qa hgw⟩
 ·have hn:((u.toNat:Int) != 0)=true:=qU.2 (fun e=>hu (q6.1 (by simpa using e)));have he:Hid (xJ (uY f t u)=S2++(⟨#[u]⟩:ByteArray)):=qC (by rw[qa hsum,qF hu];rfl);have f2:∀W:World,(Op.stringOp .add S2 (⟨#[u]⟩:ByteArray)).run Tryz.prog W=.ok (.string (S2++(⟨#[u]⟩:ByteArray))) W:=fun W=>run_string_add_sum W S2 _ (by show S2.size+1<=_;rw[hs2];decide)
  have hcv:=qq4 (w'.alloc (.cells #[.int .u8 (u.toNat:Int)] 5)) ⟨w'.heap.size,0,none⟩ 1 [u] (by
   intro i hi;rw[Addr.add_lit,Nat.zero_add,World.cell?_alloc_at _ _ _ _ rfl];have:i=0:=by simp at hi;omega
   subst this;rfl)
  have hcv':(convert 145 9 (.slice (some ⟨w'.heap.size,0,none⟩) 1 1)).run Tryz.prog (w'.alloc (.cells #[.int .u8 (u.toNat:Int)] 5))=.ok (.string ⟨#[u]⟩) (w'.alloc (.cells #[.int .u8 (u.toNat:Int)] 5)):=hcv;clear hsum hu hcv;go_wp2_with fail;go_ret;exact⟨by rw[qa he];rfl,Gr.alloc (qa hgw) _ _⟩
end
section
attribute [local go_sem] qd qe Oper.semAt_some
instance:Inhabited Mo:=⟨⟨(0,0,0),by decide,by decide⟩⟩
end
end Go.Proofs.YtnfakamfmkhlbabGreatDoor.C
