import Derived.Test.YtnfakamfmkhlbaaGreatDoorProg
import Derived.Test.YtnfakamfmkhlbaaGreatDoorZx1
import Derived.Test.YtnfakamfmkhlbaaGreatDoorShp
import Derived.WalkKit
import Derived.ProofKit
import Derived.OpenShut
import Derived.Outline
import Derived.WalkLawsBesides
import Derived.LoopTactic
import Derived.Deep.LoopGhost
import Derived.Deep.QuietTactic
import Derived.BigQuiet
import Derived.Below
import Derived.Laws.Rows
import Derived.Deep.Draws
set_option maxRecDepth 100000
set_option maxHeartbeats 4000000
set_option linter.unusedSimpArgs false
namespace Go.Proofs.YtnfakamfmkhlbaaGreatDoor.C
open Go.ChangeShapes Go.WideShapes Go.ChangeAt Go.RowKit
theorem ret2_int {k:IntKind} {a b:Int} {v:Value} (h:a=b):Ending.returned (.tuple #[.int k a,v])=.returned (.tuple #[.int k b,v]):=by rw [h]
theorem side_any (s:ByteArray) (w:World):Calls Tryz.prog 69 #[.string s] w fun e w'=>e=.returned (.tuple #[.bool (s.toList==[119]),.bool (s.toList==[119]||s.toList==[98])])/\w'=w:=by
 by_cases h:s.toList=[119]
 ·have e1:(s.toList==[119])=true:=by simpa using h
  rw [e1];go_enter Tryz.func69,Tryz.ntmps69;go_wp2;go_ret2;exact ⟨rfl,rfl⟩
 ·have e1:(s.toList==[119])=false:=by simpa using h
  rw [e1];go_enter Tryz.func69,Tryz.ntmps69;go_wp2;go_ret2;exact ⟨rfl,rfl⟩
def sqS (s:ByteArray):Option Nat :=
 if h:s.size=2 then
  if 97<=s[0].toNat/\s[0].toNat<=104/\49<=s[1].toNat/\s[1].toNat<=56 then some (s[0].toNat-97+8*(s[1].toNat-49)) else none
 else none
theorem square_no (s:ByteArray) (h:sqS s=none) (w:World):Calls Tryz.prog 136 #[.string s] w fun e w'=>e=.returned (.tuple #[.int .i64 0,.bool false])/\w'=w:=by
 unfold sqS at h;have hh:=hide h;clear h;by_cases h2:s.size=2
 ·have hc:¬ (97<=s[0].toNat/\s[0].toNat<=104/\49<=s[1].toNat/\s[1].toNat<=56):=by
   intro g;have:=qa hh;rw [dif_pos h2,if_pos g] at this;exact absurd this (by simp)
  clear hh;have hc':=hide hc;clear hc;go_enter Tryz.func136,Tryz.ntmps136;go_wp2
  all_goals first|(go_ret2;exact ⟨rfl,rfl⟩)|(exfalso;have:=qa hc';simp at *;omega)
 ·clear hh;go_enter Tryz.func136,Tryz.ntmps136;go_wp2;go_ret2;exact ⟨rfl,rfl⟩
theorem qjj (s:ByteArray) (n:Nat) (h:sqS s=some n) (w:World):Calls Tryz.prog 136 #[.string s] w fun e w'=>e=.returned (.tuple #[.int .i64 n,.bool true])/\Gr w w':=by
 unfold sqS at h;by_cases h2:s.size=2
 ·rw [dif_pos h2] at h;by_cases hc:97<=s[0].toNat/\s[0].toNat<=104/\49<=s[1].toNat/\s[1].toNat<=56
  ·rw [if_pos hc] at h;obtain ⟨c1,c2,c3,c4⟩:=hc;have hn:Hid (s[0].toNat-97+8*(s[1].toNat-49)=n):=hide (by simpa using h);clear h;go_enter Tryz.func136,Tryz.ntmps136;go_wp2;go_region
   all_goals
    go_wp2;go_ret2;exact ⟨ret2_int (by have:=qa hn;omega),(Gr.refl _).drew⟩
  ·rw [if_neg hc] at h;exact absurd h (by simp)
 ·rw [dif_neg h2] at h;exact absurd h (by simp)
def natI:Option Nat->Option Int
 | some n=>some (n:Int)
 | none=>none
def behS (s:ByteArray):Option Int:=if s.toList=[45] then some (-1) else natI (sqS s)
theorem behind_any (s:ByteArray) (w:World):Calls Tryz.prog 71 #[.string s] w fun e w'=>(∃ v:Int,e=.returned (.tuple #[.int .i64 v,.bool (behS s).isSome])/\∀ n,behS s=some n->v=n)/\Gr w w':=by
 by_cases h:s.toList=[45]
 ·have e1:behS s=some (-1):=by unfold behS;rw [if_pos h]
  rw [e1];go_enter Tryz.func71,Tryz.ntmps71;go_wp2;go_ret2;exact ⟨⟨-1,rfl,fun n hn=>by simpa using hn⟩,Gr.refl _⟩
 ·have e0:behS s=natI (sqS s):=by unfold behS;rw [if_neg h]
  have e9:(s.toList==[45])=false:=by simpa using h
  clear h;cases hs:sqS s with
  | none =>
   rw [hs] at e0;rw [e0];have hs':=hide hs;clear hs e0;go_enter Tryz.func71,Tryz.ntmps71;go_wp2_with (go_at_call 136;refine (square_no s (qa hs') _).mono ?_;rintro e w' ⟨rfl,rfl⟩);go_ret2;exact ⟨⟨0,rfl,fun n hn=>by simp [natI] at hn⟩,Gr.refl _⟩
  | some m =>
   rw [hs] at e0;rw [e0];have hs':=hide hs;clear hs e0;go_enter Tryz.func71,Tryz.ntmps71;go_wp2_with (go_at_call 136;refine (qjj s m (qa hs') _).mono ?_;rintro e w' ⟨rfl,hg⟩);go_ret2;exact ⟨⟨m,rfl,fun n hn=>by simpa [natI] using hn⟩,hg⟩
def dv (l:List UInt8):Nat:=l.foldl (fun n c=>10*n+(c.toNat-48)) 0
def dg (c:UInt8):Bool:=decide (48<=c.toNat/\c.toNat<=57)
def numS (d:Nat) (l:List UInt8):Option Nat :=
 if 1<=l.length/\l.length<=d/\(1<l.length->l.head?≠some 48)/\l.all dg=true then some (dv l) else none
def clkS (l:List UInt8):Option Nat :=
 if 1<=l.length/\l.length<=5/\(1<l.length->l.head?≠some 48)/\l.all dg=true/\dv l<=65535 then some (dv l) else none
theorem clk_num (l:List UInt8):clkS l=(numS 5 l).filter fun n=>decide (n<=65535):=by
 unfold clkS numS;by_cases h:1<=l.length/\l.length<=5/\(1<l.length->l.head?≠some 48)/\l.all dg=true
 ·rw [if_pos h];by_cases g:dv l<=65535
  ·rw [if_pos ⟨h.1,h.2.1,h.2.2.1,h.2.2.2,g⟩];simp [Option.filter,g]
  ·rw [if_neg (fun x=>g x.2.2.2.2)];simp [Option.filter,g]
 ·rw [if_neg h,if_neg (fun x=>h ⟨x.1,x.2.1,x.2.2.1,x.2.2.2.1⟩)];rfl
theorem dv_snoc (l:List UInt8) (c:UInt8):dv (l++[c])=10*dv l+(c.toNat-48):=by
 unfold dv;rw [List.foldl_append];rfl
theorem dv_lt:∀ (n:Nat) (l:List UInt8),l.length=n->l.all dg=true->dv l<10 ^ n:=by
 intro n;induction n with
 | zero=>intro l h _;have:l=[]:=List.length_eq_zero_iff.mp h;subst this;simp [dv]
 | succ n ih =>
  intro l h ha;have hne:l≠[]:=fun e=>by subst e;simp at h
  have e:=List.dropLast_concat_getLast hne;rw [<-e,dv_snoc];rw [<-e,List.all_append] at ha;simp only [Bool.and_eq_true,List.all_cons,List.all_nil,Bool.and_true] at ha;have:=ih l.dropLast (by simp [h]) ha.1;have hd:(l.getLast hne).toNat<=57:=by have:=ha.2;simp [dg] at this;omega
  rw [Nat.pow_succ];omega
theorem xi (s:ByteArray) (k:Nat) (h:k<s.size):s.data.toList.take (k+1)=s.data.toList.take k++[s[k]]:=by
 rw [List.take_succ_eq_append_getElem (by simpa using h)];rfl
theorem head_0 (s:ByteArray) (h:0<s.size):s.data.toList.head?=some s[0]:=by
 have:=xi s 0 h;cases e:s.data.toList with
 | nil=>rw [e] at this;simp at this
 | cons a r=>rw [e] at this;simp at this;simp [this]
theorem not_all (s:ByteArray) (k:Nat) (h:k<s.size) (hd:dg s[k]=false):s.data.toList.all dg=false:=by
 rw [<-List.take_append_drop (k+1) s.data.toList,xi s k h,List.all_append,List.all_append];simp only [List.all_cons,List.all_nil,hd,Bool.false_and,Bool.and_false]
def ClkEnd (s:ByteArray) (e:Ending):Prop:=∃ v:Int,e=.returned (.tuple #[.int .i64 v,.bool (clkS s.data.toList).isSome])/\∀ n,clkS s.data.toList=some n->v=(n:Int)
theorem ClkEnd.none {s:ByteArray} (h:clkS s.data.toList=none):ClkEnd s (.returned (.tuple #[.int .i64 0,.bool false])):=⟨0,by rw [h];rfl,fun n hn=>by rw [h] at hn;exact absurd hn (by simp)⟩
def NumEnd (d:Nat) (s:ByteArray) (e:Ending):Prop:=e=.returned (.tuple #[.int .i64 (((numS d s.data.toList).getD 0:Nat):Int),.bool (numS d s.data.toList).isSome])
theorem NumEnd.none {d:Nat} {s:ByteArray} (h:numS d s.data.toList=none):NumEnd d s (.returned (.tuple #[.int .i64 0,.bool false])):=by unfold NumEnd;rw [h];rfl
theorem number_ends (d:Nat) (_hd9:d<=9) (s:ByteArray) (hs:s.size<=maxLen) (h:s.size<1\/d<s.size\/(1<s.size/\s.data.toList.head?=some 48)) (w:World):Calls Tryz.prog 137 #[.string s,.int .i64 (d:Int)] w fun e w'=>NumEnd d s e/\w'=w:=by
 have hno:numS d s.data.toList=none:=by
  unfold numS;rw [if_neg];rintro ⟨g1,g2,g3,_⟩;simp only [Array.length_toList,ByteArray.size_data] at g1 g2 g3;rcases h with h|h|h
  ·omega
  ·omega
  ·exact g3 h.1 h.2
 have hend:=hide (NumEnd.none hno);clear hno;unfold maxLen at hs;by_cases c1:s.size<1
 ·go_enter Tryz.func137,Tryz.ntmps137;go_wp2;go_ret2;exact ⟨qa hend,rfl⟩
 ·by_cases c2:d<s.size
  ·go_enter Tryz.func137,Tryz.ntmps137;go_wp2;go_ret2;exact ⟨qa hend,rfl⟩
  ·have c3:1<s.size:=by omega
   have c4:s[0]=48:=by
    rcases h with h|h|h
    ·omega
    ·omega
    ·have:=head_0 s (by omega);rw [h.2] at this;simpa using this.symm
   have c5:s[0].toNat=48:=by rw [c4];rfl
   clear h c4;go_enter Tryz.func137,Tryz.ntmps137;go_wp2;go_ret2;exact ⟨qa hend,rfl⟩
theorem number_loop (d:Nat) (hd9:d<=9) (s:ByteArray) (h1:1<=s.size) (h5:s.size<=d) (h0:s.size<=1\/s.data.toList.head?≠some 48) (w:World):Calls Tryz.prog 137 #[.string s,.int .i64 (d:Int)] w fun e w'=>NumEnd d s e/\w'=w:=by
 have hbad:Hid (∀ k (h:k<s.size),dg s[k]=false->NumEnd d s (.returned (.tuple #[.int .i64 0,.bool false]))):=by
  intro k h hd;apply NumEnd.none;unfold numS;rw [if_neg];rintro ⟨_,_,_,g⟩;rw [not_all s k h hd] at g;exact absurd g (by decide)
 have hgood:Hid (s.data.toList.all dg=true->NumEnd d s (.returned (.tuple #[.int .i64 (dv s.data.toList),.bool true]))):=by
  intro hall
  have hz:1<=s.data.toList.length/\s.data.toList.length<=d/\(1<s.data.toList.length->s.data.toList.head?≠some 48):=by
   simp only [Array.length_toList,ByteArray.size_data];exact ⟨h1,h5,fun h=>h0.resolve_left (by omega)⟩
  unfold NumEnd
  have:numS d s.data.toList=some (dv s.data.toList):=by
   unfold numS;rw [if_pos ⟨hz.1,hz.2.1,hz.2.2,hall⟩]
  rw [this];rfl
 have hz:s.size<=1\/((s[0].toNat:Int)==48)=false:=by
  rcases h0 with h0|h0
  ·exact Or.inl h0
  ·right;have:=head_0 s (by omega);rw [this] at h0;have:s[0]≠48:=fun e=>h0 (by rw [e])
   simp only [beq_eq_false_iff_ne];intro e;exact this (UInt8.toNat_inj.mp (by simp;omega))
 clear h0;by_cases hz1:s.size<=1
 all_goals
  have hz2:1<s.size->((s[0].toNat:Int)==48)=false:=fun h=>hz.resolve_left (by omega)
  clear hz
  try have hz3:=hz2 (by omega)
  clear hz2;have hds:decide (d<s.size)=false:=by simp;omega
  go_enter Tryz.func137,Tryz.ntmps137;go_wp2;go_loopg [6,29] s.size (fun g n i wr=>∃ k:Nat,k+g=s.size/\i=.int .i64 k/\n=.int .i64 (dv (s.data.toList.take k))/\(s.data.toList.take k).all dg=true/\wr=w)
  case atStart=>exact ⟨0,by omega,rfl,rfl,rfl,rfl⟩
  case round =>
   obtain ⟨k,k1,rfl,rfl,hall,rfl⟩:=hrel;have hb:=dv_lt k (s.data.toList.take k) (by simp;omega) hall;have hall':=hide hall;clear hall;by_cases hlt:k<s.size
   ·have hb':10 ^ k<=10 ^ 8:=Nat.pow_le_pow_right (by omega) (by omega);have hbb:dv (s.data.toList.take k)<=99999999:=by omega
    clear hb hb';have hts:=hide (xi s k hlt);generalize hd:dv (s.data.toList.take k)=dd at hbb;have hd':=hide hd;clear hd;by_cases c1:s[k].toNat<48
    ·go_wp2;go_ret2;exact ⟨qa hbad k hlt (by simp [dg];omega),rfl⟩
    ·by_cases c2:57<s[k].toNat
     ·go_wp2;go_ret2;exact ⟨qa hbad k hlt (by simp [dg];omega),rfl⟩
     ·go_wp2;go_roundg (gk-1)
      case measure=>omega
      case rel =>
       refine ⟨k+1,by omega,by go_num,?_,?_,rfl⟩
       ·rw [qa hts,dv_snoc,qa hd'];congr 1;omega
       ·rw [qa hts,List.all_append,qa hall'];simp [dg];omega
   ·have ek:k=s.size:=by omega
    subst ek;have hfull:s.data.toList.take s.size=s.data.toList:=List.take_of_length_le (by simp);rw [hfull] at hall' hb ⊢;clear hfull;have hend:=hide (qa hgood (qa hall'));clear hgood hall' hbad;generalize dv s.data.toList=dd at hend hb ⊢;have hb5:dd<1000000000:=by have:10 ^ s.size<=10 ^ 9:=Nat.pow_le_pow_right (by omega) (by omega);omega
    clear hb;go_wp2;go_ret2;exact ⟨qa hend,rfl⟩
theorem number_any (d:Nat) (hd9:d<=9) (s:ByteArray) (hs:s.size<=maxLen) (w:World):Calls Tryz.prog 137 #[.string s,.int .i64 (d:Int)] w fun e w'=>NumEnd d s e/\w'=w:=by
 by_cases h:s.size<1\/d<s.size\/(1<s.size/\s.data.toList.head?=some 48)
 ·exact number_ends d hd9 s hs h w
 ·exact number_loop d hd9 s (by omega) (by omega) (by
   by_cases g:s.size<=1
   ·exact Or.inl g
   ·exact Or.inr fun e=>h (Or.inr (Or.inr ⟨by omega,e⟩))) w
theorem numS_lt (d:Nat) (hd9:d<=9) (l:List UInt8):(numS d l).getD 0<1000000000:=by
 unfold numS;split
 ·rename_i h;have:=dv_lt l.length l rfl h.2.2.2;have h2:10 ^ l.length<=10 ^ 9:=Nat.pow_le_pow_right (by omega) (by omega);show dv l<_;omega
 ·decide
theorem clock_any (s:ByteArray) (hs:s.size<=maxLen) (w:World):Calls Tryz.prog 72 #[.string s] w fun e w'=>ClkEnd s e/\w'=w:=by
 have hnum:=hide (number_any 5 (by omega) s hs w)
 have hend:Hid (ClkEnd s (.returned (.tuple #[.int .i64 (((numS 5 s.data.toList).getD 0:Nat):Int),.bool ((numS 5 s.data.toList).isSome&&decide (((numS 5 s.data.toList).getD 0:Int)<=65535))]))):=by
  refine ⟨(((numS 5 s.data.toList).getD 0:Nat):Int),?_,?_⟩
  ·congr 4;rw [clk_num];cases h:numS 5 s.data.toList with
   | none=>rfl
   | some n=>by_cases g:n<=65535<;>simp [Option.filter,g]<;>omega
  ·intro n hn;rw [clk_num] at hn;cases h:numS 5 s.data.toList with
   | none=>rw [h] at hn;exact absurd hn (by simp [Option.filter])
   | some m =>
    rw [h] at hn;simp only [Option.filter] at hn;split at hn
    ·simp only [Option.some.injEq] at hn;rw [hn];rfl
    ·exact absurd hn (by simp)
 unfold NumEnd at hnum;have hlt:=numS_lt 5 (by omega) s.data.toList;generalize (numS 5 s.data.toList).getD 0=v at hnum hend hlt;generalize (numS 5 s.data.toList).isSome=b at hnum hend;by_cases hv:v<=65535
 ·cases b
  all_goals
   go_enter Tryz.func72,Tryz.ntmps72;go_wp2_with (go_at_call 137;refine (qa hnum).mono ?_;rintro e w' ⟨rfl,rfl⟩);go_ret2;exact ⟨by have:=qa hend;simpa [hv,show ((v:Int)<=65535) from by omega] using this,rfl⟩
 ·cases b
  all_goals
   go_enter Tryz.func72,Tryz.ntmps72;go_wp2_with (go_at_call 137;refine (qa hnum).mono ?_;rintro e w' ⟨rfl,rfl⟩);go_ret2;exact ⟨by have:=qa hend;simpa [hv,show ¬ ((v:Int)<=65535) from by omega] using this,rfl⟩
def clc:Nat->UInt8
 | 0=>75
 | 1=>81
 | 2=>107
 | _=>113
def restS (l:List UInt8):Nat->List UInt8
 | 0=>l
 | i+1=>Lib.trimPrefix (restS l i) [clc i]
def leftS (l:List UInt8) (i:Nat):Bool:=Lib.hasPrefix (restS l i) [clc i]
theorem castle_dash (s:ByteArray) (h:s.toList=[45]) (w:World):Calls Tryz.prog 70 #[.string s] w fun e w'=>e=.returned (.tuple #[.agg #[.bool false,.bool false,.bool false,.bool false],.bool true])/\Gr w w':=by
 go_enter Tryz.func70,Tryz.ntmps70;go_wp2;refine bodyPost_ret (v:=.tuple #[.agg #[.bool false,.bool false,.bool false,.bool false],.bool true]) (by simp [results,Tryz.results70,go_sem]) rfl ⟨rfl,?_⟩
 repeat (first|exact Gr.refl _|apply Gr.alloc)
def CastEnd (l:List UInt8) (e:Ending):Prop :=
 e=.returned (.tuple #[.agg #[.bool (leftS l 0),.bool (leftS l 1),.bool (leftS l 2),.bool (leftS l 3)],.bool (!l.isEmpty&&(restS l 4).isEmpty)])
theorem arr4 (A:Array Value) (hs:A.size=4) (f:Nat->Bool) (h:∀ j,j<4->A[j]?=some (.bool (f j))):A=#[.bool (f 0),.bool (f 1),.bool (f 2),.bool (f 3)]:=by
 apply Array.ext_getElem?;intro i;by_cases hi:i<4
 ·rw [h i hi];have:i=0\/i=1\/i=2\/i=3:=by omega
  rcases this with rfl|rfl|rfl|rfl<;>rfl
 ·rw [Array.getElem?_eq_none (by omega),Array.getElem?_eq_none (by simp;omega)]
theorem set4 (A:Array Value) (hs:A.size=4) (f:Nat->Bool) (i:Nat) (hi:i<4) (b:Bool) (hb:b=f i) (h:∀ j,j<i->A[j]?=some (.bool (f j))) :
  (A.setIfInBounds i (.bool b)).size=4/\∀ j,j<i+1->(A.setIfInBounds i (.bool b))[j]?=some (.bool (f j)):=by
 refine ⟨by simpa using hs,?_⟩;intro j hj;rw [Array.getElem?_setIfInBounds];by_cases e:i=j
 ·subst e;rw [if_pos rfl,if_pos (by omega),hb]
 ·rw [if_neg e];exact h j (by omega)
theorem castle_loop (s:ByteArray) (h:(s.toList==[45])=false) (w:World):Calls Tryz.prog 70 #[.string s] w fun e w'=>CastEnd s.data.toList e/\Gr w w':=by
 go_enter Tryz.func70,Tryz.ntmps70;go_wp2;go_loopg [5,11] 4 (fun g r n wr=>∃ i:Nat,i+g=4/\n=.int .i64 i/\(∃ q:ByteArray,r=.string q/\q.data.toList=restS s.data.toList i)/\∃ A:Array Value,wr=(w.alloc (Obj.cells #[.bool false,.bool false,.bool false,.bool false] 23)).alloc (Obj.cells A 23)/\A.size=4/\∀ j,j<i->A[j]?=some (.bool (leftS s.data.toList j)))
 case atStart=>exact ⟨0,rfl,rfl,⟨s,rfl,rfl⟩,_,rfl,rfl,fun j hj=>by omega⟩
 case round =>
  obtain ⟨i,i1,rfl,⟨q,rfl,hq0⟩,A,rfl,hs,hA0⟩:=hrel;have hA:=hide hA0;have hq:=hide hq0;clear hA0 hq0;by_cases hlt:i<4
  ·have hcell:((w.alloc (Obj.cells #[.bool false,.bool false,.bool false,.bool false] 23)).alloc (Obj.cells A 23)).cell? ⟨w.heap.size+1,i,none⟩=some (A[i]'(by omega)):=by
    rw [cell_of_row _ _ _ _ _ _ (heap_alloc2_new _ _ _)];exact Array.getElem?_eq_getElem _
   have hi:i=0\/i=1\/i=2\/i=3:=by omega
   rcases hi with rfl|rfl|rfl|rfl
   ·go_wp2_with (go_at_call 135;refine (Tryz.strings_CutPrefix _ _ _).mono ?_;rintro e w' ⟨rfl,rfl⟩);go_roundg (gk-1)
    case measure=>omega
    case rel =>
     obtain ⟨e1,e2⟩:=set4 A hs (leftS s.data.toList) 0 hlt (Lib.hasPrefix q.data.toList [clc 0]) (by unfold leftS;rw [qa hq]) (qa hA);refine ⟨1,by omega,rfl,⟨_,rfl,?_⟩,_,rfl,e1,e2⟩;show Lib.trimPrefix q.data.toList [clc 0]=Lib.trimPrefix (restS s.data.toList 0) [clc 0];rw [qa hq]
   ·go_wp2_with (go_at_call 135;refine (Tryz.strings_CutPrefix _ _ _).mono ?_;rintro e w' ⟨rfl,rfl⟩);go_roundg (gk-1)
    case measure=>omega
    case rel =>
     obtain ⟨e1,e2⟩:=set4 A hs (leftS s.data.toList) 1 hlt (Lib.hasPrefix q.data.toList [clc 1]) (by unfold leftS;rw [qa hq]) (qa hA);refine ⟨2,by omega,rfl,⟨_,rfl,?_⟩,_,rfl,e1,e2⟩;show Lib.trimPrefix q.data.toList [clc 1]=Lib.trimPrefix (restS s.data.toList 1) [clc 1];rw [qa hq]
   ·go_wp2_with (go_at_call 135;refine (Tryz.strings_CutPrefix _ _ _).mono ?_;rintro e w' ⟨rfl,rfl⟩);go_roundg (gk-1)
    case measure=>omega
    case rel =>
     obtain ⟨e1,e2⟩:=set4 A hs (leftS s.data.toList) 2 hlt (Lib.hasPrefix q.data.toList [clc 2]) (by unfold leftS;rw [qa hq]) (qa hA);refine ⟨3,by omega,rfl,⟨_,rfl,?_⟩,_,rfl,e1,e2⟩;show Lib.trimPrefix q.data.toList [clc 2]=Lib.trimPrefix (restS s.data.toList 2) [clc 2];rw [qa hq]
   ·go_wp2_with (go_at_call 135;refine (Tryz.strings_CutPrefix _ _ _).mono ?_;rintro e w' ⟨rfl,rfl⟩);go_roundg (gk-1)
    case measure=>omega
    case rel =>
     obtain ⟨e1,e2⟩:=set4 A hs (leftS s.data.toList) 3 hlt (Lib.hasPrefix q.data.toList [clc 3]) (by unfold leftS;rw [qa hq]) (qa hA);refine ⟨4,by omega,rfl,⟨_,rfl,?_⟩,_,rfl,e1,e2⟩;show Lib.trimPrefix q.data.toList [clc 3]=Lib.trimPrefix (restS s.data.toList 3) [clc 3];rw [qa hq]
  ·have ei:i=4:=by omega
   subst ei;have eA:=arr4 A hs _ (qa hA);subst eA;have hq2:=qa hq;have hemp:q.toList.isEmpty=(restS s.data.toList 4).isEmpty:=by rw [<-hq2,Lib.toList_data]
   have hse:s.toList.isEmpty=s.data.toList.isEmpty:=by rw [Lib.toList_data]
   generalize hb1:s.data.toList.isEmpty=b1 at hse;generalize hb2:(restS s.data.toList 4).isEmpty=b2 at hemp;have hb1':=hide hb1;have hb2':=hide hb2;clear hb1 hb2 hq2;cases b1<;>cases b2
   all_goals
    go_wp2;refine bodyPost_ret (v:=.tuple #[.agg #[.bool (leftS s.data.toList 0),.bool (leftS s.data.toList 1),.bool (leftS s.data.toList 2),.bool (leftS s.data.toList 3)],.bool (!s.data.toList.isEmpty&&(restS s.data.toList 4).isEmpty)]) (by rw [qa hb1',qa hb2'];simp [results,Tryz.results70,go_sem]) rfl ⟨rfl,?_⟩
    repeat (first|exact Gr.refl _|apply Gr.alloc)
def castS (l:List UInt8):Option (Nat->Bool) :=
 if l=[45] then some (fun _=>false) else if !l.isEmpty&&(restS l 4).isEmpty then some (leftS l) else none
def CastleEnd (l:List UInt8) (e:Ending):Prop:=∃ f:Nat->Bool,e=.returned (.tuple #[.agg #[.bool (f 0),.bool (f 1),.bool (f 2),.bool (f 3)],.bool (castS l).isSome])/\∀ g,castS l=some g->f=g
theorem castle_any (s:ByteArray) (w:World):Calls Tryz.prog 70 #[.string s] w fun e w'=>CastleEnd s.data.toList e/\Gr w w':=by
 by_cases h:s.toList=[45]
 ·refine (castle_dash s h w).mono ?_;rintro e w' ⟨rfl,hg⟩;have e1:castS s.data.toList=some (fun _=>false):=by unfold castS;rw [if_pos (by rw [<-Lib.toList_data];exact h)]
  exact ⟨⟨fun _=>false,by rw [e1];rfl,fun g hg=>by rw [e1] at hg;simpa using hg⟩,hg⟩
 ·refine (castle_loop s (by simpa using h) w).mono ?_;rintro e w' ⟨he,hg⟩;have h':¬ s.data.toList=[45]:=by rw [<-Lib.toList_data];exact h
  refine ⟨⟨leftS s.data.toList,?_,?_⟩,hg⟩
  ·rw [he];congr 4;unfold castS;rw [if_neg h'];cases (!s.data.toList.isEmpty&&(restS s.data.toList 4).isEmpty)<;>rfl
  ·intro g hg;unfold castS at hg;rw [if_neg h'] at hg;cases hb:(!s.data.toList.isEmpty&&(restS s.data.toList 4).isEmpty) with
   | true=>rw [hb] at hg;simpa using hg
   | false=>rw [hb] at hg;exact absurd hg (by simp)
theorem qb (w:World) (n:Nat) (a:Addr) (v:Value):(w.drewN n).setCell a v=(w.setCell a v).drewN n:=rfl
theorem qd (w:World) (n:Nat) (o:Obj):(w.drewN n).alloc o=(w.alloc o).drewN n:=rfl
theorem Gr.drewN {a b:World} (h:Gr a b) (n:Nat):Gr a (b.drewN n):=Below.trans h ⟨rfl,rfl,rfl,Nat.le_refl _,fun _ _=>rfl⟩
attribute [local go_sem] qb qd
def lettersL:List UInt8:=[80,78,66,82,81,75,112,110,98,114,113,107]
def letS (c:UInt8):Bool:=!decide (Lib.indexByte lettersL c<0)
def digS (c:UInt8):Bool:=decide (49<=c.toNat)&&decide (c.toNat<=56)
def rkStep (st:Option (List Int × Bool)) (c:UInt8):Option (List Int × Bool) :=
 match st with
 | none=>none
 | some (acc,a) =>
  if digS c then (if a||decide (8<acc.length+(c.toNat-48)) then none else some (acc++List.replicate (c.toNat-48) 46,true))
  else if letS c then (if 8<acc.length+1 then none else some (acc++[(c.toNat:Int)],false)) else none
def rkFold (l:List UInt8):Option (List Int × Bool):=l.foldl rkStep (some ([],false))
def rankS (l:List UInt8):Option (List Int) :=
 match rkFold l with
 | some (acc,_)=>if acc.length=8 then some acc else none
 | none=>none
theorem rkFold_snoc (l:List UInt8) (c:UInt8):rkFold (l++[c])=rkStep (rkFold l) c:=by
 unfold rkFold;rw [List.foldl_append];rfl
theorem rk_none (l:List UInt8):l.foldl rkStep none=none:=by
 induction l with
 | nil=>rfl
 | cons c r ih=>exact ih
theorem qxc (s:ByteArray) (k:Nat) (h:k<s.size) (hb:rkStep (rkFold (s.data.toList.take k)) s[k]=none):rankS s.data.toList=none:=by
 unfold rankS
 have:rkFold s.data.toList=none:=by
  rw [<-List.take_append_drop (k+1) s.data.toList,xi s k h];unfold rkFold at hb ⊢;rw [List.foldl_append,List.foldl_append];simp only [List.foldl_cons,List.foldl_nil];rw [hb,rk_none]
 rw [this]
def PutR (acc:List Int) (R:Array Value):Prop:=R.size=8/\(∀ j (h:j<acc.length),R[j]?=some (.int .u8 acc[j]))/\∀ j,j<8->∃ z,R[j]?=some (.int .u8 z)
theorem PutR.nil:PutR [] #[.int .u8 0,.int .u8 0,.int .u8 0,.int .u8 0,.int .u8 0,.int .u8 0,.int .u8 0,.int .u8 0] :=
 ⟨rfl,fun j h=>by simp at h,fun j h=>⟨0,by
  have:j=0\/j=1\/j=2\/j=3\/j=4\/j=5\/j=6\/j=7:=by omega
  rcases this with rfl|rfl|rfl|rfl|rfl|rfl|rfl|rfl<;>rfl⟩⟩
theorem PutR.snoc {acc:List Int} {R:Array Value} (h:PutR acc R) (hl:acc.length<8) (c:Int):PutR (acc++[c]) (R.setIfInBounds acc.length (.int .u8 c)):=by
 refine ⟨by simpa using h.1,fun j hj=>?_,fun j hj=>?_⟩
 ·rw [Array.getElem?_setIfInBounds];by_cases e:acc.length=j
  ·subst e;rw [if_pos rfl,if_pos (by rw [h.1];exact hl)];simp
  ·have hj':j<acc.length:=by simp at hj;omega
   rw [if_neg e,h.2.1 j hj',List.getElem_append_left hj']
 ·rw [Array.getElem?_setIfInBounds];by_cases e:acc.length=j
  ·exact ⟨c,by rw [if_pos e,if_pos (by rw [h.1];exact hl)]⟩
  ·rw [if_neg e];exact h.2.2 j hj
theorem PutR.done {acc:List Int} {R:Array Value} (h:PutR acc R) (hl:acc.length=8):R=(acc.map (Value.int .u8)).toArray:=by
 apply Array.ext_getElem?;intro i;by_cases hi:i<8
 ·rw [h.2.1 i (by omega)];simp [hl,hi]
 ·rw [Array.getElem?_eq_none (by have:=h.1;omega),Array.getElem?_eq_none (by simp;omega)]
theorem arr8 {acc:List Int} {R:Array Value} (h:PutR acc R):∃ a b c d e f g i:Int,R=#[.int .u8 a,.int .u8 b,.int .u8 c,.int .u8 d,.int .u8 e,.int .u8 f,.int .u8 g,.int .u8 i]:=by
 obtain ⟨a,ha⟩:=h.2.2 0 (by omega);obtain ⟨b,hb⟩:=h.2.2 1 (by omega);obtain ⟨c,hc⟩:=h.2.2 2 (by omega);obtain ⟨d,hd⟩:=h.2.2 3 (by omega);obtain ⟨e,he⟩:=h.2.2 4 (by omega);obtain ⟨f,hf⟩:=h.2.2 5 (by omega);obtain ⟨g,hg⟩:=h.2.2 6 (by omega);obtain ⟨i,hi⟩:=h.2.2 7 (by omega);refine ⟨a,b,c,d,e,f,g,i,?_⟩;apply Array.ext_getElem?;intro j;by_cases hj:j<8
 ·have:j=0\/j=1\/j=2\/j=3\/j=4\/j=5\/j=6\/j=7:=by omega
  rcases this with rfl|rfl|rfl|rfl|rfl|rfl|rfl|rfl<;>simp [*]
 ·rw [Array.getElem?_eq_none (by have:=h.1;omega),Array.getElem?_eq_none (by simp;omega)]
def RankEnd (l:List UInt8) (e:Ending):Prop :=
 (∃ acc,rankS l=some acc/\e=.returned (.tuple #[.agg (acc.map (Value.int .u8)).toArray,.bool true]))\/(rankS l=none/\∃ a b c d e' f g i:Int,e=.returned (.tuple #[.agg #[.int .u8 a,.int .u8 b,.int .u8 c,.int .u8 d,.int .u8 e',.int .u8 f,.int .u8 g,.int .u8 i],.bool false]))
theorem rank_any (s:ByteArray) (hs:s.size<=maxLen) (w:World):Calls Tryz.prog 134 #[.string s] w fun e w'=>RankEnd s.data.toList e/\Gr w w':=by
 unfold maxLen at hs;go_enter Tryz.func134,Tryz.ntmps134;go_wp2;go_loopg [5,6,13] s.size (fun g fl af i wr=>∃ k:Nat,k+g=s.size/\i=.int .i64 k/\∃ (acc:List Int) (a:Bool),rkFold (s.data.toList.take k)=some (acc,a)/\fl=.int .i64 acc.length/\af=.bool a/\∃ (R:Array Value) (n:Nat),wr=((w.alloc (Obj.cells #[.int .u8 0,.int .u8 0,.int .u8 0,.int .u8 0,.int .u8 0,.int .u8 0,.int .u8 0,.int .u8 0] 208)).alloc (Obj.cells R 208)).drewN n/\PutR acc R/\acc.length<=8)
 case atStart=>exact ⟨0,by omega,rfl,[],false,rfl,rfl,rfl,_,0,rfl,PutR.nil,by simp⟩
 case round =>
  obtain ⟨k,k1,rfl,acc,a,hf0,rfl,rfl,R,n,rfl,hR0,hacc⟩:=hrel;have hf:=hide hf0;have hR:=hide hR0;clear hf0 hR0;by_cases hlt:k<s.size
  ·by_cases hd:49<=s[k].toNat/\s[k].toNat<=56
   ·obtain ⟨hd1,hd2⟩:=hd;have hdS:Hid (digS s[k]=true):=hide (by unfold digS;rw [decide_eq_true hd1,decide_eq_true hd2];rfl);cases a
    ·by_cases h8:8<acc.length+(s[k].toNat-48)
     ·have hbad:Hid (rankS s.data.toList=none):=hide (qxc s k hlt (by rw [qa hf];unfold rkStep;simp only [qa hdS,if_true,Bool.false_or,decide_eq_true h8]));obtain ⟨r0,r1,r2,r3,r4,r5,r6,r7,rfl⟩:=arr8 (qa hR);clear hR;go_wp2;go_region;go_wp2;refine bodyPost_ret (v:=.tuple #[.agg #[.int .u8 r0,.int .u8 r1,.int .u8 r2,.int .u8 r3,.int .u8 r4,.int .u8 r5,.int .u8 r6,.int .u8 r7],.bool false]) (by simp [results,Tryz.results134,go_sem]) rfl ⟨.inr ⟨qa hbad,_,_,_,_,_,_,_,_,rfl⟩,?_⟩
      repeat (first|exact Gr.refl _|apply Gr.drew|apply Gr.drewN|apply Gr.alloc)
     ·go_wp2;go_region;go_wp2;go_loopg [5,45] (s[k].toNat-48) (fun g fl jj wr=>∃ j:Nat,j+g=s[k].toNat-48/\jj=.int .i64 j/\∃ acc':List Int,acc'=acc++List.replicate j 46/\fl=.int .i64 acc'.length/\∃ (R:Array Value) (n:Nat),wr=((w.alloc (Obj.cells #[.int .u8 0,.int .u8 0,.int .u8 0,.int .u8 0,.int .u8 0,.int .u8 0,.int .u8 0,.int .u8 0] 208)).alloc (Obj.cells R 208)).drewN n/\PutR acc' R)
      case atStart=>exact ⟨0,by omega,rfl,acc,by simp,rfl,R,_,rfl,qa hR⟩
      case round =>
       obtain ⟨j,j1,rfl,acc',hacc0,rfl,R',n',rfl,hR0'⟩:=hrel;have hacc':=hide hacc0;have hR':=hide hR0';have hlen:acc'.length=acc.length+j:=by rw [hacc0];simp
       clear hacc0 hR0';by_cases hj:j<s[k].toNat-48
       ·have hl8:acc'.length<8:=by omega
        have hsz:=(qa hR').1;have hlR:acc'.length<R'.size:=by omega
        clear hlen
        have hcell:((w.alloc (Obj.cells #[.int .u8 0,.int .u8 0,.int .u8 0,.int .u8 0,.int .u8 0,.int .u8 0,.int .u8 0,.int .u8 0] 208)).alloc (Obj.cells R' 208)).cell? ⟨w.heap.size+1,acc'.length,none⟩=some (R'[acc'.length]'hlR):=by
         rw [cell_of_row _ _ _ _ _ _ (heap_alloc2_new _ _ _)];exact Array.getElem?_eq_getElem _
        go_wp2;go_roundg (gk-1)
        case measure=>omega
        case rel =>
         refine ⟨j+1,by omega,by go_num,acc'++[46],?_,by simp,_,_,rfl,(qa hR').snoc hl8 _⟩;rw [qa hacc',List.append_assoc,<-List.replicate_succ']
       ·have ej:j=s[k].toNat-48:=by omega
        clear hlen;go_wp2;go_roundg (s.size-k-1)
        case measure=>omega
        case rel =>
         have ea:=qa hacc';rw [ej] at ea;refine ⟨k+1,by omega,by go_num,acc',true,?_,rfl,rfl,R',_,rfl,qa hR',by rw [ea];simp;omega⟩;rw [xi s k hlt,rkFold_snoc,qa hf,ea];unfold rkStep;simp only [qa hdS,if_true,Bool.false_or,decide_eq_false h8,Bool.false_eq_true,if_false]
    ·have hbad:Hid (rankS s.data.toList=none):=hide (qxc s k hlt (by rw [qa hf];unfold rkStep;simp only [qa hdS,if_true,Bool.true_or]));obtain ⟨r0,r1,r2,r3,r4,r5,r6,r7,rfl⟩:=arr8 (qa hR);clear hR;go_wp2;go_region;go_wp2;refine bodyPost_ret (v:=.tuple #[.agg #[.int .u8 r0,.int .u8 r1,.int .u8 r2,.int .u8 r3,.int .u8 r4,.int .u8 r5,.int .u8 r6,.int .u8 r7],.bool false]) (by simp [results,Tryz.results134,go_sem]) rfl ⟨.inr ⟨qa hbad,_,_,_,_,_,_,_,_,rfl⟩,?_⟩
     repeat (first|exact Gr.refl _|apply Gr.drew|apply Gr.drewN|apply Gr.alloc)
   ·have hdS:Hid (digS s[k]=false):=hide (by unfold digS;rw [<-Bool.decide_and];exact decide_eq_false hd);have hd:s[k].toNat<49\/56<s[k].toNat:=by omega
    have hu:(s[k].toNat:Int).toNat.toUInt8=s[k]:=by simp
    have hl0:Hid (letS s[k]=!decide (Lib.indexByte lettersL s[k]<0)):=hide rfl;generalize hix:Lib.indexByte lettersL s[k]=ix at hl0;have hix':Lib.indexByte [80,78,66,82,81,75,112,110,98,114,113,107] s[k]=ix:=hix;clear hix;by_cases hneg:ix<0
    ·have hbad:Hid (rankS s.data.toList=none):=hide (qxc s k hlt (by rw [qa hf];unfold rkStep;simp only [qa hdS,qa hl0,decide_eq_true hneg];rfl));rcases hd with hd|hd
     all_goals
      obtain ⟨r0,r1,r2,r3,r4,r5,r6,r7,rfl⟩:=arr8 (qa hR);clear hR;go_wp2;go_region;go_wp2_with (go_at_call 138;refine (Tryz.strings_IndexByte _ _ _).mono ?_;rintro e w' ⟨rfl,rfl⟩);refine bodyPost_ret (v:=.tuple #[.agg #[.int .u8 r0,.int .u8 r1,.int .u8 r2,.int .u8 r3,.int .u8 r4,.int .u8 r5,.int .u8 r6,.int .u8 r7],.bool false]) (by simp [results,Tryz.results134,go_sem]) rfl ⟨.inr ⟨qa hbad,_,_,_,_,_,_,_,_,rfl⟩,?_⟩
      repeat (first|exact Gr.refl _|apply Gr.drew|apply Gr.drewN|apply Gr.alloc)
    ·have hlS:Hid (letS s[k]=true):=hide (by rw [qa hl0,decide_eq_false hneg];rfl);by_cases h8:8<acc.length+1
     ·have hbad:Hid (rankS s.data.toList=none):=hide (qxc s k hlt (by rw [qa hf];unfold rkStep;simp only [qa hdS,qa hlS,Bool.false_eq_true,if_false,if_true,h8]));rcases hd with hd|hd
      all_goals
       obtain ⟨r0,r1,r2,r3,r4,r5,r6,r7,rfl⟩:=arr8 (qa hR);clear hR;go_wp2;go_region;go_wp2_with (go_at_call 138;refine (Tryz.strings_IndexByte _ _ _).mono ?_;rintro e w' ⟨rfl,rfl⟩);refine bodyPost_ret (v:=.tuple #[.agg #[.int .u8 r0,.int .u8 r1,.int .u8 r2,.int .u8 r3,.int .u8 r4,.int .u8 r5,.int .u8 r6,.int .u8 r7],.bool false]) (by simp [results,Tryz.results134,go_sem]) rfl ⟨.inr ⟨qa hbad,_,_,_,_,_,_,_,_,rfl⟩,?_⟩
       repeat (first|exact Gr.refl _|apply Gr.drew|apply Gr.drewN|apply Gr.alloc)
     ·rcases hd with hd|hd
      all_goals
       go_wp2;go_region;go_wp2_with (go_at_call 138;refine (Tryz.strings_IndexByte _ _ _).mono ?_;rintro e w' ⟨rfl,rfl⟩);go_loopg [5,45] (1) (fun g fl jj wr=>∃ j:Nat,j+g=1/\jj=.int .i64 j/\∃ acc':List Int,acc'=acc++List.replicate j (s[k].toNat:Int)/\fl=.int .i64 acc'.length/\∃ (R:Array Value) (n:Nat),wr=((w.alloc (Obj.cells #[.int .u8 0,.int .u8 0,.int .u8 0,.int .u8 0,.int .u8 0,.int .u8 0,.int .u8 0,.int .u8 0] 208)).alloc (Obj.cells R 208)).drewN n/\PutR acc' R)
       case atStart=>exact ⟨0,by omega,rfl,acc,by simp,rfl,R,_,rfl,qa hR⟩
       case round =>
        obtain ⟨j,j1,rfl,acc',hacc0,rfl,R',n',rfl,hR0'⟩:=hrel;have hacc':=hide hacc0;have hR':=hide hR0';have hlen:acc'.length=acc.length+j:=by rw [hacc0];simp
        clear hacc0 hR0';by_cases hj:j<1
        ·have hl8:acc'.length<8:=by omega
         have hsz:=(qa hR').1;have hlR:acc'.length<R'.size:=by omega
         clear hlen
         have hcell:((w.alloc (Obj.cells #[.int .u8 0,.int .u8 0,.int .u8 0,.int .u8 0,.int .u8 0,.int .u8 0,.int .u8 0,.int .u8 0] 208)).alloc (Obj.cells R' 208)).cell? ⟨w.heap.size+1,acc'.length,none⟩=some (R'[acc'.length]'hlR):=by
          rw [cell_of_row _ _ _ _ _ _ (heap_alloc2_new _ _ _)];exact Array.getElem?_eq_getElem _
         go_wp2;go_roundg (gk-1)
         case measure=>omega
         case rel =>
          refine ⟨j+1,by omega,by go_num,acc'++[(s[k].toNat:Int)],?_,by simp,_,_,rfl,(qa hR').snoc hl8 _⟩;rw [qa hacc',List.append_assoc,<-List.replicate_succ']
        ·have ej:j=1:=by omega
         clear hlen;go_wp2;go_roundg (s.size-k-1)
         case measure=>omega
         case rel =>
          have ea:=qa hacc';rw [ej] at ea;refine ⟨k+1,by omega,by go_num,acc',false,?_,rfl,rfl,R',_,rfl,qa hR',by rw [ea];simp;omega⟩;rw [xi s k hlt,rkFold_snoc,qa hf,ea];unfold rkStep;simp only [qa hdS,qa hlS,Bool.false_eq_true,if_false,if_true,h8];rfl
  ·have ek:k=s.size:=by omega
   subst ek;have hfull:s.data.toList.take s.size=s.data.toList:=List.take_of_length_le (by simp);rw [hfull] at hf;clear hfull;by_cases h8:acc.length=8
   ·have hdone:=(qa hR).done h8;obtain ⟨r0,r1,r2,r3,r4,r5,r6,r7,rfl⟩:=arr8 (qa hR)
    have hend:Hid (RankEnd s.data.toList (.returned (.tuple #[.agg #[.int .u8 r0,.int .u8 r1,.int .u8 r2,.int .u8 r3,.int .u8 r4,.int .u8 r5,.int .u8 r6,.int .u8 r7],.bool true]))) :=
     hide (.inl ⟨acc,by unfold rankS;rw [qa hf];simp [h8],by rw [<-hdone]⟩)
    clear hR hdone hf;go_wp2;refine bodyPost_ret (v:=.tuple #[.agg #[.int .u8 r0,.int .u8 r1,.int .u8 r2,.int .u8 r3,.int .u8 r4,.int .u8 r5,.int .u8 r6,.int .u8 r7],.bool true]) (by simp [results,Tryz.results134,go_sem]) rfl ⟨qa hend,?_⟩
    repeat (first|exact Gr.refl _|apply Gr.drew|apply Gr.drewN|apply Gr.alloc)
   ·obtain ⟨r0,r1,r2,r3,r4,r5,r6,r7,rfl⟩:=arr8 (qa hR)
    have hend:Hid (RankEnd s.data.toList (.returned (.tuple #[.agg #[.int .u8 r0,.int .u8 r1,.int .u8 r2,.int .u8 r3,.int .u8 r4,.int .u8 r5,.int .u8 r6,.int .u8 r7],.bool false]))) :=
     hide (.inr ⟨by unfold rankS;rw [qa hf];simp [h8],_,_,_,_,_,_,_,_,rfl⟩)
    have hne:((acc.length:Int)==8)=false:=by simp;omega
    clear hR hf h8;go_wp2;refine bodyPost_ret (v:=.tuple #[.agg #[.int .u8 r0,.int .u8 r1,.int .u8 r2,.int .u8 r3,.int .u8 r4,.int .u8 r5,.int .u8 r6,.int .u8 r7],.bool false]) (by simp [results,Tryz.results134,go_sem]) rfl ⟨qa hend,?_⟩
    repeat (first|exact Gr.refl _|apply Gr.drew|apply Gr.drewN|apply Gr.alloc)
end Go.Proofs.YtnfakamfmkhlbaaGreatDoor.C
