import Derived.Test.YtnfakamfmkhlbabGreatDoorUm24
import Derived.Lib.IndexLaws
import Derived.LoopTactic
import Derived.Deep.LoopGhost
import Derived.Below
import Derived.Laws.Rows
import Derived.Deep.RegionHeld3
set_option maxRecDepth 100000
set_option maxHeartbeats 4000000
set_option linter.unusedSimpArgs false
namespace Go.Proofs.YtnfakamfmkhlbabGreatDoor.C
open Go.ChangeShapes Go.WideShapes Go.ChangeAt Go.RowKit Go.Proofs.YtnfakamfmkhlbabGreatDoor.P
theorem cL(s:ByteArray)(k:Nat)(h:k<s.size):s.data.toList[k]?=some s[k]:=by
 rw[qO];exact qQ _
theorem xa(s:ByteArray)(hs:s.size<=maxLen)(c:UInt8)(w:World):Calls Tryz.prog 111 #[.string s,.int .u8 (c.toNat:Int)] w fun e w'=>e=.returned (.int .i64 (Lib.indexByte s.data.toList c))/\w'=w:=by
 unfold maxLen at hs;go_enter Tryz.func111,Tryz.ntmps111;go_wp2;go_loopg [5] s.size (fun g i wr=>∃k:Nat,k+g=s.size/\i=.int .i64 k/\(∀j,j<k->s.data.toList[j]?≠some c)/\wr=w)
 case atStart=>exact⟨0,by omega,rfl,fun j hj=>absurd hj (Nat.not_lt_zero j),rfl⟩
 case round =>
  obtain⟨k,k1,rfl,k3,rfl⟩:=hrel;have k3':=qC k3;clear k3;by_cases hlt:k<s.size
  ·have hb:=qC (cL s k hlt);by_cases hc:s[k]=c
   ·have hend:Hid (Lib.indexByte s.data.toList c=(k:Int)):=qC (sx (qa k3') (by rw[qa hb,hc]));subst hc;go_wp2;go_ret;exact⟨xo (qa hend).symm,rfl⟩
   ·have hne:((s[k].toNat:Int)==(c.toNat:Int))=false:=by
     rw[qM];intro h;exact hc (q6.1 (by omega))
    have hc':=qC hc;go_wp2;go_roundg (gk-1)
    case measure=>omega
    case rel=>exact⟨k+1,by omega,by go_num,(by
     intro j hj;by_cases hjk:j=k
     ·subst hjk;rw[qa hb];intro h;exact qa hc' (qP h)
     ·exact qa k3' j (by omega)),rfl⟩
  ·have ek:k=s.size:=by omega
   have hend:Hid (Lib.indexByte s.data.toList c=-1):=qC (sw (by
    intro j hj;exact qa k3' j (by rw[ek];rw[Array.length_toList]at hj;exact hj)))
   subst ek;go_wp2;go_ret;exact⟨xo (qa hend).symm,rfl⟩
theorem gD(c:UInt8)(w:World):Calls Tryz.prog 111 #[.string ⟨#[80,78,66,82,81,75,112,110,98,114,113,107]⟩,.int .u8 (c.toNat:Int)] w fun e w'=>e=.returned (.int .i64 (jB c))/\w'=w :=
 xa ⟨#[80,78,66,82,81,75,112,110,98,114,113,107]⟩ (by decide) c w
theorem zp(c:UInt8)(w:World):Calls Tryz.prog 107 #[.int .u8 (c.toNat:Int)] w fun e w'=>e=.returned (.int .i64 (vE c))/\w'=w:=by
 have hbd:=rn c;have hp:=qC (gD c);have e:vE c=if 6<=jB c then jB c-6 else jB c:=rfl;rw[e];clear e;generalize jB c=x at hbd hp ⊢;by_cases h:6<=x
 ·rw[qI h];go_enter Tryz.func107,Tryz.ntmps107;go_wp2_with(go_at_call 111;refine(qa hp _).mono ?_;rintro e w' ⟨rfl,rfl⟩);go_ret;exact⟨rfl,rfl⟩
 ·rw[qF h];go_enter Tryz.func107,Tryz.ntmps107;go_wp2_with(go_at_call 111;refine(qa hp _).mono ?_;rintro e w' ⟨rfl,rfl⟩);go_ret;exact⟨rfl,rfl⟩
theorem za(c:UInt8)(w:World):Calls Tryz.prog 115 #[.int .u8 (c.toNat:Int)] w fun e w'=>e=.returned (.int .i64 (vB c))/\w'=w:=by
 have hbd:=rn c;have hp:=qC (gD c);have e:vB c=if jB c<0 then 0 else if jB c<6 then 1 else -1:=rfl;rw[e];clear e;generalize jB c=x at hbd hp ⊢;by_cases h:x<0
 ·rw[qI h];go_enter Tryz.func115,Tryz.ntmps115;go_wp2_with(go_at_call 111;refine(qa hp _).mono ?_;rintro e w' ⟨rfl,rfl⟩);go_ret;exact⟨rfl,rfl⟩
 ·rw[qF h];by_cases h6:x<6
  ·rw[qI h6];go_enter Tryz.func115,Tryz.ntmps115;go_wp2_with(go_at_call 111;refine(qa hp _).mono ?_;rintro e w' ⟨rfl,rfl⟩);go_ret;exact⟨rfl,rfl⟩
  ·rw[qF h6];go_enter Tryz.func115,Tryz.ntmps115;go_wp2_with(go_at_call 111;refine(qa hp _).mono ?_;rintro e w' ⟨rfl,rfl⟩);go_ret;exact⟨rfl,rfl⟩
theorem DG(b:Bool)(w:World):Calls Tryz.prog 195 #[.int .i64 0,.int .i64 (xK b)] w fun e w'=>e=.returned (.int .u8 ((yP 0 b).toNat:Int))/\w'=w:=by
 cases b
 ·show Calls Tryz.prog 195 #[.int .i64 0,.int .i64 (-1)] w _;go_enter Tryz.func195,Tryz.ntmps195;go_wp2;go_ret;exact⟨rfl,rfl⟩
 ·show Calls Tryz.prog 195 #[.int .i64 0,.int .i64 1] w _;go_enter Tryz.func195,Tryz.ntmps195;go_wp2;go_ret;exact⟨rfl,rfl⟩
theorem DF(b:Bool)(w:World):Calls Tryz.prog 195 #[.int .i64 3,.int .i64 (xK b)] w fun e w'=>e=.returned (.int .u8 ((yP 3 b).toNat:Int))/\w'=w:=by
 cases b
 ·show Calls Tryz.prog 195 #[.int .i64 3,.int .i64 (-1)] w _;go_enter Tryz.func195,Tryz.ntmps195;go_wp2;go_ret;exact⟨rfl,rfl⟩
 ·show Calls Tryz.prog 195 #[.int .i64 3,.int .i64 1] w _;go_enter Tryz.func195,Tryz.ntmps195;go_wp2;go_ret;exact⟨rfl,rfl⟩
theorem DE(b:Bool)(w:World):Calls Tryz.prog 195 #[.int .i64 5,.int .i64 (xK b)] w fun e w'=>e=.returned (.int .u8 ((yP 5 b).toNat:Int))/\w'=w:=by
 cases b
 ·show Calls Tryz.prog 195 #[.int .i64 5,.int .i64 (-1)] w _;go_enter Tryz.func195,Tryz.ntmps195;go_wp2;go_ret;exact⟨rfl,rfl⟩
 ·show Calls Tryz.prog 195 #[.int .i64 5,.int .i64 1] w _;go_enter Tryz.func195,Tryz.ntmps195;go_wp2;go_ret;exact⟨rfl,rfl⟩
theorem sj(b:Bool):yP 5 b=vk b:=by cases b<;>rfl
theorem zr(i:Nat)(hi:i<4)(w:World):Calls Tryz.prog 196 #[.int .i64 (i:Int)] w fun e w'=>e=.returned (.tuple #[.int .i64 (xY i),.int .i64 (vN i),.int .i64 (zD i),.int .i64 (xK (decide (i<2)))])/\w'=w:=by
 have:i=0\/i=1\/i=2\/i=3:=by omega
 rcases this with rfl|rfl|rfl|rfl
 ·go_enter Tryz.func196,Tryz.ntmps196;go_wp2;exact bodyPost_ret (v:=.tuple #[.int .i64 4,.int .i64 6,.int .i64 7,.int .i64 1]) (by simp[results,Tryz.results196,go_sem]) rfl ⟨rfl,rfl⟩
 ·go_enter Tryz.func196,Tryz.ntmps196;go_wp2;exact bodyPost_ret (v:=.tuple #[.int .i64 4,.int .i64 2,.int .i64 0,.int .i64 1]) (by simp[results,Tryz.results196,go_sem]) rfl ⟨rfl,rfl⟩
 ·go_enter Tryz.func196,Tryz.ntmps196;go_wp2;exact bodyPost_ret (v:=.tuple #[.int .i64 60,.int .i64 62,.int .i64 63,.int .i64 (-1)]) (by simp[results,Tryz.results196,go_sem]) rfl ⟨rfl,rfl⟩
 ·go_enter Tryz.func196,Tryz.ntmps196;go_wp2;exact bodyPost_ret (v:=.tuple #[.int .i64 60,.int .i64 58,.int .i64 56,.int .i64 (-1)]) (by simp[results,Tryz.results196,go_sem]) rfl ⟨rfl,rfl⟩
theorem rB(n:Int)(w:World):Calls Tryz.prog 339 #[.int .i64 n] w fun e w'=>e=.returned (.int .i64 (sg n))/\w'=w:=by
 rcases Int.lt_trichotomy n 0 with h|h|h
 ·have h':¬ 0<n:=by omega
  have e:sg n=-1:=by unfold sg;rw[qF h',qI h]
  go_enter Tryz.func339,Tryz.ntmps339;go_wp2;go_ret
  first|exact⟨rfl,rfl⟩|exact⟨xo e.symm,rfl⟩
 ·subst h;go_enter Tryz.func339,Tryz.ntmps339;go_wp2;go_ret;exact⟨rfl,rfl⟩
 ·have e:sg n=1:=by unfold sg;rw[qI h]
  have h':=h;go_enter Tryz.func339,Tryz.ntmps339;go_wp2;go_ret
  first|exact⟨rfl,rfl⟩|exact⟨xo e.symm,rfl⟩
theorem xh(n:Int)(b0:-1000<=n)(b1:n<=1000)(w:World):Calls Tryz.prog 197 #[.int .i64 n] w fun e w'=>e=.returned (.int .i64 (ab n))/\w'=w:=by
 by_cases h:n<0
 ·have e:ab n=-n:=by unfold ab;rw[qI h]
  have h':=h;go_enter Tryz.func197,Tryz.ntmps197;go_wp2;go_ret
  first|exact⟨rfl,rfl⟩|exact⟨xo e.symm,rfl⟩
 ·have e:ab n=n:=by unfold ab;rw[qF h]
  have h':=h;go_enter Tryz.func197,Tryz.ntmps197;go_wp2;go_ret
  first|exact⟨rfl,rfl⟩|exact⟨xo e.symm,rfl⟩
theorem zh(A:Array Value)(f:Nat->Int)(hA:∀i,i<64->A[i]?=some (.int .u8 (f i)))(x y:Int)(h0:0<=x)(h1:x<=63)(h2:0<=y)(h3:y<=63)
  (p:Nat->Int) (L:Nat) (hL:1<=L) (p1:p 1=x+8*sg (y/8-x/8)+sg (y%8-x%8)) (ps:∀i,p (i+1)=p i+8*sg (y/8-x/8)+sg (y%8-x%8)) (pL:p L=y)
  (pb:∀i,i<=L->0<=p i/\p i<=63) (pn:∀i,1<=i->i<L->p i≠y) (w:World) :
  Calls Tryz.prog 299 #[.agg A,.int .i64 x,.int .i64 y] w fun e w'=>e=.returned (.bool (freeI f p L))/\Gr w w':=by
 have s1:=C5 (y/8-x/8);have s2:=C5 (y%8-x%8);generalize e1:sg (y/8-x/8)=dr at s1 p1 ps;generalize e2:sg (y%8-x%8)=df at s2 p1 ps;have hp1:=qC p1;have hps:=qC ps;have hpL:=qC pL;have hpb:=qC pb;have hpn:=qC pn;have hAh:=qC hA;clear p1 ps pL pb pn hA;go_enter Tryz.func299,Tryz.ntmps299;go_wp2_with(go_at_call 339;refine(rB _ _).mono ?_;rintro e w' ⟨rfl,rfl⟩);go_loopg [9] (L-1) (fun k n wr=>∃i:Nat,1<=i/\i+k=L/\n=.int .i64 (p i)/\(∀j,j<i->1<=j->f (p j).toNat=46)/\wr=w.alloc (Obj.cells A 67))
 case atStart=>exact⟨1,qL _,by omega,by rw[qa hp1],fun j h1 h2=>by omega,rfl⟩
 case round =>
  obtain⟨i,i1,i2,rfl,hfree0,rfl⟩:=hrel;have hfree:=qC hfree0;clear hfree0;have bd:=qa hpb i (by omega);by_cases hlt:i<L
  ·have hne:(p i==y)=false:=by simpa using qa hpn i i1 hlt
   have hcell:(w.alloc (Obj.cells A 67)).cell? ⟨w.heap.size,(p i).toNat,none⟩=some (.int .u8 (f (p i).toNat)):=by
    rw[cell_of_row _ _ _ _ _ _ (heap_alloc_new _ _)];exact qa hAh _ (by omega)
   have hnx:Hid (p (i+1)=p i+8*dr+df):=qa hps i;generalize ef:f (p i).toNat=c at hcell;have ef':=qC ef;clear ef;generalize em:p i=m at hne hcell hnx bd;have em':=qC em;clear em;by_cases hc:c=46
   ·have hc':=qC hc;subst hc;go_wp2;go_roundg (gk-1)
    case measure=>omega
    case rel =>
     refine⟨i+1,by omega,by omega,by rw[qa hnx],?_,rfl⟩;intro j h1 h2;by_cases e:j=i
     ·subst e;exact qa ef'
     ·exact qa hfree j (by omega) h2
   ·have hcb:(c==46)=false:=by simpa using hc
    go_wp2;go_ret;refine⟨?_,(Gr.refl _).alloc _ _⟩
    have:freeI f p L=false:=by
     unfold freeI;rw[qX];intro h;exact hc ((qa ef').symm.trans (h i hlt i1))
    rw[this];rfl
  ·have e:i=L:=by omega
   subst e;have hy:=qa hpL;rw[hy];go_wp2;go_ret;refine⟨?_,(Gr.refl _).alloc _ _⟩
   have:freeI f p i=true:=by
    unfold freeI;rw[qG];exact qa hfree
   rw[this];rfl
theorem nb(A:Array Value)(f:Nat->Int)(hA:∀i,i<64->A[i]?=some (.int .u8 (f i)))(_hs:A.size=64)(s:Int)(x y:Int)(h0:0<=x)(h1:x<=63)(h2:0<=y)(h3:y<=63)(w:World) :
  Calls Tryz.prog 247 #[.agg A,.int .i64 0,.int .i64 s,.int .i64 x,.int .i64 y] w fun e w'=>e=.returned (.bool (xS f 0 s x y))/\Gr w w':=by
 have hAh:=qC hA;clear hA;have ba:=nw (y%8-x%8) (by omega) (by omega);have br:=nw (y/8-x/8) (by omega) (by omega);have e0:xS f 0 s x y=((ab (y%8-x%8)==1)&&(y/8-x/8==s)):=rfl;rw[e0];clear e0;rcases Bool.eq_false_or_eq_true (ab (y%8-x%8)==ab (y/8-x/8))with c1|c1
 all_goals
  rcases Bool.eq_false_or_eq_true (ab (y%8-x%8)==1)with c2|c2
  all_goals
   rw[c2];go_enter Tryz.func247,Tryz.ntmps247;go_wp2_with((go_at_call 197;refine(xh _ (by omega) (by omega) _).mono ?_;rintro e w' ⟨rfl,rfl⟩));go_ret;exact⟨rfl,(Gr.refl _).alloc _ _⟩
theorem nZ(A:Array Value)(f:Nat->Int)(hA:∀i,i<64->A[i]?=some (.int .u8 (f i)))(_hs:A.size=64)(s:Int)(x y:Int)(h0:0<=x)(h1:x<=63)(h2:0<=y)(h3:y<=63)(w:World) :
  Calls Tryz.prog 247 #[.agg A,.int .i64 1,.int .i64 s,.int .i64 x,.int .i64 y] w fun e w'=>e=.returned (.bool (xS f 1 s x y))/\Gr w w':=by
 have hAh:=qC hA;clear hA;have ba:=nw (y%8-x%8) (by omega) (by omega);have br:=nw (y/8-x/8) (by omega) (by omega);have e0:xS f 1 s x y=(ab (y%8-x%8)*ab (y/8-x/8)==2):=rfl;rw[e0];clear e0;have hw:=mO _ _ ba br;rcases Bool.eq_false_or_eq_true (ab (y%8-x%8)==ab (y/8-x/8))with c1|c1
 all_goals
  go_enter Tryz.func247,Tryz.ntmps247;go_wp2_with((go_at_call 197;refine(xh _ (by omega) (by omega) _).mono ?_;rintro e w' ⟨rfl,rfl⟩));go_ret;exact⟨rfl,(Gr.refl _).alloc _ _⟩
theorem nV(A:Array Value)(f:Nat->Int)(hA:∀i,i<64->A[i]?=some (.int .u8 (f i)))(_hs:A.size=64)(s:Int)(x y:Int)(h0:0<=x)(h1:x<=63)(h2:0<=y)(h3:y<=63)(w:World) :
  Calls Tryz.prog 247 #[.agg A,.int .i64 5,.int .i64 s,.int .i64 x,.int .i64 y] w fun e w'=>e=.returned (.bool (xS f 5 s x y))/\Gr w w':=by
 have hAh:=qC hA;clear hA;have ba:=nw (y%8-x%8) (by omega) (by omega);have br:=nw (y/8-x/8) (by omega) (by omega);have e0:xS f 5 s x y=(decide (ab (y%8-x%8)<=1)&&decide (ab (y/8-x/8)<=1)&&decide (0<ab (y%8-x%8)+ab (y/8-x/8))):=rfl;rw[e0];clear e0;rcases Bool.eq_false_or_eq_true (ab (y%8-x%8)==ab (y/8-x/8))with c1|c1
 all_goals
  rcases Bool.eq_false_or_eq_true (decide (ab (y%8-x%8)<=1))with c2|c2
  all_goals
   rcases Bool.eq_false_or_eq_true (decide (ab (y/8-x/8)<=1))with c3|c3
   all_goals
    rw[c2,c3];go_enter Tryz.func247,Tryz.ntmps247;go_wp2_with((go_at_call 197;refine(xh _ (by omega) (by omega) _).mono ?_;rintro e w' ⟨rfl,rfl⟩));go_ret;exact⟨rfl,(Gr.refl _).alloc _ _⟩
theorem nY(A:Array Value)(f:Nat->Int)(hA:∀i,i<64->A[i]?=some (.int .u8 (f i)))(hs:A.size=64)(s:Int)(x y:Int)(h0:0<=x)(h1:x<=63)(h2:0<=y)(h3:y<=63)(w:World) :
  Calls Tryz.prog 247 #[.agg A,.int .i64 2,.int .i64 s,.int .i64 x,.int .i64 y] w fun e w'=>e=.returned (.bool (xS f 2 s x y))/\Gr w w':=by
 have hAh:=qC hA;clear hA;have ba:=nw (y%8-x%8) (by omega) (by omega);have br:=nw (y/8-x/8) (by omega) (by omega);have e0:xS f 2 s x y=(yg x y&&freeI f (pI x y) (LI x y)):=rfl;have e1:yd x y=((y%8-x%8==0) != (y/8-x/8==0)):=rfl;have e2:yg x y=((ab (y%8-x%8)==ab (y/8-x/8))&&decide (0<ab (y%8-x%8))):=rfl;rw[e0];clear e0;rcases cC (y%8-x%8) (y/8-x/8)with⟨c1,c2,c3,c4⟩|⟨c1,c2,c3,c4⟩|⟨c1,c2,c3,c4⟩|⟨c1,c2,c3,c4⟩|⟨c1,c2,c3,c4⟩
 ·rw[c3,c4]at e1;rw[c1,c2]at e2;try rw[e1]
  try rw[e2]
  clear e1 e2;go_enter Tryz.func247,Tryz.ntmps247;go_wp2_with((go_at_call 197;refine(xh _ (by omega) (by omega) _).mono ?_;rintro e w' ⟨rfl,rfl⟩));go_ret;exact⟨rfl,(Gr.refl _).alloc _ _⟩
 ·rw[c3,c4]at e1;rw[c1,c2]at e2;try rw[e1]
  try rw[e2]
  clear e1 e2;go_enter Tryz.func247,Tryz.ntmps247;go_wp2_with((go_at_call 197;refine(xh _ (by omega) (by omega) _).mono ?_;rintro e w' ⟨rfl,rfl⟩));go_ret;exact⟨rfl,(Gr.refl _).alloc _ _⟩
 ·rw[c3,c4]at e1;rw[c1,c2]at e2;try rw[e1]
  try rw[e2]
  clear e1 e2;go_enter Tryz.func247,Tryz.ntmps247;go_wp2_with((go_at_call 197;refine(xh _ (by omega) (by omega) _).mono ?_;rintro e w' ⟨rfl,rfl⟩));go_ret;exact⟨rfl,(Gr.refl _).alloc _ _⟩
 ·rw[c3,c4]at e1;rw[c1,c2]at e2;try rw[e1]
  try rw[e2]
  have hl:Hid (yd x y=true\/yg x y=true):=qC (by rw[e1,e2];decide);clear e1 e2;go_enter Tryz.func247,Tryz.ntmps247;go_wp2_with(first|(go_at_call 197;refine(xh _ (by omega) (by omega) _).mono ?_;rintro e w' ⟨rfl,rfl⟩)|(refine wpList_load_row rfl 67 _ rfl w.heap.size rfl 67 A (0,0) _ (heap_alloc_new _ _) Tryz.underlying67 rfl (by rw[hs];exact x7) ?_)|(go_at_call 299;refine(zh A f (qa hAh) x y h0 h1 h2 h3 (pI x y) (LI x y) (FC x y h0 h1 h2 h3 (qa hl)) (FSq x y) (FF x y) (FD x y h0 h1 h2 h3 (qa hl)) (Dp x y h0 h1 h2 h3 (qa hl)) (FE x y h0 h1 h2 h3 (qa hl)) _).mono ?_;rintro e w' ⟨rfl,hg⟩));go_ret;exact⟨rfl,((Gr.refl _).alloc _ _).trans hg⟩
 ·rw[c3,c4]at e1;rw[c1,c2]at e2;try rw[e1]
  try rw[e2]
  clear e1 e2;go_enter Tryz.func247,Tryz.ntmps247;go_wp2_with((go_at_call 197;refine(xh _ (by omega) (by omega) _).mono ?_;rintro e w' ⟨rfl,rfl⟩));go_ret;exact⟨rfl,(Gr.refl _).alloc _ _⟩
theorem nX(A:Array Value)(f:Nat->Int)(hA:∀i,i<64->A[i]?=some (.int .u8 (f i)))(hs:A.size=64)(s:Int)(x y:Int)(h0:0<=x)(h1:x<=63)(h2:0<=y)(h3:y<=63)(w:World) :
  Calls Tryz.prog 247 #[.agg A,.int .i64 3,.int .i64 s,.int .i64 x,.int .i64 y] w fun e w'=>e=.returned (.bool (xS f 3 s x y))/\Gr w w':=by
 have hAh:=qC hA;clear hA;have ba:=nw (y%8-x%8) (by omega) (by omega);have br:=nw (y/8-x/8) (by omega) (by omega);have e0:xS f 3 s x y=(yd x y&&freeI f (pI x y) (LI x y)):=rfl;have e1:yd x y=((y%8-x%8==0) != (y/8-x/8==0)):=rfl;have e2:yg x y=((ab (y%8-x%8)==ab (y/8-x/8))&&decide (0<ab (y%8-x%8))):=rfl;rw[e0];clear e0;rcases cC (y%8-x%8) (y/8-x/8)with⟨c1,c2,c3,c4⟩|⟨c1,c2,c3,c4⟩|⟨c1,c2,c3,c4⟩|⟨c1,c2,c3,c4⟩|⟨c1,c2,c3,c4⟩
 ·rw[c3,c4]at e1;rw[c1,c2]at e2;try rw[e1]
  try rw[e2]
  clear e1 e2;go_enter Tryz.func247,Tryz.ntmps247;go_wp2_with((go_at_call 197;refine(xh _ (by omega) (by omega) _).mono ?_;rintro e w' ⟨rfl,rfl⟩));go_ret;exact⟨rfl,(Gr.refl _).alloc _ _⟩
 ·rw[c3,c4]at e1;rw[c1,c2]at e2;try rw[e1]
  try rw[e2]
  have hl:Hid (yd x y=true\/yg x y=true):=qC (by rw[e1,e2];decide);clear e1 e2;go_enter Tryz.func247,Tryz.ntmps247;go_wp2_with(first|(go_at_call 197;refine(xh _ (by omega) (by omega) _).mono ?_;rintro e w' ⟨rfl,rfl⟩)|(refine wpList_load_row rfl 67 _ rfl w.heap.size rfl 67 A (0,0) _ (heap_alloc_new _ _) Tryz.underlying67 rfl (by rw[hs];exact x7) ?_)|(go_at_call 299;refine(zh A f (qa hAh) x y h0 h1 h2 h3 (pI x y) (LI x y) (FC x y h0 h1 h2 h3 (qa hl)) (FSq x y) (FF x y) (FD x y h0 h1 h2 h3 (qa hl)) (Dp x y h0 h1 h2 h3 (qa hl)) (FE x y h0 h1 h2 h3 (qa hl)) _).mono ?_;rintro e w' ⟨rfl,hg⟩));go_ret;exact⟨rfl,((Gr.refl _).alloc _ _).trans hg⟩
 ·rw[c3,c4]at e1;rw[c1,c2]at e2;try rw[e1]
  try rw[e2]
  have hl:Hid (yd x y=true\/yg x y=true):=qC (by rw[e1,e2];decide);clear e1 e2;go_enter Tryz.func247,Tryz.ntmps247;go_wp2_with(first|(go_at_call 197;refine(xh _ (by omega) (by omega) _).mono ?_;rintro e w' ⟨rfl,rfl⟩)|(refine wpList_load_row rfl 67 _ rfl w.heap.size rfl 67 A (0,0) _ (heap_alloc_new _ _) Tryz.underlying67 rfl (by rw[hs];exact x7) ?_)|(go_at_call 299;refine(zh A f (qa hAh) x y h0 h1 h2 h3 (pI x y) (LI x y) (FC x y h0 h1 h2 h3 (qa hl)) (FSq x y) (FF x y) (FD x y h0 h1 h2 h3 (qa hl)) (Dp x y h0 h1 h2 h3 (qa hl)) (FE x y h0 h1 h2 h3 (qa hl)) _).mono ?_;rintro e w' ⟨rfl,hg⟩));go_ret;exact⟨rfl,((Gr.refl _).alloc _ _).trans hg⟩
 ·rw[c3,c4]at e1;rw[c1,c2]at e2;try rw[e1]
  try rw[e2]
  clear e1 e2;go_enter Tryz.func247,Tryz.ntmps247;go_wp2_with((go_at_call 197;refine(xh _ (by omega) (by omega) _).mono ?_;rintro e w' ⟨rfl,rfl⟩));go_ret;exact⟨rfl,(Gr.refl _).alloc _ _⟩
 ·rw[c3,c4]at e1;rw[c1,c2]at e2;try rw[e1]
  try rw[e2]
  clear e1 e2;go_enter Tryz.func247,Tryz.ntmps247;go_wp2_with((go_at_call 197;refine(xh _ (by omega) (by omega) _).mono ?_;rintro e w' ⟨rfl,rfl⟩));go_ret;exact⟨rfl,(Gr.refl _).alloc _ _⟩
theorem nW(A:Array Value)(f:Nat->Int)(hA:∀i,i<64->A[i]?=some (.int .u8 (f i)))(hs:A.size=64)(s:Int)(x y:Int)(h0:0<=x)(h1:x<=63)(h2:0<=y)(h3:y<=63)(w:World) :
  Calls Tryz.prog 247 #[.agg A,.int .i64 4,.int .i64 s,.int .i64 x,.int .i64 y] w fun e w'=>e=.returned (.bool (xS f 4 s x y))/\Gr w w':=by
 have hAh:=qC hA;clear hA;have ba:=nw (y%8-x%8) (by omega) (by omega);have br:=nw (y/8-x/8) (by omega) (by omega);have e0:xS f 4 s x y=((yd x y||yg x y)&&freeI f (pI x y) (LI x y)):=rfl;have e1:yd x y=((y%8-x%8==0) != (y/8-x/8==0)):=rfl;have e2:yg x y=((ab (y%8-x%8)==ab (y/8-x/8))&&decide (0<ab (y%8-x%8))):=rfl;rw[e0];clear e0;rcases cC (y%8-x%8) (y/8-x/8)with⟨c1,c2,c3,c4⟩|⟨c1,c2,c3,c4⟩|⟨c1,c2,c3,c4⟩|⟨c1,c2,c3,c4⟩|⟨c1,c2,c3,c4⟩
 ·rw[c3,c4]at e1;rw[c1,c2]at e2;try rw[e1]
  try rw[e2]
  clear e1 e2;go_enter Tryz.func247,Tryz.ntmps247;go_wp2_with((go_at_call 197;refine(xh _ (by omega) (by omega) _).mono ?_;rintro e w' ⟨rfl,rfl⟩));go_ret;exact⟨rfl,(Gr.refl _).alloc _ _⟩
 ·rw[c3,c4]at e1;rw[c1,c2]at e2;try rw[e1]
  try rw[e2]
  have hl:Hid (yd x y=true\/yg x y=true):=qC (by rw[e1,e2];decide);clear e1 e2;go_enter Tryz.func247,Tryz.ntmps247;go_wp2_with(first|(go_at_call 197;refine(xh _ (by omega) (by omega) _).mono ?_;rintro e w' ⟨rfl,rfl⟩)|(refine wpList_load_row rfl 67 _ rfl w.heap.size rfl 67 A (0,0) _ (heap_alloc_new _ _) Tryz.underlying67 rfl (by rw[hs];exact x7) ?_)|(go_at_call 299;refine(zh A f (qa hAh) x y h0 h1 h2 h3 (pI x y) (LI x y) (FC x y h0 h1 h2 h3 (qa hl)) (FSq x y) (FF x y) (FD x y h0 h1 h2 h3 (qa hl)) (Dp x y h0 h1 h2 h3 (qa hl)) (FE x y h0 h1 h2 h3 (qa hl)) _).mono ?_;rintro e w' ⟨rfl,hg⟩));go_ret;exact⟨rfl,((Gr.refl _).alloc _ _).trans hg⟩
 ·rw[c3,c4]at e1;rw[c1,c2]at e2;try rw[e1]
  try rw[e2]
  have hl:Hid (yd x y=true\/yg x y=true):=qC (by rw[e1,e2];decide);clear e1 e2;go_enter Tryz.func247,Tryz.ntmps247;go_wp2_with(first|(go_at_call 197;refine(xh _ (by omega) (by omega) _).mono ?_;rintro e w' ⟨rfl,rfl⟩)|(refine wpList_load_row rfl 67 _ rfl w.heap.size rfl 67 A (0,0) _ (heap_alloc_new _ _) Tryz.underlying67 rfl (by rw[hs];exact x7) ?_)|(go_at_call 299;refine(zh A f (qa hAh) x y h0 h1 h2 h3 (pI x y) (LI x y) (FC x y h0 h1 h2 h3 (qa hl)) (FSq x y) (FF x y) (FD x y h0 h1 h2 h3 (qa hl)) (Dp x y h0 h1 h2 h3 (qa hl)) (FE x y h0 h1 h2 h3 (qa hl)) _).mono ?_;rintro e w' ⟨rfl,hg⟩));go_ret;exact⟨rfl,((Gr.refl _).alloc _ _).trans hg⟩
 ·rw[c3,c4]at e1;rw[c1,c2]at e2;try rw[e1]
  try rw[e2]
  have hl:Hid (yd x y=true\/yg x y=true):=qC (by rw[e1,e2];decide);clear e1 e2;go_enter Tryz.func247,Tryz.ntmps247;go_wp2_with(first|(go_at_call 197;refine(xh _ (by omega) (by omega) _).mono ?_;rintro e w' ⟨rfl,rfl⟩)|(refine wpList_load_row rfl 67 _ rfl w.heap.size rfl 67 A (0,0) _ (heap_alloc_new _ _) Tryz.underlying67 rfl (by rw[hs];exact x7) ?_)|(go_at_call 299;refine(zh A f (qa hAh) x y h0 h1 h2 h3 (pI x y) (LI x y) (FC x y h0 h1 h2 h3 (qa hl)) (FSq x y) (FF x y) (FD x y h0 h1 h2 h3 (qa hl)) (Dp x y h0 h1 h2 h3 (qa hl)) (FE x y h0 h1 h2 h3 (qa hl)) _).mono ?_;rintro e w' ⟨rfl,hg⟩));go_ret;exact⟨rfl,((Gr.refl _).alloc _ _).trans hg⟩
 ·rw[c3,c4]at e1;rw[c1,c2]at e2;try rw[e1]
  try rw[e2]
  clear e1 e2;go_enter Tryz.func247,Tryz.ntmps247;go_wp2_with((go_at_call 197;refine(xh _ (by omega) (by omega) _).mono ?_;rintro e w' ⟨rfl,rfl⟩));go_ret;exact⟨rfl,(Gr.refl _).alloc _ _⟩
section
attribute [local go_sem] qd qe
theorem qzz(A:Array Value)(f:Nat->Int)(hA:∀i,i<64->A[i]?=some (.int .u8 (f i)))(hs:A.size=64)(k:Nat)(hk:k<=5)(s:Int)(x y:Int)(h0:0<=x)(h1:x<=63)(h2:0<=y)(h3:y<=63)(w:World) :
  Calls Tryz.prog 247 #[.agg A,.int .i64 (k:Int),.int .i64 s,.int .i64 x,.int .i64 y] w fun e w'=>e=.returned (.bool (xS f k s x y))/\Gr w w':=by
 have:k=0\/k=1\/k=2\/k=3\/k=4\/k=5:=by omega
 rcases this with rfl|rfl|rfl|rfl|rfl|rfl
 ·exact nb A f hA hs s x y h0 h1 h2 h3 w
 ·exact nZ A f hA hs s x y h0 h1 h2 h3 w
 ·exact nY A f hA hs s x y h0 h1 h2 h3 w
 ·exact nX A f hA hs s x y h0 h1 h2 h3 w
 ·exact nW A f hA hs s x y h0 h1 h2 h3 w
 ·exact nV A f hA hs s x y h0 h1 h2 h3 w
theorem aD{c:UInt8}{b:Bool}(h:vB c=xK b):∃k:Nat,k<=5/\vE c=(k:Int):=by
 have:=rn c;unfold vB xK at h;unfold vE;cases b
 ·simp only[qR,if_false]at h;refine⟨(jB c-6).toNat,?_,?_⟩
  ·split at h<;>(try split at h)<;>omega
  ·rw[qI (by split at h<;>(try split at h)<;>omega)]
   split at h<;>(try split at h)<;>omega
 ·simp only[if_true]at h;refine⟨(jB c).toNat,?_,?_⟩
  ·split at h<;>(try split at h)<;>omega
  ·rw[qF (by split at h<;>(try split at h)<;>omega)]
   split at h<;>(try split at h)<;>omega
def Bd(b:Nat)(A:Array Value)(w:World):Prop:=w.heap[b]?=some (.cells A 67)/\b<w.heap.size
theorem Bd.gr{b:Nat}{A:Array Value}{w w':World}(h:Bd b A w)(g:Gr w w'):Bd b A w':=⟨by rw[Below.block g _ h.2];exact h.1,qN h.2 (Below.size g)⟩
theorem Bd.cell{b:Nat}{A:Array Value}{w:World}(h:Bd b A w){i:Nat}{v:Value}(hv:A[i]?=some v):w.cell? ⟨b,i,none⟩=some v:=by
 rw[cell_of_row _ _ _ _ _ _ h.1];exact hv
theorem lH(c:UInt8)(w:World):Calls Tryz.prog 107 #[.int .u8 (c.toNat:Int)] w fun e w'=>e=.returned (.int .i64 (vE c))/\Gr w w' :=
 (zp c w).mono fun _ _ h=>⟨h.1,by rw[h.2];exact Gr.refl _⟩
theorem gU{w1 w':World}{b k:Nat}{A:Array Value}{v:Value}(h:Bd b A w1)(hv:A[k]?=some v)(g:Gr w1 w'):Gr w1 w'/\w'.rangeAt b 0 A.toList/\w'.cell? ⟨b,k,none⟩=some v :=
 ⟨g,(fun j u hu=>by rw[Nat.zero_add];exact(h.gr g).cell (by rw[<-qO];exact hu)),(h.gr g).cell hv⟩
theorem nK{z:Nat->UInt8}{A:Array Value}(hs:A.size=64)(hA:∀i,i<64->A[i]?=some (.int .u8 ((z i).toNat:Int))):∀v∈A.toList,v.oneCell'=true:=by
 intro v hv;obtain⟨i,hi,rfl⟩:=List.getElem_of_mem hv;have hi':i<64:=by simpa[hs]using hi
 have:=hA i hi';rw[<-qO,List.getElem?_eq_getElem hi]at this;simp at this;simp[this,Value.oneCell']
theorem ju(z:Nat->UInt8)(A:Array Value)(hs:A.size=64)(hA:∀i,i<64->A[i]?=some (.int .u8 ((z i).toNat:Int)))(y:Int)(h0:0<=y)(h1:y<=63)(b:Bool)(w:World):Calls Tryz.prog 192 #[.agg A,.int .i64 y,.int .i64 (xK b)] w fun e w'=>e=.returned (.bool (zM z y b))/\Gr w w':=by
 obtain⟨f,hf⟩:∃f:Nat->Bool,Hid (f=fun n=>decide (vB (z n)=xK b)&&xS (zI z) (vE (z n)).toNat (xK b) (n:Int) y):=⟨_,qC rfl⟩;have hgoal:zM z y b=(List.range 64).any f:=by rw[qa hf];rfl
 rw[hgoal];clear hgoal;have hat:=qC (fun(k:Nat)(hk:k<=5)(n:Nat)(hn:n<64) W=>qzz A (zI z) (fun i hi=>hA i hi) hs k hk (xK b) (n:Int) y (by omega) (by omega) h0 h1 W);have hbd:Hid (Bd w.heap.size A (w.alloc (.cells A 67))):=qC ⟨heap_alloc_new _ _,by rw[World.size_alloc];omega⟩;have hg1:Hid (Gr w (w.alloc (.cells A 67))):=qC ((Gr.refl w).alloc _ _);have hA':=qC hA;have hu:=Tryz.underlying67;have hi:(Tryz.prog.info? 67).map (·.size)=some A.toList.length:=by rw[x7];simp[hs]
 have hl:A.toList.length=64:=by simpa using hs
 have h1c:∀v∈A.toList,v.oneCell'=true:=nK hs hA;clear hA;have hsb:xK b=1\/xK b=-1:=by cases b<;>simp[xK]
 have hkd:Hid (∀c:UInt8,vB c=xK b->∃k:Nat,k<=5/\vE c=(k:Int)):=qC fun c h=>aD h
 generalize xK b=sd at hf hat hsb hkd ⊢;go_enter Tryz.func192,Tryz.ntmps192;go_wp2;go_loopg [7] 64 (fun g n wr=>∃k:Nat,k+g=64/\n=.int .i64 k/\(∀j,j<k->f j=false)/\Gr (w.alloc (.cells A 67)) wr)
 case atStart=>exact⟨0,rfl,rfl,fun j hj=>absurd hj (Nat.not_lt_zero j),Gr.refl _⟩
 case round =>
  obtain⟨k,k1,rfl,k3,hgr⟩:=hrel;have k3':=qC k3;clear k3;by_cases hlt:k<64
  ·have hbw:=(qa hbd).gr hgr;have hv:=qa hA' k hlt;have hcell:=Bd.cell hbw hv;have hfk:Hid (f k=(decide (vB (z k)=sd)&&xS (zI z) (vE (z k)).toNat sd (k:Int) y)):=qC (by rw[qa hf]);by_cases hc:vB (z k)=sd
   ·obtain⟨kk,hkk5,hkk0⟩:=qa hkd (z k) hc;have hkk:=qC hkk0;have hcb:(vB (z k)==sd)=true:=by rw[hc];simp
    have hfk2:Hid (f k=xS (zI z) kk sd (k:Int) y):=qC (by rw[qa hfk,qJ hc,hkk0];simp);obtain⟨av,hav⟩:∃v,xS (zI z) kk sd (k:Int) y=v:=⟨_,rfl⟩;clear hfk hkk0 hc;cases av
    ·have hff:Hid (f k=false):=qC (by rw[qa hfk2,hav]);go_wp2_with(go_at_call 115;refine(za _ _).mono ?_;rintro e w' ⟨rfl,hw'⟩;obtain rfl:=hw'.symm);go_region_held3 (fun w'=>Gr wr w'/\w'.rangeAt w.heap.size 0 A.toList/\w'.cell? ⟨w.heap.size,k,none⟩=some (.int .u8 ((z k).toNat:Int))) (first|exact gU hbw hv (Gr.refl _).drew|exact gU hbw hv (by assumption)|exact gU hbw hv (Gr.alloc (vy (by assumption)) _ _)) (first|(go_at_call 107;refine(lH _ _).mono ?_;rintro e w' ⟨rfl,hg⟩;rw[qa hkk];have hg2:=Gr.trans (vy (by assumption)) hg)|(go_at_call 247;refine(qa hat kk hkk5 k hlt _).mono ?_;rintro e w' ⟨rfl,hg⟩;rw[hav];have hg2:=Gr.trans (vy (by assumption)) hg));go_wp2;go_roundg (gk-1)
     case measure=>omega
     case rel=>exact⟨k+1,by omega,by go_num,(by
      intro j hj;by_cases hjk:j=k
      ·subst hjk;exact qa hff
      ·exact qa k3' j (by omega)),Gr.trans hgr hg2⟩
    ·have hff:Hid (f k=true):=qC (by rw[qa hfk2,hav]);go_wp2_with(go_at_call 115;refine(za _ _).mono ?_;rintro e w' ⟨rfl,hw'⟩;obtain rfl:=hw'.symm);go_region_held3 (fun w'=>Gr wr w'/\w'.rangeAt w.heap.size 0 A.toList/\w'.cell? ⟨w.heap.size,k,none⟩=some (.int .u8 ((z k).toNat:Int))) (first|exact gU hbw hv (Gr.refl _).drew|exact gU hbw hv (by assumption)|exact gU hbw hv (Gr.alloc (vy (by assumption)) _ _)) (first|(go_at_call 107;refine(lH _ _).mono ?_;rintro e w' ⟨rfl,hg⟩;rw[qa hkk];have hg2:=Gr.trans (vy (by assumption)) hg)|(go_at_call 247;refine(qa hat kk hkk5 k hlt _).mono ?_;rintro e w' ⟨rfl,hg⟩;rw[hav];have hg2:=Gr.trans (vy (by assumption)) hg));go_wp2;go_ret;exact⟨by rw[qY.2 ⟨k,qK.2 hlt,qa hff⟩];rfl,Gr.trans (qa hg1) (Gr.trans hgr hg2)⟩
   ·have hcb:(vB (z k)==sd)=false:=by simpa using hc
    have hff:Hid (f k=false):=qC (by rw[qa hfk,qE hc];rfl);clear hfk hc;go_wp2_with(go_at_call 115;refine(za _ _).mono ?_;rintro e w' ⟨rfl,hw'⟩;obtain rfl:=hw'.symm);go_roundg (gk-1)
    case measure=>omega
    case rel=>exact⟨k+1,by omega,by go_num,(by
     intro j hj;by_cases hjk:j=k
     ·subst hjk;exact qa hff
     ·exact qa k3' j (by omega)),hgr⟩
  ·have ek:k=64:=by omega
   subst ek;go_wp2;go_ret
   exact⟨by
    have:(List.range 64).any f=false:=by
     rw[List.any_eq_false];intro j hj;rw[qa k3' j (qK.1 hj)];decide
    rw[this];rfl,Gr.trans (qa hg1) hgr⟩
theorem man5(b:Bool)(w:World):Calls Tryz.prog 195 #[.int .i64 5,.int .i64 (xK b)] w fun e w'=>e=.returned (.int .u8 ((vk b).toNat:Int))/\Gr w w':=by
 rw[<-sj];exact(DE b w).mono fun _ _ h=>⟨h.1,by rw[h.2];exact Gr.refl _⟩
theorem gT{w1 w':World}{b k:Nat}{A:Array Value}{v:Value}(h:Bd b A w1)(hv:A[k]?=some v)(g:Gr w1 w'):Gr w1 w'/\w'.cell? ⟨b,k,none⟩=some v :=
 ⟨g,(h.gr g).cell hv⟩
theorem qzo(z:Nat->UInt8)(A:Array Value)(hA:∀i,i<64->A[i]?=some (.int .u8 ((z i).toNat:Int)))(b:Bool)(w:World):Calls Tryz.prog 193 #[.agg A,.int .i64 (xK b)] w fun e w'=>e=.returned (.int .i64 (xR z b))/\Gr w w':=by
 have hbd:Hid (Bd w.heap.size A (w.alloc (.cells A 67))):=qC ⟨heap_alloc_new _ _,by rw[World.size_alloc];omega⟩;have hg1:Hid (Gr w (w.alloc (.cells A 67))):=qC ((Gr.refl w).alloc _ _);have hA':=qC hA;clear hA;have hm:=qC (man5 b);have hat:=qC (fun k h hk h64=>qkm (z:=z) (b:=b) (k:=k) h hk h64);have hno:=qC (fun h=>aC (z:=z) (b:=b) h);generalize vk b=L at hm hat hno;generalize xK b=sd at hm ⊢;generalize xR z b=V at hat hno ⊢;go_enter Tryz.func193,Tryz.ntmps193;go_wp2;go_loopg [5] 64 (fun g n wr=>∃k:Nat,k+g=64/\n=.int .i64 k/\(∀j,j<k->(z j==L)=false)/\Gr (w.alloc (.cells A 67)) wr)
 case atStart=>exact⟨0,rfl,rfl,fun j hj=>absurd hj (Nat.not_lt_zero j),Gr.refl _⟩
 case round =>
  obtain⟨k,k1,rfl,k3,hgr⟩:=hrel;have k3':=qC k3;clear k3;by_cases hlt:k<64
  ·have hbw:=(qa hbd).gr hgr;have hv:=qa hA' k hlt;by_cases hc:z k=L
   ·have hend:Hid (V=(k:Int)):=qC (qa hat k (qa k3') (by simp[hc]) hlt);subst hc;go_wp2;go_region_held3 (fun w'=>Gr wr w'/\w'.cell? ⟨w.heap.size,k,none⟩=some (.int .u8 ((z k).toNat:Int))) (first|exact gT hbw hv (Gr.refl _).drew|exact gT hbw hv (by assumption)|exact gT hbw hv (Gr.alloc (vy (by assumption)) _ _)) (first|(go_at_call 195;refine(qa hm _).mono ?_;rintro e w' ⟨rfl,hg⟩;have hg2:=Gr.trans (vy (by assumption)) hg));go_wp2;go_ret;exact⟨xo (qa hend).symm,Gr.trans (qa hg1) (Gr.trans hgr hg2)⟩
   ·have hne:(((z k).toNat:Int)==(L.toNat:Int))=false:=by
     rw[qM];intro h;exact hc (q6.1 (by omega))
    have hff:Hid ((z k==L)=false):=qC (by simpa using hc);clear hc;go_wp2;go_region_held3 (fun w'=>Gr wr w'/\w'.cell? ⟨w.heap.size,k,none⟩=some (.int .u8 ((z k).toNat:Int))) (first|exact gT hbw hv (Gr.refl _).drew|exact gT hbw hv (by assumption)|exact gT hbw hv (Gr.alloc (vy (by assumption)) _ _)) (first|(go_at_call 195;refine(qa hm _).mono ?_;rintro e w' ⟨rfl,hg⟩;have hg2:=Gr.trans (vy (by assumption)) hg));go_wp2;go_roundg (gk-1)
    case measure=>omega
    case rel=>exact⟨k+1,by omega,by go_num,(by
     intro j hj;by_cases hjk:j=k
     ·subst hjk;exact qa hff
     ·exact qa k3' j (by omega)),Gr.trans hgr hg2⟩
  ·have ek:k=64:=by omega
   subst ek;have hend:Hid (V=-1):=qC (qa hno (qa k3'));go_wp2;go_ret;exact⟨xo (qa hend).symm,Gr.trans (qa hg1) hgr⟩
end
end Go.Proofs.YtnfakamfmkhlbabGreatDoor.C
