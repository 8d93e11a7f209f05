import Derived.Test.YtnfakamfmkhlbaaGreatDoorZe13
import Derived.Test.YtnfakamfmkhlbaaGreatDoorZe7
import Derived.Test.YtnfakamfmkhlbaaGreatDoorZe4
import Derived.LoopTactic
import Derived.Deep.LoopGhost
import Derived.Below
import Derived.Laws.Rows
import Derived.Deep.RegionHeld3
set_option maxRecDepth 100000
set_option maxHeartbeats 4000000
set_option linter.unusedSimpArgs false
namespace Go.Proofs.YtnfakamfmkhlbaaGreatDoor.C
open Go.ChangeShapes Go.WideShapes Go.ChangeAt Go.RowKit
open Go.Proofs.YtnfakamfmkhlbaaGreatDoor.P
theorem place_let (c:UInt8) (w:World):Calls Tryz.prog 118 #[.string ⟨#[80,78,66,82,81,75,112,110,98,114,113,107]⟩,.int .u8 (c.toNat:Int)] w fun e w'=>e=.returned (.int .i64 (ixc c))/\w'=w :=
 qx ⟨#[80,78,66,82,81,75,112,110,98,114,113,107]⟩ (by decide) c w
theorem qqr (c:UInt8) (w:World):Calls Tryz.prog 86 #[.int .u8 (c.toNat:Int)] w fun e w'=>e=.returned (.int .i64 (kdc c))/\w'=w:=by
 have hbd:=qxx c;have hp:=hide (place_let c);have e:kdc c=if 6<=ixc c then ixc c-6 else ixc c:=rfl;rw [e];clear e;generalize ixc c=x at hbd hp ⊢;by_cases h:6<=x
 ·rw [if_pos h];go_enter Tryz.func86,Tryz.ntmps86;go_wp2_with (go_at_call 118;refine (qa hp _).mono ?_;rintro e w' ⟨rfl,rfl⟩);go_ret;exact ⟨rfl,rfl⟩
 ·rw [if_neg h];go_enter Tryz.func86,Tryz.ntmps86;go_wp2_with (go_at_call 118;refine (qa hp _).mono ?_;rintro e w' ⟨rfl,rfl⟩);go_ret;exact ⟨rfl,rfl⟩
theorem jt (c:UInt8) (w:World):Calls Tryz.prog 87 #[.int .u8 (c.toNat:Int)] w fun e w'=>e=.returned (.int .i64 (coc c))/\w'=w:=by
 have hbd:=qxx c;have hp:=hide (place_let c);have e:coc c=if ixc c<0 then 0 else if ixc c<6 then 1 else -1:=rfl;rw [e];clear e;generalize ixc c=x at hbd hp ⊢;by_cases h:x<0
 ·rw [if_pos h];go_enter Tryz.func87,Tryz.ntmps87;go_wp2_with (go_at_call 118;refine (qa hp _).mono ?_;rintro e w' ⟨rfl,rfl⟩);go_ret;exact ⟨rfl,rfl⟩
 ·rw [if_neg h];by_cases h6:x<6
  ·rw [if_pos h6];go_enter Tryz.func87,Tryz.ntmps87;go_wp2_with (go_at_call 118;refine (qa hp _).mono ?_;rintro e w' ⟨rfl,rfl⟩);go_ret;exact ⟨rfl,rfl⟩
  ·rw [if_neg h6];go_enter Tryz.func87,Tryz.ntmps87;go_wp2_with (go_at_call 118;refine (qa hp _).mono ?_;rintro e w' ⟨rfl,rfl⟩);go_ret;exact ⟨rfl,rfl⟩
def manL (k:Nat) (b:Bool):UInt8:=lettersL.getD (if b then k else k+6) 0
theorem man_0 (b:Bool) (w:World):Calls Tryz.prog 89 #[.int .i64 0,.int .i64 (sdb b)] w fun e w'=>e=.returned (.int .u8 ((manL 0 b).toNat:Int))/\w'=w:=by
 cases b
 ·show Calls Tryz.prog 89 #[.int .i64 0,.int .i64 (-1)] w _;go_enter Tryz.func89,Tryz.ntmps89;go_wp2;go_ret;exact ⟨rfl,rfl⟩
 ·show Calls Tryz.prog 89 #[.int .i64 0,.int .i64 1] w _;go_enter Tryz.func89,Tryz.ntmps89;go_wp2;go_ret;exact ⟨rfl,rfl⟩
theorem man_3 (b:Bool) (w:World):Calls Tryz.prog 89 #[.int .i64 3,.int .i64 (sdb b)] w fun e w'=>e=.returned (.int .u8 ((manL 3 b).toNat:Int))/\w'=w:=by
 cases b
 ·show Calls Tryz.prog 89 #[.int .i64 3,.int .i64 (-1)] w _;go_enter Tryz.func89,Tryz.ntmps89;go_wp2;go_ret;exact ⟨rfl,rfl⟩
 ·show Calls Tryz.prog 89 #[.int .i64 3,.int .i64 1] w _;go_enter Tryz.func89,Tryz.ntmps89;go_wp2;go_ret;exact ⟨rfl,rfl⟩
theorem man_5 (b:Bool) (w:World):Calls Tryz.prog 89 #[.int .i64 5,.int .i64 (sdb b)] w fun e w'=>e=.returned (.int .u8 ((manL 5 b).toNat:Int))/\w'=w:=by
 cases b
 ·show Calls Tryz.prog 89 #[.int .i64 5,.int .i64 (-1)] w _;go_enter Tryz.func89,Tryz.ntmps89;go_wp2;go_ret;exact ⟨rfl,rfl⟩
 ·show Calls Tryz.prog 89 #[.int .i64 5,.int .i64 1] w _;go_enter Tryz.func89,Tryz.ntmps89;go_wp2;go_ret;exact ⟨rfl,rfl⟩
theorem king_man (b:Bool):manL 5 b=kingL b:=by cases b<;>rfl
def homeK (i:Nat):Int:=if 2<=i then 60 else 4
def homeT (i:Nat):Int:=(if 2<=i then 56 else 0)+(if i%2=0 then 6 else 2)
def homeR (i:Nat):Int:=(if 2<=i then 56 else 0)+(if i%2=0 then 7 else 0)
theorem zi (i:Nat) (hi:i<4) (w:World):Calls Tryz.prog 88 #[.int .i64 (i:Int)] w fun e w'=>e=.returned (.tuple #[.int .i64 (homeK i),.int .i64 (homeT i),.int .i64 (homeR i),.int .i64 (sdb (decide (i<2)))])/\w'=w:=by
 have:i=0\/i=1\/i=2\/i=3:=by omega
 rcases this with rfl|rfl|rfl|rfl
 ·go_enter Tryz.func88,Tryz.ntmps88;go_wp2;exact bodyPost_ret (v:=.tuple #[.int .i64 4,.int .i64 6,.int .i64 7,.int .i64 1]) (by simp [results,Tryz.results88,go_sem]) rfl ⟨rfl,rfl⟩
 ·go_enter Tryz.func88,Tryz.ntmps88;go_wp2;exact bodyPost_ret (v:=.tuple #[.int .i64 4,.int .i64 2,.int .i64 0,.int .i64 1]) (by simp [results,Tryz.results88,go_sem]) rfl ⟨rfl,rfl⟩
 ·go_enter Tryz.func88,Tryz.ntmps88;go_wp2;exact bodyPost_ret (v:=.tuple #[.int .i64 60,.int .i64 62,.int .i64 63,.int .i64 (-1)]) (by simp [results,Tryz.results88,go_sem]) rfl ⟨rfl,rfl⟩
 ·go_enter Tryz.func88,Tryz.ntmps88;go_wp2;exact bodyPost_ret (v:=.tuple #[.int .i64 60,.int .i64 58,.int .i64 56,.int .i64 (-1)]) (by simp [results,Tryz.results88,go_sem]) rfl ⟨rfl,rfl⟩
theorem sign_any (n:Int) (w:World):Calls Tryz.prog 277 #[.int .i64 n] w fun e w'=>e=.returned (.int .i64 (sg n))/\w'=w:=by
 rcases Int.lt_trichotomy n 0 with h|h|h
 ·have h':¬ 0<n:=by omega
  have e:sg n=-1:=by unfold sg;rw [if_neg h',if_pos h]
  go_enter Tryz.func277,Tryz.ntmps277;go_wp2;go_ret
  first|exact ⟨rfl,rfl⟩|exact ⟨xe e.symm,rfl⟩
 ·subst h;go_enter Tryz.func277,Tryz.ntmps277;go_wp2;go_ret;exact ⟨rfl,rfl⟩
 ·have e:sg n=1:=by unfold sg;rw [if_pos h]
  have h':=h;go_enter Tryz.func277,Tryz.ntmps277;go_wp2;go_ret
  first|exact ⟨rfl,rfl⟩|exact ⟨xe e.symm,rfl⟩
theorem xi (n:Int) (b0:-1000<=n) (b1:n<=1000) (w:World):Calls Tryz.prog 197 #[.int .i64 n] w fun e w'=>e=.returned (.int .i64 (ab n))/\w'=w:=by
 by_cases h:n<0
 ·have e:ab n=-n:=by unfold ab;rw [if_pos h]
  have h':=h;go_enter Tryz.func197,Tryz.ntmps197;go_wp2;go_ret
  first|exact ⟨rfl,rfl⟩|exact ⟨xe e.symm,rfl⟩
 ·have e:ab n=n:=by unfold ab;rw [if_neg h]
  have h':=h;go_enter Tryz.func197,Tryz.ntmps197;go_wp2;go_ret
  first|exact ⟨rfl,rfl⟩|exact ⟨xe e.symm,rfl⟩
theorem jz (A:Array Value) (f:Nat->Int) (hA:∀ i,i<64->A[i]?=some (.int .u8 (f i))) (x y:Int) (h0:0<=x) (h1:x<=63) (h2:0<=y) (h3:y<=63)
  (p:Nat->Int) (L:Nat) (hL:1<=L) (p1:p 1=x+8*sg (y/8-x/8)+sg (y%8-x%8)) (ps:∀ i,p (i+1)=p i+8*sg (y/8-x/8)+sg (y%8-x%8)) (pL:p L=y)
  (pb:∀ i,i<=L->0<=p i/\p i<=63) (pn:∀ i,1<=i->i<L->p i≠y) (w:World) :
  Calls Tryz.prog 230 #[.agg A,.int .i64 x,.int .i64 y] w fun e w'=>e=.returned (.bool (freeI f p L))/\Gr w w':=by
 have s1:=sg_bd (y/8-x/8);have s2:=sg_bd (y%8-x%8);generalize e1:sg (y/8-x/8)=dr at s1 p1 ps;generalize e2:sg (y%8-x%8)=df at s2 p1 ps;have hp1:=hide p1;have hps:=hide ps;have hpL:=hide pL;have hpb:=hide pb;have hpn:=hide pn;have hAh:=hide hA;clear p1 ps pL pb pn hA;go_enter Tryz.func230,Tryz.ntmps230;go_wp2_with (go_at_call 277;refine (sign_any _ _).mono ?_;rintro e w' ⟨rfl,rfl⟩);go_loopg [9] (L-1) (fun k n wr=>∃ i:Nat,1<=i/\i+k=L/\n=.int .i64 (p i)/\(∀ j,j<i->1<=j->f (p j).toNat=46)/\wr=w.alloc (Obj.cells A 22))
 case atStart=>exact ⟨1,Nat.le_refl _,by omega,by rw [qa hp1],fun j h1 h2=>by omega,rfl⟩
 case round =>
  obtain ⟨i,i1,i2,rfl,hfree0,rfl⟩:=hrel;have hfree:=hide hfree0;clear hfree0;have bd:=qa hpb i (by omega);by_cases hlt:i<L
  ·have hne:(p i==y)=false:=by simpa using qa hpn i i1 hlt
   have hcell:(w.alloc (Obj.cells A 22)).cell? ⟨w.heap.size,(p i).toNat,none⟩=some (.int .u8 (f (p i).toNat)):=by
    rw [cell_of_row _ _ _ _ _ _ (heap_alloc_new _ _)];exact qa hAh _ (by omega)
   have hnx:Hid (p (i+1)=p i+8*dr+df):=qa hps i;generalize ef:f (p i).toNat=c at hcell;have ef':=hide ef;clear ef;generalize em:p i=m at hne hcell hnx bd;have em':=hide em;clear em;by_cases hc:c=46
   ·have hc':=hide hc;subst hc;go_wp2;go_roundg (gk-1)
    case measure=>omega
    case rel =>
     refine ⟨i+1,by omega,by omega,by rw [qa hnx],?_,rfl⟩;intro j h1 h2;by_cases e:j=i
     ·subst e;exact qa ef'
     ·exact qa hfree j (by omega) h2
   ·have hcb:(c==46)=false:=by simpa using hc
    go_wp2;go_ret;refine ⟨?_,(Gr.refl _).alloc _ _⟩
    have:freeI f p L=false:=by
     unfold freeI;rw [decide_eq_false_iff_not];intro h;exact hc ((qa ef').symm.trans (h i hlt i1))
    rw [this];rfl
  ·have e:i=L:=by omega
   subst e;have hy:=qa hpL;rw [hy];go_wp2;go_ret;refine ⟨?_,(Gr.refl _).alloc _ _⟩
   have:freeI f p i=true:=by
    unfold freeI;rw [decide_eq_true_eq];exact qa hfree
   rw [this];rfl
theorem attacks_0 (A:Array Value) (f:Nat->Int) (hA:∀ i,i<64->A[i]?=some (.int .u8 (f i))) (_hs:A.size=64) (s:Int) (x y:Int) (h0:0<=x) (h1:x<=63) (h2:0<=y) (h3:y<=63) (w:World) :
  Calls Tryz.prog 156 #[.agg A,.int .i64 0,.int .i64 s,.int .i64 x,.int .i64 y] w fun e w'=>e=.returned (.bool (attI f 0 s x y))/\Gr w w':=by
 have hAh:=hide hA;clear hA;have ba:=qx7 (y%8-x%8) (by omega) (by omega);have br:=qx7 (y/8-x/8) (by omega) (by omega);have e0:attI f 0 s x y=((ab (y%8-x%8)==1)&&(y/8-x/8==s)):=rfl;rw [e0];clear e0;rcases Bool.eq_false_or_eq_true (ab (y%8-x%8)==ab (y/8-x/8)) with c1|c1
 all_goals
  rcases Bool.eq_false_or_eq_true (ab (y%8-x%8)==1) with c2|c2
  all_goals
   rw [c2];go_enter Tryz.func156,Tryz.ntmps156;go_wp2_with ((go_at_call 197;refine (xi _ (by omega) (by omega) _).mono ?_;rintro e w' ⟨rfl,rfl⟩));go_ret;exact ⟨rfl,(Gr.refl _).alloc _ _⟩
theorem attacks_1 (A:Array Value) (f:Nat->Int) (hA:∀ i,i<64->A[i]?=some (.int .u8 (f i))) (_hs:A.size=64) (s:Int) (x y:Int) (h0:0<=x) (h1:x<=63) (h2:0<=y) (h3:y<=63) (w:World) :
  Calls Tryz.prog 156 #[.agg A,.int .i64 1,.int .i64 s,.int .i64 x,.int .i64 y] w fun e w'=>e=.returned (.bool (attI f 1 s x y))/\Gr w w':=by
 have hAh:=hide hA;clear hA;have ba:=qx7 (y%8-x%8) (by omega) (by omega);have br:=qx7 (y/8-x/8) (by omega) (by omega);have e0:attI f 1 s x y=(ab (y%8-x%8)*ab (y/8-x/8)==2):=rfl;rw [e0];clear e0;have hw:=prod_wrap _ _ ba br;rcases Bool.eq_false_or_eq_true (ab (y%8-x%8)==ab (y/8-x/8)) with c1|c1
 all_goals
  go_enter Tryz.func156,Tryz.ntmps156;go_wp2_with ((go_at_call 197;refine (xi _ (by omega) (by omega) _).mono ?_;rintro e w' ⟨rfl,rfl⟩));go_ret;exact ⟨rfl,(Gr.refl _).alloc _ _⟩
theorem attacks_5 (A:Array Value) (f:Nat->Int) (hA:∀ i,i<64->A[i]?=some (.int .u8 (f i))) (_hs:A.size=64) (s:Int) (x y:Int) (h0:0<=x) (h1:x<=63) (h2:0<=y) (h3:y<=63) (w:World) :
  Calls Tryz.prog 156 #[.agg A,.int .i64 5,.int .i64 s,.int .i64 x,.int .i64 y] w fun e w'=>e=.returned (.bool (attI f 5 s x y))/\Gr w w':=by
 have hAh:=hide hA;clear hA;have ba:=qx7 (y%8-x%8) (by omega) (by omega);have br:=qx7 (y/8-x/8) (by omega) (by omega);have e0:attI f 5 s x y=(decide (ab (y%8-x%8)<=1)&&decide (ab (y/8-x/8)<=1)&&decide (0<ab (y%8-x%8)+ab (y/8-x/8))):=rfl;rw [e0];clear e0;rcases Bool.eq_false_or_eq_true (ab (y%8-x%8)==ab (y/8-x/8)) with c1|c1
 all_goals
  rcases Bool.eq_false_or_eq_true (decide (ab (y%8-x%8)<=1)) with c2|c2
  all_goals
   rcases Bool.eq_false_or_eq_true (decide (ab (y/8-x/8)<=1)) with c3|c3
   all_goals
    rw [c2,c3];go_enter Tryz.func156,Tryz.ntmps156;go_wp2_with ((go_at_call 197;refine (xi _ (by omega) (by omega) _).mono ?_;rintro e w' ⟨rfl,rfl⟩));go_ret;exact ⟨rfl,(Gr.refl _).alloc _ _⟩
theorem attacks_2 (A:Array Value) (f:Nat->Int) (hA:∀ i,i<64->A[i]?=some (.int .u8 (f i))) (hs:A.size=64) (s:Int) (x y:Int) (h0:0<=x) (h1:x<=63) (h2:0<=y) (h3:y<=63) (w:World) :
  Calls Tryz.prog 156 #[.agg A,.int .i64 2,.int .i64 s,.int .i64 x,.int .i64 y] w fun e w'=>e=.returned (.bool (attI f 2 s x y))/\Gr w w':=by
 have hAh:=hide hA;clear hA;have ba:=qx7 (y%8-x%8) (by omega) (by omega);have br:=qx7 (y/8-x/8) (by omega) (by omega);have e0:attI f 2 s x y=(slI x y&&freeI f (pI x y) (LI x y)):=rfl;have e1:stI x y=((y%8-x%8==0) != (y/8-x/8==0)):=rfl;have e2:slI x y=((ab (y%8-x%8)==ab (y/8-x/8))&&decide (0<ab (y%8-x%8))):=rfl;rw [e0];clear e0;rcases classes (y%8-x%8) (y/8-x/8) with ⟨c1,c2,c3,c4⟩|⟨c1,c2,c3,c4⟩|⟨c1,c2,c3,c4⟩|⟨c1,c2,c3,c4⟩|⟨c1,c2,c3,c4⟩
 ·rw [c3,c4] at e1;rw [c1,c2] at e2;try rw [e1]
  try rw [e2]
  clear e1 e2;go_enter Tryz.func156,Tryz.ntmps156;go_wp2_with ((go_at_call 197;refine (xi _ (by omega) (by omega) _).mono ?_;rintro e w' ⟨rfl,rfl⟩));go_ret;exact ⟨rfl,(Gr.refl _).alloc _ _⟩
 ·rw [c3,c4] at e1;rw [c1,c2] at e2;try rw [e1]
  try rw [e2]
  clear e1 e2;go_enter Tryz.func156,Tryz.ntmps156;go_wp2_with ((go_at_call 197;refine (xi _ (by omega) (by omega) _).mono ?_;rintro e w' ⟨rfl,rfl⟩));go_ret;exact ⟨rfl,(Gr.refl _).alloc _ _⟩
 ·rw [c3,c4] at e1;rw [c1,c2] at e2;try rw [e1]
  try rw [e2]
  clear e1 e2;go_enter Tryz.func156,Tryz.ntmps156;go_wp2_with ((go_at_call 197;refine (xi _ (by omega) (by omega) _).mono ?_;rintro e w' ⟨rfl,rfl⟩));go_ret;exact ⟨rfl,(Gr.refl _).alloc _ _⟩
 ·rw [c3,c4] at e1;rw [c1,c2] at e2;try rw [e1]
  try rw [e2]
  have hl:Hid (stI x y=true\/slI x y=true):=hide (by rw [e1,e2];decide);clear e1 e2;go_enter Tryz.func156,Tryz.ntmps156;go_wp2_with (first|(go_at_call 197;refine (xi _ (by omega) (by omega) _).mono ?_;rintro e w' ⟨rfl,rfl⟩)|(refine wpList_load_row rfl 22 _ rfl w.heap.size rfl 22 A (0,0) _ (heap_alloc_new _ _) Tryz.underlying22 rfl (by rw [hs];exact info64) ?_)|(go_at_call 230;refine (jz A f (qa hAh) x y h0 h1 h2 h3 (pI x y) (LI x y) (qzz x y h0 h1 h2 h3 (qa hl)) (qxu x y) (qzw x y) (qzy x y h0 h1 h2 h3 (qa hl)) (qjo x y h0 h1 h2 h3 (qa hl)) (qzx x y h0 h1 h2 h3 (qa hl)) _).mono ?_;rintro e w' ⟨rfl,hg⟩));go_ret;exact ⟨rfl,((Gr.refl _).alloc _ _).trans hg⟩
 ·rw [c3,c4] at e1;rw [c1,c2] at e2;try rw [e1]
  try rw [e2]
  clear e1 e2;go_enter Tryz.func156,Tryz.ntmps156;go_wp2_with ((go_at_call 197;refine (xi _ (by omega) (by omega) _).mono ?_;rintro e w' ⟨rfl,rfl⟩));go_ret;exact ⟨rfl,(Gr.refl _).alloc _ _⟩
theorem attacks_3 (A:Array Value) (f:Nat->Int) (hA:∀ i,i<64->A[i]?=some (.int .u8 (f i))) (hs:A.size=64) (s:Int) (x y:Int) (h0:0<=x) (h1:x<=63) (h2:0<=y) (h3:y<=63) (w:World) :
  Calls Tryz.prog 156 #[.agg A,.int .i64 3,.int .i64 s,.int .i64 x,.int .i64 y] w fun e w'=>e=.returned (.bool (attI f 3 s x y))/\Gr w w':=by
 have hAh:=hide hA;clear hA;have ba:=qx7 (y%8-x%8) (by omega) (by omega);have br:=qx7 (y/8-x/8) (by omega) (by omega);have e0:attI f 3 s x y=(stI x y&&freeI f (pI x y) (LI x y)):=rfl;have e1:stI x y=((y%8-x%8==0) != (y/8-x/8==0)):=rfl;have e2:slI x y=((ab (y%8-x%8)==ab (y/8-x/8))&&decide (0<ab (y%8-x%8))):=rfl;rw [e0];clear e0;rcases classes (y%8-x%8) (y/8-x/8) with ⟨c1,c2,c3,c4⟩|⟨c1,c2,c3,c4⟩|⟨c1,c2,c3,c4⟩|⟨c1,c2,c3,c4⟩|⟨c1,c2,c3,c4⟩
 ·rw [c3,c4] at e1;rw [c1,c2] at e2;try rw [e1]
  try rw [e2]
  clear e1 e2;go_enter Tryz.func156,Tryz.ntmps156;go_wp2_with ((go_at_call 197;refine (xi _ (by omega) (by omega) _).mono ?_;rintro e w' ⟨rfl,rfl⟩));go_ret;exact ⟨rfl,(Gr.refl _).alloc _ _⟩
 ·rw [c3,c4] at e1;rw [c1,c2] at e2;try rw [e1]
  try rw [e2]
  have hl:Hid (stI x y=true\/slI x y=true):=hide (by rw [e1,e2];decide);clear e1 e2;go_enter Tryz.func156,Tryz.ntmps156;go_wp2_with (first|(go_at_call 197;refine (xi _ (by omega) (by omega) _).mono ?_;rintro e w' ⟨rfl,rfl⟩)|(refine wpList_load_row rfl 22 _ rfl w.heap.size rfl 22 A (0,0) _ (heap_alloc_new _ _) Tryz.underlying22 rfl (by rw [hs];exact info64) ?_)|(go_at_call 230;refine (jz A f (qa hAh) x y h0 h1 h2 h3 (pI x y) (LI x y) (qzz x y h0 h1 h2 h3 (qa hl)) (qxu x y) (qzw x y) (qzy x y h0 h1 h2 h3 (qa hl)) (qjo x y h0 h1 h2 h3 (qa hl)) (qzx x y h0 h1 h2 h3 (qa hl)) _).mono ?_;rintro e w' ⟨rfl,hg⟩));go_ret;exact ⟨rfl,((Gr.refl _).alloc _ _).trans hg⟩
 ·rw [c3,c4] at e1;rw [c1,c2] at e2;try rw [e1]
  try rw [e2]
  have hl:Hid (stI x y=true\/slI x y=true):=hide (by rw [e1,e2];decide);clear e1 e2;go_enter Tryz.func156,Tryz.ntmps156;go_wp2_with (first|(go_at_call 197;refine (xi _ (by omega) (by omega) _).mono ?_;rintro e w' ⟨rfl,rfl⟩)|(refine wpList_load_row rfl 22 _ rfl w.heap.size rfl 22 A (0,0) _ (heap_alloc_new _ _) Tryz.underlying22 rfl (by rw [hs];exact info64) ?_)|(go_at_call 230;refine (jz A f (qa hAh) x y h0 h1 h2 h3 (pI x y) (LI x y) (qzz x y h0 h1 h2 h3 (qa hl)) (qxu x y) (qzw x y) (qzy x y h0 h1 h2 h3 (qa hl)) (qjo x y h0 h1 h2 h3 (qa hl)) (qzx x y h0 h1 h2 h3 (qa hl)) _).mono ?_;rintro e w' ⟨rfl,hg⟩));go_ret;exact ⟨rfl,((Gr.refl _).alloc _ _).trans hg⟩
 ·rw [c3,c4] at e1;rw [c1,c2] at e2;try rw [e1]
  try rw [e2]
  clear e1 e2;go_enter Tryz.func156,Tryz.ntmps156;go_wp2_with ((go_at_call 197;refine (xi _ (by omega) (by omega) _).mono ?_;rintro e w' ⟨rfl,rfl⟩));go_ret;exact ⟨rfl,(Gr.refl _).alloc _ _⟩
 ·rw [c3,c4] at e1;rw [c1,c2] at e2;try rw [e1]
  try rw [e2]
  clear e1 e2;go_enter Tryz.func156,Tryz.ntmps156;go_wp2_with ((go_at_call 197;refine (xi _ (by omega) (by omega) _).mono ?_;rintro e w' ⟨rfl,rfl⟩));go_ret;exact ⟨rfl,(Gr.refl _).alloc _ _⟩
theorem attacks_4 (A:Array Value) (f:Nat->Int) (hA:∀ i,i<64->A[i]?=some (.int .u8 (f i))) (hs:A.size=64) (s:Int) (x y:Int) (h0:0<=x) (h1:x<=63) (h2:0<=y) (h3:y<=63) (w:World) :
  Calls Tryz.prog 156 #[.agg A,.int .i64 4,.int .i64 s,.int .i64 x,.int .i64 y] w fun e w'=>e=.returned (.bool (attI f 4 s x y))/\Gr w w':=by
 have hAh:=hide hA;clear hA;have ba:=qx7 (y%8-x%8) (by omega) (by omega);have br:=qx7 (y/8-x/8) (by omega) (by omega);have e0:attI f 4 s x y=((stI x y||slI x y)&&freeI f (pI x y) (LI x y)):=rfl;have e1:stI x y=((y%8-x%8==0) != (y/8-x/8==0)):=rfl;have e2:slI x y=((ab (y%8-x%8)==ab (y/8-x/8))&&decide (0<ab (y%8-x%8))):=rfl;rw [e0];clear e0;rcases classes (y%8-x%8) (y/8-x/8) with ⟨c1,c2,c3,c4⟩|⟨c1,c2,c3,c4⟩|⟨c1,c2,c3,c4⟩|⟨c1,c2,c3,c4⟩|⟨c1,c2,c3,c4⟩
 ·rw [c3,c4] at e1;rw [c1,c2] at e2;try rw [e1]
  try rw [e2]
  clear e1 e2;go_enter Tryz.func156,Tryz.ntmps156;go_wp2_with ((go_at_call 197;refine (xi _ (by omega) (by omega) _).mono ?_;rintro e w' ⟨rfl,rfl⟩));go_ret;exact ⟨rfl,(Gr.refl _).alloc _ _⟩
 ·rw [c3,c4] at e1;rw [c1,c2] at e2;try rw [e1]
  try rw [e2]
  have hl:Hid (stI x y=true\/slI x y=true):=hide (by rw [e1,e2];decide);clear e1 e2;go_enter Tryz.func156,Tryz.ntmps156;go_wp2_with (first|(go_at_call 197;refine (xi _ (by omega) (by omega) _).mono ?_;rintro e w' ⟨rfl,rfl⟩)|(refine wpList_load_row rfl 22 _ rfl w.heap.size rfl 22 A (0,0) _ (heap_alloc_new _ _) Tryz.underlying22 rfl (by rw [hs];exact info64) ?_)|(go_at_call 230;refine (jz A f (qa hAh) x y h0 h1 h2 h3 (pI x y) (LI x y) (qzz x y h0 h1 h2 h3 (qa hl)) (qxu x y) (qzw x y) (qzy x y h0 h1 h2 h3 (qa hl)) (qjo x y h0 h1 h2 h3 (qa hl)) (qzx x y h0 h1 h2 h3 (qa hl)) _).mono ?_;rintro e w' ⟨rfl,hg⟩));go_ret;exact ⟨rfl,((Gr.refl _).alloc _ _).trans hg⟩
 ·rw [c3,c4] at e1;rw [c1,c2] at e2;try rw [e1]
  try rw [e2]
  have hl:Hid (stI x y=true\/slI x y=true):=hide (by rw [e1,e2];decide);clear e1 e2;go_enter Tryz.func156,Tryz.ntmps156;go_wp2_with (first|(go_at_call 197;refine (xi _ (by omega) (by omega) _).mono ?_;rintro e w' ⟨rfl,rfl⟩)|(refine wpList_load_row rfl 22 _ rfl w.heap.size rfl 22 A (0,0) _ (heap_alloc_new _ _) Tryz.underlying22 rfl (by rw [hs];exact info64) ?_)|(go_at_call 230;refine (jz A f (qa hAh) x y h0 h1 h2 h3 (pI x y) (LI x y) (qzz x y h0 h1 h2 h3 (qa hl)) (qxu x y) (qzw x y) (qzy x y h0 h1 h2 h3 (qa hl)) (qjo x y h0 h1 h2 h3 (qa hl)) (qzx x y h0 h1 h2 h3 (qa hl)) _).mono ?_;rintro e w' ⟨rfl,hg⟩));go_ret;exact ⟨rfl,((Gr.refl _).alloc _ _).trans hg⟩
 ·rw [c3,c4] at e1;rw [c1,c2] at e2;try rw [e1]
  try rw [e2]
  have hl:Hid (stI x y=true\/slI x y=true):=hide (by rw [e1,e2];decide);clear e1 e2;go_enter Tryz.func156,Tryz.ntmps156;go_wp2_with (first|(go_at_call 197;refine (xi _ (by omega) (by omega) _).mono ?_;rintro e w' ⟨rfl,rfl⟩)|(refine wpList_load_row rfl 22 _ rfl w.heap.size rfl 22 A (0,0) _ (heap_alloc_new _ _) Tryz.underlying22 rfl (by rw [hs];exact info64) ?_)|(go_at_call 230;refine (jz A f (qa hAh) x y h0 h1 h2 h3 (pI x y) (LI x y) (qzz x y h0 h1 h2 h3 (qa hl)) (qxu x y) (qzw x y) (qzy x y h0 h1 h2 h3 (qa hl)) (qjo x y h0 h1 h2 h3 (qa hl)) (qzx x y h0 h1 h2 h3 (qa hl)) _).mono ?_;rintro e w' ⟨rfl,hg⟩));go_ret;exact ⟨rfl,((Gr.refl _).alloc _ _).trans hg⟩
 ·rw [c3,c4] at e1;rw [c1,c2] at e2;try rw [e1]
  try rw [e2]
  clear e1 e2;go_enter Tryz.func156,Tryz.ntmps156;go_wp2_with ((go_at_call 197;refine (xi _ (by omega) (by omega) _).mono ?_;rintro e w' ⟨rfl,rfl⟩));go_ret;exact ⟨rfl,(Gr.refl _).alloc _ _⟩
end Go.Proofs.YtnfakamfmkhlbaaGreatDoor.C
namespace Go.Proofs.YtnfakamfmkhlbaaGreatDoor.C
open Go.ChangeShapes Go.WideShapes Go.ChangeAt Go.RowKit
open Go.Proofs.YtnfakamfmkhlbaaGreatDoor.P
attribute [local go_sem] qd qi
theorem qj9 (A:Array Value) (f:Nat->Int) (hA:∀ i,i<64->A[i]?=some (.int .u8 (f i))) (hs:A.size=64) (k:Nat) (hk:k<=5) (s:Int) (x y:Int) (h0:0<=x) (h1:x<=63) (h2:0<=y) (h3:y<=63) (w:World) :
  Calls Tryz.prog 156 #[.agg A,.int .i64 (k:Int),.int .i64 s,.int .i64 x,.int .i64 y] w fun e w'=>e=.returned (.bool (attI f k s x y))/\Gr w w':=by
 have:k=0\/k=1\/k=2\/k=3\/k=4\/k=5:=by omega
 rcases this with rfl|rfl|rfl|rfl|rfl|rfl
 ·exact attacks_0 A f hA hs s x y h0 h1 h2 h3 w
 ·exact attacks_1 A f hA hs s x y h0 h1 h2 h3 w
 ·exact attacks_2 A f hA hs s x y h0 h1 h2 h3 w
 ·exact attacks_3 A f hA hs s x y h0 h1 h2 h3 w
 ·exact attacks_4 A f hA hs s x y h0 h1 h2 h3 w
 ·exact attacks_5 A f hA hs s x y h0 h1 h2 h3 w
theorem kd_of_co {c:UInt8} {b:Bool} (h:coc c=sdb b):∃ k:Nat,k<=5/\kdc c=(k:Int):=by
 have:=qxx c;unfold coc sdb at h;unfold kdc;cases b
 ·simp only [Bool.false_eq_true,if_false] at h;refine ⟨(ixc c-6).toNat,?_,?_⟩
  ·split at h<;>(try split at h)<;>omega
  ·rw [if_pos (by split at h<;>(try split at h)<;>omega)]
   split at h<;>(try split at h)<;>omega
 ·simp only [if_true] at h;refine ⟨(ixc c).toNat,?_,?_⟩
  ·split at h<;>(try split at h)<;>omega
  ·rw [if_neg (by split at h<;>(try split at h)<;>omega)]
   split at h<;>(try split at h)<;>omega
def Bd (b:Nat) (A:Array Value) (w:World):Prop:=w.heap[b]?=some (.cells A 22)/\b<w.heap.size
theorem Bd.gr {b:Nat} {A:Array Value} {w w':World} (h:Bd b A w) (g:Gr w w'):Bd b A w':=⟨by rw [Below.block g _ h.2];exact h.1,Nat.lt_of_lt_of_le h.2 (Below.size g)⟩
theorem Bd.cell {b:Nat} {A:Array Value} {w:World} (h:Bd b A w) {i:Nat} {v:Value} (hv:A[i]?=some v):w.cell? ⟨b,i,none⟩=some v:=by
 rw [cell_of_row _ _ _ _ _ _ h.1];exact hv
theorem kind_gr (c:UInt8) (w:World):Calls Tryz.prog 86 #[.int .u8 (c.toNat:Int)] w fun e w'=>e=.returned (.int .i64 (kdc c))/\Gr w w' :=
 (qqr c w).mono fun _ _ h=>⟨h.1,by rw [h.2];exact Gr.refl _⟩
theorem heldB {w1 w':World} {b k:Nat} {A:Array Value} {v:Value} (h:Bd b A w1) (hv:A[k]?=some v) (g:Gr w1 w'):Gr w1 w'/\w'.rangeAt b 0 A.toList/\w'.cell? ⟨b,k,none⟩=some v :=
 ⟨g,(fun j u hu=>by rw [Nat.zero_add];exact (h.gr g).cell (by rw [<-Array.getElem?_toList];exact hu)),(h.gr g).cell hv⟩
theorem bytes_one {z:Nat->UInt8} {A:Array Value} (hs:A.size=64) (hA:∀ i,i<64->A[i]?=some (.int .u8 ((z i).toNat:Int))):∀ v∈A.toList,v.oneCell'=true:=by
 intro v hv;obtain ⟨i,hi,rfl⟩:=List.getElem_of_mem hv;have hi':i<64:=by simpa [hs] using hi
 have:=hA i hi';rw [<-Array.getElem?_toList,List.getElem?_eq_getElem hi] at this;simp at this;simp [this,Value.oneCell']
theorem qqb (z:Nat->UInt8) (A:Array Value) (hs:A.size=64) (hA:∀ i,i<64->A[i]?=some (.int .u8 ((z i).toNat:Int))) (y:Int) (h0:0<=y) (h1:y<=63) (b:Bool) (w:World):Calls Tryz.prog 91 #[.agg A,.int .i64 y,.int .i64 (sdb b)] w fun e w'=>e=.returned (.bool (attR z y b))/\Gr w w':=by
 obtain ⟨f,hf⟩:∃ f:Nat->Bool,Hid (f=fun n=>decide (coc (z n)=sdb b)&&attI (zI z) (kdc (z n)).toNat (sdb b) (n:Int) y):=⟨_,hide rfl⟩;have hgoal:attR z y b=(List.range 64).any f:=by rw [qa hf];rfl
 rw [hgoal];clear hgoal;have hat:=hide (fun (k:Nat) (hk:k<=5) (n:Nat) (hn:n<64) W=>qj9 A (zI z) (fun i hi=>hA i hi) hs k hk (sdb b) (n:Int) y (by omega) (by omega) h0 h1 W);have hbd:Hid (Bd w.heap.size A (w.alloc (.cells A 22))):=hide ⟨heap_alloc_new _ _,by rw [World.size_alloc];omega⟩;have hg1:Hid (Gr w (w.alloc (.cells A 22))):=hide ((Gr.refl w).alloc _ _);have hA':=hide hA;have hu:=Tryz.underlying22;have hi:(Tryz.prog.info? 22).map (·.size)=some A.toList.length:=by rw [info64];simp [hs]
 have hl:A.toList.length=64:=by simpa using hs
 have h1c:∀ v∈A.toList,v.oneCell'=true:=bytes_one hs hA;clear hA;have hsb:sdb b=1\/sdb b=-1:=by cases b<;>simp [sdb]
 have hkd:Hid (∀ c:UInt8,coc c=sdb b->∃ k:Nat,k<=5/\kdc c=(k:Int)):=hide fun c h=>kd_of_co h
 generalize sdb b=sd at hf hat hsb hkd ⊢;go_enter Tryz.func91,Tryz.ntmps91;go_wp2;go_loopg [7] 64 (fun g n wr=>∃ k:Nat,k+g=64/\n=.int .i64 k/\(∀ j,j<k->f j=false)/\Gr (w.alloc (.cells A 22)) wr)
 case atStart=>exact ⟨0,rfl,rfl,fun j hj=>absurd hj (Nat.not_lt_zero j),Gr.refl _⟩
 case round =>
  obtain ⟨k,k1,rfl,k3,hgr⟩:=hrel;have k3':=hide k3;clear k3;by_cases hlt:k<64
  ·have hbw:=(qa hbd).gr hgr;have hv:=qa hA' k hlt;have hcell:=Bd.cell hbw hv;have hfk:Hid (f k=(decide (coc (z k)=sd)&&attI (zI z) (kdc (z k)).toNat sd (k:Int) y)):=hide (by rw [qa hf]);by_cases hc:coc (z k)=sd
   ·obtain ⟨kk,hkk5,hkk0⟩:=qa hkd (z k) hc;have hkk:=hide hkk0;have hcb:(coc (z k)==sd)=true:=by rw [hc];simp
    have hfk2:Hid (f k=attI (zI z) kk sd (k:Int) y):=hide (by rw [qa hfk,decide_eq_true hc,hkk0];simp);obtain ⟨av,hav⟩:∃ v,attI (zI z) kk sd (k:Int) y=v:=⟨_,rfl⟩;clear hfk hkk0 hc;cases av
    ·have hff:Hid (f k=false):=hide (by rw [qa hfk2,hav]);go_wp2_with (go_at_call 87;refine (jt _ _).mono ?_;rintro e w' ⟨rfl,hw'⟩;obtain rfl:=hw'.symm);go_region_held3 (fun w'=>Gr wr w'/\w'.rangeAt w.heap.size 0 A.toList/\w'.cell? ⟨w.heap.size,k,none⟩=some (.int .u8 ((z k).toNat:Int))) (first|exact heldB hbw hv (Gr.refl _).drew|exact heldB hbw hv (by assumption)|exact heldB hbw hv (Gr.alloc (heldL (by assumption)) _ _)) (first|(go_at_call 86;refine (kind_gr _ _).mono ?_;rintro e w' ⟨rfl,hg⟩;rw [qa hkk];have hg2:=Gr.trans (heldL (by assumption)) hg)|(go_at_call 156;refine (qa hat kk hkk5 k hlt _).mono ?_;rintro e w' ⟨rfl,hg⟩;rw [hav];have hg2:=Gr.trans (heldL (by assumption)) hg));go_wp2;go_roundg (gk-1)
     case measure=>omega
     case rel=>exact ⟨k+1,by omega,by go_num,(by
      intro j hj;by_cases hjk:j=k
      ·subst hjk;exact qa hff
      ·exact qa k3' j (by omega)),Gr.trans hgr hg2⟩
    ·have hff:Hid (f k=true):=hide (by rw [qa hfk2,hav]);go_wp2_with (go_at_call 87;refine (jt _ _).mono ?_;rintro e w' ⟨rfl,hw'⟩;obtain rfl:=hw'.symm);go_region_held3 (fun w'=>Gr wr w'/\w'.rangeAt w.heap.size 0 A.toList/\w'.cell? ⟨w.heap.size,k,none⟩=some (.int .u8 ((z k).toNat:Int))) (first|exact heldB hbw hv (Gr.refl _).drew|exact heldB hbw hv (by assumption)|exact heldB hbw hv (Gr.alloc (heldL (by assumption)) _ _)) (first|(go_at_call 86;refine (kind_gr _ _).mono ?_;rintro e w' ⟨rfl,hg⟩;rw [qa hkk];have hg2:=Gr.trans (heldL (by assumption)) hg)|(go_at_call 156;refine (qa hat kk hkk5 k hlt _).mono ?_;rintro e w' ⟨rfl,hg⟩;rw [hav];have hg2:=Gr.trans (heldL (by assumption)) hg));go_wp2;go_ret;exact ⟨by rw [List.any_eq_true.2 ⟨k,List.mem_range.2 hlt,qa hff⟩];rfl,Gr.trans (qa hg1) (Gr.trans hgr hg2)⟩
   ·have hcb:(coc (z k)==sd)=false:=by simpa using hc
    have hff:Hid (f k=false):=hide (by rw [qa hfk,decide_eq_false hc];rfl);clear hfk hc;go_wp2_with (go_at_call 87;refine (jt _ _).mono ?_;rintro e w' ⟨rfl,hw'⟩;obtain rfl:=hw'.symm);go_roundg (gk-1)
    case measure=>omega
    case rel=>exact ⟨k+1,by omega,by go_num,(by
     intro j hj;by_cases hjk:j=k
     ·subst hjk;exact qa hff
     ·exact qa k3' j (by omega)),hgr⟩
  ·have ek:k=64:=by omega
   subst ek;go_wp2;go_ret
   exact ⟨by
    have:(List.range 64).any f=false:=by
     rw [List.any_eq_false];intro j hj;rw [qa k3' j (List.mem_range.1 hj)];decide
    rw [this];rfl,Gr.trans (qa hg1) hgr⟩
theorem find_at {p:Nat->Bool} {k:Nat} (h:∀ j,j<k->p j=false) (hk:p k=true) (h64:k<64):(List.range 64).find? p=some k:=by
 rw [List.find?_eq_some_iff_getElem];refine ⟨hk,k,by simpa using h64,by simp,fun j hj=>by simp [h j hj]⟩
theorem find_no {p:Nat->Bool} (h:∀ j,j<64->p j=false):(List.range 64).find? p=none:=by
 rw [List.find?_eq_none];intro j hj;rw [h j (List.mem_range.1 hj)];decide
theorem qv0 {z:Nat->UInt8} {b:Bool} {k:Nat} (h:∀ j,j<k->(z j==kingL b)=false) (hk:(z k==kingL b)=true) (h64:k<64):kingR z b=(k:Int):=by
 unfold kingR;rw [find_at h hk h64]
theorem kingR_no {z:Nat->UInt8} {b:Bool} (h:∀ j,j<64->(z j==kingL b)=false):kingR z b=-1:=by
 unfold kingR;rw [find_no h]
theorem man5 (b:Bool) (w:World):Calls Tryz.prog 89 #[.int .i64 5,.int .i64 (sdb b)] w fun e w'=>e=.returned (.int .u8 ((kingL b).toNat:Int))/\Gr w w':=by
 rw [<-king_man];exact (man_5 b w).mono fun _ _ h=>⟨h.1,by rw [h.2];exact Gr.refl _⟩
theorem heldC {w1 w':World} {b k:Nat} {A:Array Value} {v:Value} (h:Bd b A w1) (hv:A[k]?=some v) (g:Gr w1 w'):Gr w1 w'/\w'.cell? ⟨b,k,none⟩=some v :=
 ⟨g,(h.gr g).cell hv⟩
theorem kingR_any (z:Nat->UInt8) (A:Array Value) (hA:∀ i,i<64->A[i]?=some (.int .u8 ((z i).toNat:Int))) (b:Bool) (w:World):Calls Tryz.prog 92 #[.agg A,.int .i64 (sdb b)] w fun e w'=>e=.returned (.int .i64 (kingR z b))/\Gr w w':=by
 have hbd:Hid (Bd w.heap.size A (w.alloc (.cells A 22))):=hide ⟨heap_alloc_new _ _,by rw [World.size_alloc];omega⟩;have hg1:Hid (Gr w (w.alloc (.cells A 22))):=hide ((Gr.refl w).alloc _ _);have hA':=hide hA;clear hA;have hm:=hide (man5 b);have hat:=hide (fun k h hk h64=>qv0 (z:=z) (b:=b) (k:=k) h hk h64);have hno:=hide (fun h=>kingR_no (z:=z) (b:=b) h);generalize kingL b=L at hm hat hno;generalize sdb b=sd at hm ⊢;generalize kingR z b=V at hat hno ⊢;go_enter Tryz.func92,Tryz.ntmps92;go_wp2;go_loopg [5] 64 (fun g n wr=>∃ k:Nat,k+g=64/\n=.int .i64 k/\(∀ j,j<k->(z j==L)=false)/\Gr (w.alloc (.cells A 22)) wr)
 case atStart=>exact ⟨0,rfl,rfl,fun j hj=>absurd hj (Nat.not_lt_zero j),Gr.refl _⟩
 case round =>
  obtain ⟨k,k1,rfl,k3,hgr⟩:=hrel;have k3':=hide k3;clear k3;by_cases hlt:k<64
  ·have hbw:=(qa hbd).gr hgr;have hv:=qa hA' k hlt;by_cases hc:z k=L
   ·have hend:Hid (V=(k:Int)):=hide (qa hat k (qa k3') (by simp [hc]) hlt);subst hc;go_wp2;go_region_held3 (fun w'=>Gr wr w'/\w'.cell? ⟨w.heap.size,k,none⟩=some (.int .u8 ((z k).toNat:Int))) (first|exact heldC hbw hv (Gr.refl _).drew|exact heldC hbw hv (by assumption)|exact heldC hbw hv (Gr.alloc (heldL (by assumption)) _ _)) (first|(go_at_call 89;refine (qa hm _).mono ?_;rintro e w' ⟨rfl,hg⟩;have hg2:=Gr.trans (heldL (by assumption)) hg));go_wp2;go_ret;exact ⟨xe (qa hend).symm,Gr.trans (qa hg1) (Gr.trans hgr hg2)⟩
   ·have hne:(((z k).toNat:Int)==(L.toNat:Int))=false:=by
     rw [beq_eq_false_iff_ne];intro h;exact hc (UInt8.toNat_inj.1 (by omega))
    have hff:Hid ((z k==L)=false):=hide (by simpa using hc);clear hc;go_wp2;go_region_held3 (fun w'=>Gr wr w'/\w'.cell? ⟨w.heap.size,k,none⟩=some (.int .u8 ((z k).toNat:Int))) (first|exact heldC hbw hv (Gr.refl _).drew|exact heldC hbw hv (by assumption)|exact heldC hbw hv (Gr.alloc (heldL (by assumption)) _ _)) (first|(go_at_call 89;refine (qa hm _).mono ?_;rintro e w' ⟨rfl,hg⟩;have hg2:=Gr.trans (heldL (by assumption)) hg));go_wp2;go_roundg (gk-1)
    case measure=>omega
    case rel=>exact ⟨k+1,by omega,by go_num,(by
     intro j hj;by_cases hjk:j=k
     ·subst hjk;exact qa hff
     ·exact qa k3' j (by omega)),Gr.trans hgr hg2⟩
  ·have ek:k=64:=by omega
   subst ek;have hend:Hid (V=-1):=hide (qa hno (qa k3'));go_wp2;go_ret;exact ⟨xe (qa hend).symm,Gr.trans (qa hg1) hgr⟩
end Go.Proofs.YtnfakamfmkhlbaaGreatDoor.C
