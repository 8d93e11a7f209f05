import Derived.Test.YtnfakamfmkhlbaaGreatDoorZe20
import Derived.Test.YtnfakamfmkhlbaaGreatDoorZe16
import Derived.Test.YtnfakamfmkhlbaaGreatDoorZe7
import Derived.Deep.QuietTactic
import Derived.BigQuiet
import Derived.Test.YtnfakamfmkhlbaaGreatDoorZe2
import Derived.Shelf.RegionOpen
import Derived.LoopNIn
import Derived.LoopIn
import Derived.Test.YtnfakamfmkhlbaaGreatDoorZe11
set_option maxRecDepth 100000
set_option maxHeartbeats 4000000
set_option linter.unusedSimpArgs false
namespace Go.Proofs.YtnfakamfmkhlbaaGreatDoor.C
open Go.ChangeShapes Go.WideShapes Go.ChangeAt Go.RowKit
open Go.Proofs.YtnfakamfmkhlbaaGreatDoor.P
theorem FormEnd.plain {s:ByteArray} {e:Ending} (h:FormEnd s e):∃ A ok,e=.returned (.tuple #[.agg A,.bool ok])/\A.size=72/\A.all (·.oneCell')=true/\(ok=true->∃ p,readS s=some p/\A=posV p)/\(ok=false->readS s=none):=by
 rcases h with ⟨p,h1,rfl⟩|⟨h1,A,h2,h3,rfl⟩
 ·obtain ⟨B,b1,b2,_⟩:=zo s p h1;have:=posV_ones b1 b2;exact ⟨posV p,true,rfl,this.1,this.2,fun _=>⟨p,h1,rfl⟩,fun h=>by cases h⟩
 ·exact ⟨A,false,rfl,h2,h3,(fun h=>by cases h),fun _=>h1⟩
structure Pr (w:World) (bp:Nat) (A:Array Value) (cur:World):Prop where
 res:cur.heap[w.heap.size]?=some (.cells Tryz.zeroCells25 25)
 p:cur.heap[bp]?=some (.cells A 25)
 lt:bp<cur.heap.size
 lr:w.heap.size<cur.heap.size
 gr:Gr w cur
theorem Pr.next {w cur cur':World} {bp:Nat} {A:Array Value} (h:Pr w bp A cur) (g:Gr cur cur'):Pr w bp A cur' :=
 ⟨by rw [Below.block g _ h.lr];exact h.res,by rw [Below.block g _ h.lt];exact h.p,Nat.lt_of_lt_of_le h.lt (Below.size g),Nat.lt_of_lt_of_le h.lr (Below.size g),Gr.trans h.gr g⟩
theorem qz0 (s:ByteArray) (hs:s.size<4294967281) (w:World):Calls Tryz.prog 38 #[.string s] w fun e w'=>ParseEnd s e/\Gr w w':=by
 have hg1:Gr w (w.alloc (.cells Tryz.zeroCells25 25)):=(Gr.refl w).alloc _ _
 have hr:Hid (Calls Tryz.prog 79 #[.string s] (w.alloc (.cells Tryz.zeroCells25 25)) fun e w'=>∃ A ok,e=.returned (.tuple #[.agg A,.bool ok])/\A.size=72/\A.all (·.oneCell')=true/\(ok=true->∃ p,readS s=some p/\A=posV p)/\(ok=false->readS s=none)/\Gr (w.alloc (.cells Tryz.zeroCells25 25)) w'):=hide ((form_any s hs _).mono fun e w' h=>by
  obtain ⟨A,ok,h1,h2,h3,h4,h5⟩:=h.1.plain;exact ⟨A,ok,h1,h2,h3,h4,h5,h.2⟩)
 have hb1:Hid ((w.alloc (.cells Tryz.zeroCells25 25)).heap[w.heap.size]?=some (.cells Tryz.zeroCells25 25)):=hide (heap_alloc_new _ _);have hl1:Hid (w.heap.size<(w.alloc (.cells Tryz.zeroCells25 25)).heap.size):=hide (by rw [World.size_alloc];omega);have hg1':=hide hg1;clear hg1 hs;go_enter Tryz.func38,Tryz.ntmps38
 go_upto_region 2 with (first
  | (go_at_call 79;refine (qa hr).mono ?_;rintro e w3 ⟨A,ok,rfl,hz,ho,hy,hn,hg3⟩)
  | (refine wpList_store_row rfl 25 _ _ rfl w3.heap.size A rfl rfl 25 _ (heap_alloc_new _ _) (by rw [hz];exact infoP) (by rw [hz];exact zeroP.symm) ho ?_))
 generalize hw4:(w3.alloc (.cells Tryz.zeroCells25 25)).setRow w3.heap.size A=w4;have hg4:Gr w3 w4:=by rw [<-hw4];exact ((Gr.refl w3).alloc _ _).setRow _ (Nat.le_refl _) _
 have hg14:=Gr.trans hg3 hg4;have hp:Pr w w3.heap.size A w4:=⟨by rw [Below.block hg14 _ (qa hl1)];exact qa hb1,by rw [<-hw4];exact setRow_heap _ _ _ _ _ _ (heap_alloc_new w3 _),by rw [<-hw4,size_setRow,World.size_alloc];omega,Nat.lt_of_lt_of_le (qa hl1) (Below.size hg14),Gr.trans (qa hg1') hg14⟩;generalize w3.heap.size=bp at hp ⊢;clear hw4 hg4 hg14 hg3 hr hb1 hl1 hg1';cases ok
 ·have hend:Hid (ParseEnd s (.returned (.tuple #[.agg Tryz.zeroCells25,.int .i64 1]))):=hide (.inr (.inr ⟨hn rfl,rfl⟩));clear hn hy;go_wp2_with (refine wpList_store_row rfl 25 _ _ rfl w.heap.size Tryz.zeroCells25 rfl rfl 25 Tryz.zeroCells25 (Pr.res (bp:=bp) (A:=A) (by assumption)) (by rw [zeroP];exact infoP) rfl zeroP_ones ?_);exact bodyPost_ret (v:=.tuple #[.agg Tryz.zeroCells25,.int .i64 1]) (qj Tryz.results38 _ _ w.heap.size 25 _ (0,0) _ rfl (setRow_heap _ _ _ _ _ _ hp.res) Tryz.underlying25 rfl (by rw [zeroP];exact infoP)) rfl ⟨qa hend,hp.gr.setRow _ (Nat.le_refl _) _⟩
 ·obtain ⟨p,hp1,hp2⟩:=hy rfl;have hcan:Hid (∀ W:World,Calls Tryz.prog 40 #[.agg A] W fun e w'=>e=.returned (.bool (posCan p))/\Gr W w'):=hide fun W=>by rw [hp2];exact can_ref (jn hp1) W
  clear hy hn;obtain ⟨q,hq⟩:∃ q,posCan p=q:=⟨_,rfl⟩;cases q
  ·have hend:Hid (ParseEnd s (.returned (.tuple #[.agg Tryz.zeroCells25,.int .i64 2]))):=hide (.inr (.inl ⟨p,hp1,hq,rfl⟩));rw [hq] at hcan;clear hp1 hp2 hq;go_wp2_with (first|(refine wpList_store_row rfl 25 _ _ rfl w.heap.size Tryz.zeroCells25 rfl rfl 25 Tryz.zeroCells25 (Pr.res (bp:=bp) (A:=A) (by assumption)) (by rw [zeroP];exact infoP) rfl zeroP_ones ?_)|(refine wpList_load_row rfl 25 _ rfl bp rfl 25 A (0,0) _ (Pr.p (w:=w) (by assumption)) Tryz.underlying25 rfl (by rw [hz];exact infoP) ?_)|(go_at_call 40;refine (qa hcan _).mono ?_;rintro e w5 ⟨rfl,hg5⟩;have hp5:=Pr.next (by assumption) hg5));exact bodyPost_ret (v:=.tuple #[.agg Tryz.zeroCells25,.int .i64 2]) (qj Tryz.results38 _ _ w.heap.size 25 _ (0,0) _ rfl (setRow_heap _ _ _ _ _ _ hp5.res) Tryz.underlying25 rfl (by rw [zeroP];exact infoP)) rfl ⟨qa hend,hp5.gr.setRow _ (Nat.le_refl _) _⟩
  ·have hend:Hid (ParseEnd s (.returned (.tuple #[.agg A,.int .i64 0]))):=hide (.inl ⟨p,hp1,hq,by rw [hp2]⟩);rw [hq] at hcan;clear hp1 hp2 hq;go_wp2_with (first|(refine wpList_store_row rfl 25 _ _ rfl w.heap.size A rfl rfl 25 Tryz.zeroCells25 (Pr.res (bp:=bp) (A:=A) (by assumption)) (by rw [hz];exact infoP) (by rw [hz];exact zeroP.symm) ho ?_)|(refine wpList_load_row rfl 25 _ rfl bp rfl 25 A (0,0) _ (Pr.p (w:=w) (by assumption)) Tryz.underlying25 rfl (by rw [hz];exact infoP) ?_)|(go_at_call 40;refine (qa hcan _).mono ?_;rintro e w5 ⟨rfl,hg5⟩;have hp5:=Pr.next (by assumption) hg5));exact bodyPost_ret (v:=.tuple #[.agg A,.int .i64 0]) (qj Tryz.results38 _ _ w.heap.size 25 _ (0,0) _ rfl (setRow_heap _ _ _ _ _ _ hp5.res) Tryz.underlying25 rfl (by rw [hz];exact infoP)) rfl ⟨qa hend,hp5.gr.setRow _ (Nat.le_refl _) _⟩
end Go.Proofs.YtnfakamfmkhlbaaGreatDoor.C
namespace Go.Proofs.YtnfakamfmkhlbaaGreatDoor.C
open Go.ChangeShapes Go.WideShapes Go.ChangeAt Go.RowKit
open Go.Proofs.YtnfakamfmkhlbaaGreatDoor.P
attribute [local go_sem] qd qi
theorem num_any (e:Int) (w:World):Calls Tryz.prog 16 #[.int .i64 e] w fun r w'=>r=.returned (.int .i64 e)/\w'=w:=by
 go_enter Tryz.func16,Tryz.ntmps16;go_wp2;go_ret;exact ⟨rfl,rfl⟩
structure Tb (w:World) (b:Nat) (A:Array Value) (cur:World):Prop where
 gr:Gr w cur
 p:cur.heap[b]?=some (.cells A 25)
 lt:b<cur.heap.size
theorem Tb.next {w cur cur':World} {b:Nat} {A:Array Value} (h:Tb w b A cur) (g:Gr cur cur'):Tb w b A cur' :=
 ⟨Gr.trans h.gr g,by rw [Below.block g _ h.lt];exact h.p,Nat.lt_of_lt_of_le h.lt (Below.size g)⟩
def kingsB:ByteArray:=⟨#[52,107,51,47,56,47,56,47,56,47,56,47,56,47,56,47,52,75,51,32,119,32,45,32,45,32,48,32,49]⟩
theorem kings_all:(readS kingsB).map posCan=some true:=by decide +kernel
theorem kings_read:∃ p,readS kingsB=some p/\posCan p=true:=Option.map_eq_some_iff.1 kings_all
end Go.Proofs.YtnfakamfmkhlbaaGreatDoor.C
namespace Go.Proofs.YtnfakamfmkhlbaaGreatDoor.C
open Go.ChangeShapes Go.WideShapes Go.ChangeAt Go.RowKit Go.Shelf
open Go.Proofs.YtnfakamfmkhlbaaGreatDoor.P
attribute [local go_sem] qd qi
abbrev Stp:=Int × Int
def small (s:Stp):Prop:=-2<=s.1/\s.1<=2 ∧ -2<=s.2/\s.2<=2
def szI (s:Stp):Int:=s.1*s.1+s.2*s.2
theorem sq_wrap {a:Int} (h1:-2<=a) (h2:a<=2):wrap64 (a*a)=a*a/\0<=a*a/\a*a<=4:=by
 have:a=-2\/a=-1\/a=0\/a=1\/a=2:=by omega
 rcases this with rfl|rfl|rfl|rfl|rfl<;>(unfold wrap64;omega)
theorem zd {a b:Bool} (h:a=b):Ending.returned (.bool a)=.returned (.bool b):=by rw [h]
theorem ret_ib {k:IntKind} {a b:Int} {x y:Bool} (h:a=b) (g:x=y):Ending.returned (.tuple #[.int k a,.bool x])=.returned (.tuple #[.int k b,.bool y]):=by rw [h,g]
theorem stepSize_any (a b:Int) (h:small (a,b)) (w:World):Calls Tryz.prog 234 #[.agg #[.int .i64 a,.int .i64 b]] w fun e w'=>e=.returned (.int .i64 (szI (a,b)))/\Gr w w':=by
 obtain ⟨h1,h2,h3,h4⟩:=h;simp only at h1 h2 h3 h4;have e1:=sq_wrap h1 h2;have e2:=sq_wrap h3 h4;go_enter Tryz.func234,Tryz.ntmps234;go_wp2;go_ret;refine ⟨xe ?_,(Gr.refl w).alloc _ _⟩;rfl
theorem stepBack_any (a b:Int) (h:small (a,b)) (w:World):Calls Tryz.prog 161 #[.agg #[.int .i64 a,.int .i64 b]] w fun e w'=>e=.returned (.agg #[.int .i64 (-a),.int .i64 (-b)])/\Gr w w':=by
 obtain ⟨h1,h2,h3,h4⟩:=h;simp only at h1 h2 h3 h4;have e1:wrap64 (-a)=-a:=by unfold wrap64;omega
 have e2:wrap64 (-b)=-b:=by unfold wrap64;omega
 go_enter Tryz.func161,Tryz.ntmps161;go_wp2;exact bodyPost_ret (v:=.agg #[.int .i64 (-a),.int .i64 (-b)]) (results_cell_row Tryz.results161 _ _ (w.heap.size+1) 240 #[.int .i64 (-a),.int .i64 (-b)] (0,0) _ rfl (by have:=World.alloc_heap_new (w.alloc (.cells #[.int .i64 a,.int .i64 b] 240)) (.cells #[.int .i64 (-a),.int .i64 (-b)] 240);rw [World.size_alloc] at this;exact this) Tryz.underlying240 rfl (by kernel_rfl)) rfl ⟨rfl,((Gr.refl w).alloc _ _).alloc _ _⟩
def manB (c:UInt8) (wh:Bool):Bool:=if wh then decide (65<=c.toNat)&&decide (c.toNat<=90) else decide (97<=c.toNat)&&decide (c.toNat<=122)
theorem qxa (c:UInt8) (wh:Bool) (w:World):Calls Tryz.prog 159 #[.int .u8 (c.toNat:Int),.bool wh] w fun e w'=>e=.returned (.bool (manB c wh))/\w'=w:=by
 cases wh
 all_goals
  go_enter Tryz.func159,Tryz.ntmps159;go_wp2
  all_goals
   go_ret;refine ⟨zd ?_,rfl⟩;rw [Bool.eq_iff_iff];simp only [manB,Bool.and_eq_true,decide_eq_true_eq,Bool.false_eq_true,false_iff,if_true,if_false];omega
def nxt (x:Nat) (s:Stp):Int:=8*((x:Int)/8+s.2)+((x:Int)%8+s.1)
def onB (x:Nat) (s:Stp):Bool:=decide (0<=(x:Int)%8+s.1)&&decide ((x:Int)%8+s.1<8)&&decide (0<=(x:Int)/8+s.2)&&decide ((x:Int)/8+s.2<8)
theorem next_any (x:Nat) (hx:x<64) (a b:Int) (h:small (a,b)) (w:World):Calls Tryz.prog 233 #[.int .i64 (x:Int),.agg #[.int .i64 a,.int .i64 b]] w fun e w'=>e=.returned (.tuple #[.int .i64 (nxt x (a,b)),.bool (onB x (a,b))])/\Gr w w':=by
 obtain ⟨h1,h2,h3,h4⟩:=h;simp only at h1 h2 h3 h4;go_enter Tryz.func233,Tryz.ntmps233;go_upto_region 1 with fail;go_quiet (fail);go_wp2
 all_goals
  go_ret2;refine ⟨ret_ib rfl ?_,((Gr.refl w).alloc _ _).drewN _⟩;rw [Bool.eq_iff_iff];simp only [onB,Bool.and_eq_true,decide_eq_true_eq,Bool.false_eq_true,false_iff];omega
def goesB (c:UInt8) (s:Stp):Bool :=
 if ((c.toNat:Int)==80) then (szI s==2)&&(s.2==1)
 else if ((c.toNat:Int)==112) then (szI s==2)&&(s.2==-1)
 else if ((c.toNat:Int)==78)||((c.toNat:Int)==110) then szI s==5
 else if ((c.toNat:Int)==66)||((c.toNat:Int)==98) then szI s==2
 else if ((c.toNat:Int)==82)||((c.toNat:Int)==114) then szI s==1
 else if ((c.toNat:Int)==81)||((c.toNat:Int)==113)||((c.toNat:Int)==75)||((c.toNat:Int)==107) then decide (szI s<=2)
 else false
theorem two_in {w:World} {a b:Int} {ty:TypeId}:(w.alloc (.cells #[.int .i64 a,.int .i64 b] ty)).cell? ⟨w.heap.size,0,none⟩=some (.int .i64 a)/\(w.alloc (.cells #[.int .i64 a,.int .i64 b] ty)).cell? ⟨w.heap.size,1,none⟩=some (.int .i64 b):=by
 constructor<;>(rw [World.cell?_alloc_at _ _ _ _ rfl];rfl)
theorem goes_any (c:UInt8) (a b:Int) (h:small (a,b)) (w:World):Calls Tryz.prog 160 #[.int .u8 (c.toNat:Int),.agg #[.int .i64 a,.int .i64 b]] w fun e w'=>e=.returned (.bool (goesB c (a,b)))/\Gr w w':=by
 obtain ⟨z,hz⟩:∃ z,Hid (z=szI (a,b)):=⟨_,hide rfl⟩;have hs:Hid (∀ W,Calls Tryz.prog 234 #[.agg #[.int .i64 a,.int .i64 b]] W fun e w'=>e=.returned (.int .i64 z)/\Gr W w'):=hide (fun W=>by rw [qa hz];exact stepSize_any a b h W);go_enter Tryz.func160,Tryz.ntmps160;go_upto_region 1 with fail;obtain ⟨c0,c1⟩:=two_in (w:=w) (a:=a) (b:=b) (ty:=240);have hg0:Hid (Gr w (w.alloc (.cells #[.int .i64 a,.int .i64 b] 240))):=hide ((Gr.refl w).alloc _ _);have hlt:w.heap.size<(w.alloc (.cells #[.int .i64 a,.int .i64 b] 240)).heap.size:=by simp
 generalize w.alloc (.cells #[.int .i64 a,.int .i64 b] 240)=wb at c0 c1 hg0 hlt ⊢;go_wp2_with (go_at_call 234;refine (qa hs _).mono ?_;rintro e w' ⟨rfl,hg⟩;have d1:=(Below.cell hg (p:=⟨w.heap.size,1,none⟩) hlt).trans c1;have hg1:=hide (Gr.trans (qa hg0) hg);clear hg)
 all_goals
  go_ret;refine ⟨zd ?_,by first|exact qa hg1|exact qa hg0⟩;simp only [goesB,<-qa hz];simp [*]
end Go.Proofs.YtnfakamfmkhlbaaGreatDoor.C
namespace Go.Proofs.YtnfakamfmkhlbaaGreatDoor.C
open Go.ChangeShapes Go.WideShapes Go.ChangeAt Go.RowKit Go.Shelf
open Go.Proofs.YtnfakamfmkhlbaaGreatDoor.P
attribute [local go_sem] qd qi Oper.semAt_some
def stepsL:List Stp:=[(0,1),(1,1),(1,0),(1,-1),(0,-1),(-1,-1),(-1,0),(-1,1),(1,2),(2,1),(2,-1),(1,-2),(-1,-2),(-2,-1),(-2,1),(-1,2)]
def nx (x:Nat) (s:Stp):Nat:=(nxt x s).toNat
def wkN (z:Nat->UInt8) (s:Stp):Nat->Nat->List Nat
 | 0,_=>[]
 | n+1,x=>if onB x s then nx x s :: (if z (nx x s)=46 then wkN z s n (nx x s) else []) else []
def dis (x:Nat) (s:Stp):Nat:=if 0<s.1 then 7-x%8 else if s.1<0 then x%8 else if 0<s.2 then 7-x/8 else x/8
theorem nx_is {x:Nat} {s:Stp} (h:onB x s=true):nxt x s=(nx x s:Nat)/\nx x s<64:=by
 simp only [onB,Bool.and_eq_true,decide_eq_true_eq] at h;unfold nx nxt;omega
theorem dis_lt {x:Nat} {s:Stp} (hx:x<64) (hs:s.1≠0\/s.2≠0) (h:onB x s=true):dis (nx x s) s<dis x s:=by
 simp only [onB,Bool.and_eq_true,decide_eq_true_eq] at h;unfold dis nx nxt;split
 ·omega
 ·split
  ·omega
  ·split<;>omega
def wkL (z:Nat->UInt8) (s:Stp) (x:Nat):List Nat:=wkN z s 8 x
theorem dis_7 (x:Nat) (hx:x<64) (s:Stp):dis x s<=7:=by
 unfold dis;split
 ·omega
 ·split
  ·omega
  ·split<;>omega
def encI (x:Nat):Array Value:=#[.int .i64 (x:Int)]
def isTrue:Value->Bool
 | .bool true=>true
 | _=>false
def Bz (z:Nat->UInt8) (a:Nat) (w:World):Prop:=∀ i,i<64->w.cell? ⟨a,i,none⟩=some (.int .u8 ((z i).toNat:Int))
theorem Bz.fr {z:Nat->UInt8} {a:Nat} {w w':World} {Q:Nat->Obj->Prop} (h:Bz z a w) (f:Fr Q w w') (hq:∀ o,Q a o):Bz z a w':=fun i hi=>f.cell (h i hi) (fun o _=>hq o)
structure Wk (z:Nat->UInt8) (x:Nat) (s:Stp) (Bf Bs Bq a:Nat) (w:World):Prop where
 fr:w.cell? ⟨Bf,0,none⟩=some (.int .i64 (x:Int))
 s0:w.cell? ⟨Bs,0,none⟩=some (.int .i64 s.1)
 s1:w.cell? ⟨Bs,1,none⟩=some (.int .i64 s.2)
 qq:w.cell? ⟨Bq,0,none⟩=some (.pointer (some ⟨a,0,none⟩))
 bd:Bz z a w
theorem Wk.fr' {z:Nat->UInt8} {x:Nat} {s:Stp} {Bf Bs Bq a:Nat} {w w':World} {Q:Nat->Obj->Prop} (h:Wk z x s Bf Bs Bq a w) (f:Fr Q w w') (hq:∀ k o,(k=Bf\/k=Bs\/k=Bq\/k=a)->Q k o):Wk z x s Bf Bs Bq a w' :=
 ⟨f.cell h.fr (fun o _=>hq _ o (.inl rfl)),f.cell h.s0 (fun o _=>hq _ o (.inr (.inl rfl))),f.cell h.s1 (fun o _=>hq _ o (.inr (.inl rfl))),f.cell h.qq (fun o _=>hq _ o (.inr (.inr (.inl rfl)))),h.bd.fr f (fun o=>hq _ o (.inr (.inr (.inr rfl))))⟩
theorem walk_it (z:Nat->UInt8) (x:Nat) (hx:x<64) (a b:Int) (hs:small (a,b)) (hn:a≠0\/b≠0) (Bf Bs Bq A:Nat) (T:Obj->Prop) (w:World) (hw:Wk z x (a,b) Bf Bs Bq A w) :
  It Tryz.prog 232 #[.pointer (some ⟨Bf,0,none⟩),.pointer (some ⟨Bs,0,none⟩),.pointer (some ⟨Bq,0,none⟩)] encI T (fun k=>k=Bf\/k=Bs\/k=Bq\/k=A) (wkL z (a,b) x) w:=by
 intro l B J Jx W f0 hB hJ hJx hY h0;have hW:=hw.fr' f0 (fun k o h=>h);clear f0 hw;have hnx:=hide (fun (x:Nat) (hx:x<64) W=>next_any x hx a b hs W);refine (callsIn_wide (n:=1)).1 ?_;refine callsIn_of_wp Tryz.func232 rfl trivial ?_ rfl;simp only [Tryz.ntmps232,List.size_toArray,List.length_cons,List.length_nil,Nat.reduceAdd,Nat.reduceSub,Array.replicate_succ,Array.replicate_zero,List.push_toArray,List.append_toArray,List.nil_append,List.cons_append];have c1:=hW.fr;have c2:=hW.s0;have c3:=hW.s1;gi_wp2_with (refine ⟨trivial,?_⟩;gi_at_call 233;refine (callsIn_wide.2 (qa hnx x hx _)).mono ?_;rintro e w' ⟨rfl,hg⟩);have hJ0:=hJ _ _ _ h0 (Fr.of_gr hg);have hW0:=hW.fr' (Q:=fun _ _=>True) (Fr.of_gr hg) (fun _ _ _=>trivial);clear c1 c2 c3 hg h0 hW;gi_loopw [5,6] (fun sq ok wr=>∃ (pre:List Nat) (y n:Nat),y<64/\dis y (a,b)<n/\sq=.int .i64 (nxt y (a,b))/\ok=.bool (onB y (a,b))/\wkL z (a,b) x=pre++wkN z (a,b) n y/\Wk z x (a,b) Bf Bs Bq A wr/\J pre wr) (fun sq ok _=>if isTrue ok then dis (intOf sq).toNat (a,b)+1 else 0)
 case atStart=>exact ⟨[],x,8,hx,by have:=dis_7 x hx (a,b);omega,rfl,rfl,rfl,hW0,hJ0⟩
 case round =>
  obtain ⟨pre,y,n,hy,hd,rfl,rfl,hxs,hWr,hJr⟩:=hrel;clear hJ0 hW0;have hxs':=hide hxs;have hWr':=hide hWr;clear hxs hWr;cases hon:onB y (a,b)
  ·have hx2:wkL z (a,b) x=pre:=by
    rw [qa hxs'];cases n with
    | zero=>simp [wkN]
    | succ n=>simp [wkN,hon]
   have hx3:=hide hx2;clear hx2;gi_wp2;go_end0;exact ⟨⟨_,rfl⟩,.inl (by rw [qa hx3];exact hJr)⟩
  ·obtain ⟨n,rfl⟩:∃ n',n=n'+1:=⟨n-1,by omega⟩;obtain ⟨e1,e2⟩:=nx_is hon;have hdl:=dis_lt hy hn hon;rw [e1];have hst:wkN z (a,b) (n+1) y=nx y (a,b) :: (if z (nx y (a,b))=46 then wkN z (a,b) n (nx y (a,b)) else []):=by simp [wkN,hon]
   have hxs2:=qa hxs';rw [hst] at hxs2;generalize nx y (a,b)=m at e2 hdl hst hxs2 ⊢;have hxs3:=hide hxs2;have hpm:pre++[m] <+: wkL z (a,b) x:=⟨_,by rw [qa hxs3,List.append_assoc];rfl⟩;obtain ⟨fn,tmps,assign,body,hyy,hR⟩:=hY pre m wr hpm hJr;have hy':(Instr.yield l #[.int .i64 (m:Int)]).run Tryz.prog wr=.ok (.round l fn tmps assign body) wr:=hyy;clear hxs' hst hxs2 hyy e1 hon;have hm0:(0:Int)<=(m:Int):=by omega
   have hm64:(m:Int)<64:=by omega
   gi_wp2;refine hR.mono ?_;rintro e W3 ⟨f3,⟨rfl,hJ3⟩|⟨rfl,hJx3⟩⟩
   ·have hW3:=(qa hWr').fr' f3 (fun k o h=>.inl h);have d1:=hW3.qq;have d2:=hW3.bd m e2;have d3:=hW3.s0;have d4:=hW3.s1;have hW3':=hide hW3;clear hW3 hWr' hR hy';by_cases h46:z m=46
    ·rw [if_pos h46] at hxs3;have hz:((z m).toNat:Int)=46:=by rw [h46];rfl
     rw [hz] at d2;gi_wp2_with (refine ⟨trivial,?_⟩;gi_at_call 233;refine (callsIn_wide.2 (qa hnx m e2 _)).mono ?_;rintro e w' ⟨rfl,hg⟩);go_roundw
     case rel=>exact ⟨pre++[m],m,n,e2,by omega,rfl,rfl,by rw [qa hxs3,List.append_assoc];rfl,(qa hW3').fr' (Q:=fun _ _=>True) (Fr.of_gr hg) (fun _ _ _=>trivial),hJ _ _ _ hJ3 (Fr.of_gr hg)⟩
     case measure =>
      simp only [intOf,isTrue,if_true,Int.toNat_natCast];cases hom:onB m (a,b)
      ·simp [isTrue]
      ·have:=dis_lt e2 hn hom;simp only [isTrue,if_true];unfold nx at this;omega
    ·rw [if_neg h46] at hxs3
     have hz:(((z m).toNat:Int) != 46)=true:=by
      simp only [bne_iff_ne];intro h;apply h46;apply UInt8.toNat_inj.1;have:(z m).toNat=46:=by omega
      rw [this];rfl
     gi_wp2;refine bodyPost_ret (results_none rfl _ _ _) rfl ?_;exact ⟨⟨_,rfl⟩,.inl (by rw [qa hxs3];exact hJ3)⟩
   ·gi_wp2;refine bodyPost_ret (results_none rfl _ _ _) rfl ?_;exact ⟨⟨_,rfl⟩,.inr ⟨pre++[m],hpm,hJx3⟩⟩
end Go.Proofs.YtnfakamfmkhlbaaGreatDoor.C
namespace Go.Proofs.YtnfakamfmkhlbaaGreatDoor.C
open Go.ChangeShapes Go.WideShapes Go.ChangeAt Go.RowKit Go.Shelf
open Go.Proofs.YtnfakamfmkhlbaaGreatDoor.P
def farB (c:UInt8):Bool:=decide (0<=Lib.indexByte [66,82,81,98,114,113] c)
theorem qj0 (c:UInt8) (w:World):Calls Tryz.prog 162 #[.int .u8 (c.toNat:Int)] w fun e w'=>e=.returned (.bool (farB c))/\w'=w:=by
 have hu:((c.toNat:Nat):Int).toNat.toUInt8=c:=by simp
 obtain ⟨ix,hix⟩:∃ ix,Lib.indexByte [66,82,81,98,114,113] c=ix:=⟨_,rfl⟩;have hfar:Hid (farB c=decide (0<=ix)):=hide (by unfold farB;rw [hix]);go_enter Tryz.func162,Tryz.ntmps162;go_wp2_with (go_at_call 138;refine (Tryz.strings_IndexByte _ _ _).mono ?_;rintro e w' ⟨rfl,rfl⟩);go_ret;refine ⟨zd ?_,rfl⟩;rw [qa hfar]
end Go.Proofs.YtnfakamfmkhlbaaGreatDoor.C
namespace Go.Proofs.YtnfakamfmkhlbaaGreatDoor.C
open Go.ChangeShapes Go.WideShapes Go.ChangeAt Go.RowKit Go.Shelf
open Go.Proofs.YtnfakamfmkhlbaaGreatDoor.P
attribute [local go_sem] qd qi Oper.semAt_some
theorem heapThree (w:World) (o1 o2 o3:Obj):(((w.alloc o1).alloc o2).alloc o3).heap[w.heap.size]?=some o1/\(((w.alloc o1).alloc o2).alloc o3).heap[w.heap.size+1]?=some o2/\(((w.alloc o1).alloc o2).alloc o3).heap[w.heap.size+2]?=some o3/\(((w.alloc o1).alloc o2).alloc o3).heap.size=w.heap.size+3:=by
 obtain ⟨h1,h2⟩:=heapTwo w o1 o2;refine ⟨?_,?_,?_,by simp⟩
 ·rw [Below.heap_alloc _ _ _ (by simp;omega)];exact h1
 ·rw [Below.heap_alloc _ _ _ (by simp)];exact h2
 ·have:=World.alloc_heap_new ((w.alloc o1).alloc o2) o3
  rwa [World.size_alloc,World.size_alloc] at this
structure WkAt (A x:Nat) (a b:Int) (Bq:Nat) (w:World):Prop where
 b0:w.heap[Bq]?=some (.cells #[.pointer (some ⟨A,0,none⟩)] 243)
 b1:w.heap[Bq+1]?=some (.cells #[.int .i64 (x:Int)] 3)
 b2:w.heap[Bq+2]?=some (.cells #[.int .i64 a,.int .i64 b] 240)
def wkA (Bq:Nat):Array Value:=#[.pointer (some ⟨Bq+1,0,none⟩),.pointer (some ⟨Bq+2,0,none⟩),.pointer (some ⟨Bq,0,none⟩)]
theorem xc {V:World} {b:Nat} {x y:Value} {t:TypeId} {fr:Nat × Nat} (h:V.heap[b]?=some (.cells #[x,y] t fr)):V.cell? ⟨b,0,none⟩=some x/\V.cell? ⟨b,1,none⟩=some y:=by
 refine ⟨?_,?_⟩<;>simp [World.cell?,h]
theorem WkAt.wk {z:Nat->UInt8} {A x:Nat} {a b:Int} {Bq:Nat} {w:World} (h:WkAt A x a b Bq w) (hb:Bz z A w):Wk z x (a,b) (Bq+1) (Bq+2) Bq A w :=
 ⟨(qe h.b1).1,(xc h.b2).1,(xc h.b2).2,(qe h.b0).1,hb⟩
theorem walk_mk (A x:Nat) (a b:Int) (w:World):Calls Tryz.prog 158 #[.pointer (some ⟨A,0,none⟩),.int .i64 (x:Int),.agg #[.int .i64 a,.int .i64 b]] w fun e w'=>e=.returned (.func (.func 232) #[] (wkA w.heap.size))/\WkAt A x a b w.heap.size w'/\Gr w w'/\w'.heap.size=w.heap.size+3:=by
 have hmf:∀ (fn:Fn) (first cap:Array Value) (w:World),(Instr.makeFunc fn first cap).run Tryz.prog w=.ok (.func fn first cap) w:=fun _ _ _ _=>rfl
 obtain ⟨h1,h2,h3,h4⟩:=heapThree w (.cells #[.pointer (some ⟨A,0,none⟩)] 243) (.cells #[.int .i64 (x:Int)] 3) (.cells #[.int .i64 a,.int .i64 b] 240);go_enter Tryz.func158,Tryz.ntmps158;go_wp2;go_ret;exact ⟨rfl,⟨h1,h2,h3⟩,(((Gr.refl w).alloc _ _).alloc _ _).alloc _ _,h4⟩
def stepsV:List Value:=stepsL.flatMap fun s=>[.int .i64 s.1,.int .i64 s.2]
def StTab (w:World):Prop:=w.rangeAt 1 0 stepsV/\1<w.heap.size
theorem StTab.gr {w w':World} (h:StTab w) (g:Gr w w'):StTab w' :=
 ⟨fun j v hv=>(Below.cell g (p:=⟨_,0+j,none⟩) h.2).trans (h.1 j v hv),Nat.lt_of_lt_of_le h.2 (Below.size g)⟩
theorem StTab.fr {Q:Nat->Obj->Prop} {w w':World} (h:StTab w) (f:Fr Q w w') (hq:∀ o,Q 1 o):StTab w' :=
 ⟨fun j v hv=>f.cell (h.1 j v hv) (fun o _=>hq o),Nat.lt_of_lt_of_le h.2 f.size⟩
theorem infoS32:(Tryz.prog.info? 241).map (·.size)=some stepsV.length:=by kernel_rfl
def stN (k:Nat):Stp:=stepsL.getD k (0,1)
theorem stN_small (k:Nat):small (stN k)/\((stN k).1≠0\/(stN k).2≠0):=by
 have h:∀ s∈stepsL,small s/\(s.1≠0\/s.2≠0):=by
  unfold stepsL small;decide
 unfold stN;rw [List.getD_eq_getElem?_getD];cases e:stepsL[k]? with
 | none=>exact ⟨by unfold small;decide,by decide⟩
 | some s=>exact h s (List.mem_of_getElem? e)
theorem ixst0 (w:World):(Instr.index 241 (.agg stepsV.toArray) (.int .i64 0)).run Tryz.prog w=.ok (.agg #[.int .i64 (stN 0).1,.int .i64 (stN 0).2]) w:=by kernel_rfl
theorem ixst1 (w:World):(Instr.index 241 (.agg stepsV.toArray) (.int .i64 1)).run Tryz.prog w=.ok (.agg #[.int .i64 (stN 1).1,.int .i64 (stN 1).2]) w:=by kernel_rfl
theorem ixst2 (w:World):(Instr.index 241 (.agg stepsV.toArray) (.int .i64 2)).run Tryz.prog w=.ok (.agg #[.int .i64 (stN 2).1,.int .i64 (stN 2).2]) w:=by kernel_rfl
theorem ixst3 (w:World):(Instr.index 241 (.agg stepsV.toArray) (.int .i64 3)).run Tryz.prog w=.ok (.agg #[.int .i64 (stN 3).1,.int .i64 (stN 3).2]) w:=by kernel_rfl
theorem ixst4 (w:World):(Instr.index 241 (.agg stepsV.toArray) (.int .i64 4)).run Tryz.prog w=.ok (.agg #[.int .i64 (stN 4).1,.int .i64 (stN 4).2]) w:=by kernel_rfl
theorem ixst5 (w:World):(Instr.index 241 (.agg stepsV.toArray) (.int .i64 5)).run Tryz.prog w=.ok (.agg #[.int .i64 (stN 5).1,.int .i64 (stN 5).2]) w:=by kernel_rfl
theorem ixst6 (w:World):(Instr.index 241 (.agg stepsV.toArray) (.int .i64 6)).run Tryz.prog w=.ok (.agg #[.int .i64 (stN 6).1,.int .i64 (stN 6).2]) w:=by kernel_rfl
theorem ixst7 (w:World):(Instr.index 241 (.agg stepsV.toArray) (.int .i64 7)).run Tryz.prog w=.ok (.agg #[.int .i64 (stN 7).1,.int .i64 (stN 7).2]) w:=by kernel_rfl
theorem ixst8 (w:World):(Instr.index 241 (.agg stepsV.toArray) (.int .i64 8)).run Tryz.prog w=.ok (.agg #[.int .i64 (stN 8).1,.int .i64 (stN 8).2]) w:=by kernel_rfl
theorem ixst9 (w:World):(Instr.index 241 (.agg stepsV.toArray) (.int .i64 9)).run Tryz.prog w=.ok (.agg #[.int .i64 (stN 9).1,.int .i64 (stN 9).2]) w:=by kernel_rfl
theorem ixst10 (w:World):(Instr.index 241 (.agg stepsV.toArray) (.int .i64 10)).run Tryz.prog w=.ok (.agg #[.int .i64 (stN 10).1,.int .i64 (stN 10).2]) w:=by kernel_rfl
theorem ixst11 (w:World):(Instr.index 241 (.agg stepsV.toArray) (.int .i64 11)).run Tryz.prog w=.ok (.agg #[.int .i64 (stN 11).1,.int .i64 (stN 11).2]) w:=by kernel_rfl
theorem ixst12 (w:World):(Instr.index 241 (.agg stepsV.toArray) (.int .i64 12)).run Tryz.prog w=.ok (.agg #[.int .i64 (stN 12).1,.int .i64 (stN 12).2]) w:=by kernel_rfl
theorem ixst13 (w:World):(Instr.index 241 (.agg stepsV.toArray) (.int .i64 13)).run Tryz.prog w=.ok (.agg #[.int .i64 (stN 13).1,.int .i64 (stN 13).2]) w:=by kernel_rfl
theorem ixst14 (w:World):(Instr.index 241 (.agg stepsV.toArray) (.int .i64 14)).run Tryz.prog w=.ok (.agg #[.int .i64 (stN 14).1,.int .i64 (stN 14).2]) w:=by kernel_rfl
theorem ixst15 (w:World):(Instr.index 241 (.agg stepsV.toArray) (.int .i64 15)).run Tryz.prog w=.ok (.agg #[.int .i64 (stN 15).1,.int .i64 (stN 15).2]) w:=by kernel_rfl
theorem ixst (k:Nat) (hk:k<16) (w:World):(Instr.index 241 (.agg stepsV.toArray) (.int .i64 (k:Int))).run Tryz.prog w=.ok (.agg #[.int .i64 (stN k).1,.int .i64 (stN k).2]) w:=by
 have:k=0\/k=1\/k=2\/k=3\/k=4\/k=5\/k=6\/k=7\/k=8\/k=9\/k=10\/k=11\/k=12\/k=13\/k=14\/k=15:=by omega
 rcases this with rfl|rfl|rfl|rfl|rfl|rfl|rfl|rfl|rfl|rfl|rfl|rfl|rfl|rfl|rfl|rfl
 ·exact ixst0 w
 ·exact ixst1 w
 ·exact ixst2 w
 ·exact ixst3 w
 ·exact ixst4 w
 ·exact ixst5 w
 ·exact ixst6 w
 ·exact ixst7 w
 ·exact ixst8 w
 ·exact ixst9 w
 ·exact ixst10 w
 ·exact ixst11 w
 ·exact ixst12 w
 ·exact ixst13 w
 ·exact ixst14 w
 ·exact ixst15 w
end Go.Proofs.YtnfakamfmkhlbaaGreatDoor.C
