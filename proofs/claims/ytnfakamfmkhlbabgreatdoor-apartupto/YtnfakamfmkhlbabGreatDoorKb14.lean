import Derived.Test.YtnfakamfmkhlbabGreatDoorKb13
import Derived.Test.YtnfakamfmkhlbabGreatDoorKb7
import Derived.Deep.QuietTactic
import Derived.BigQuiet
import Derived.Test.YtnfakamfmkhlbabGreatDoorKb2
import Derived.Shelf.RegionOpen
import Derived.LoopNIn
import Derived.LoopIn
import Derived.Test.YtnfakamfmkhlbabGreatDoorKb11
set_option maxRecDepth 100000
set_option maxHeartbeats 4000000
set_option linter.unusedSimpArgs false
namespace Go.Proofs.YtnfakamfmkhlbabGreatDoor.C
open Go.ChangeShapes Go.WideShapes Go.ChangeAt Go.RowKit
attribute [local go_sem] setCell_drewN alloc_drewN
def casB (wh:Bool) (fc:Nat->Bool) (f t:Nat) (u:UInt8) (i:Nat):Bool:=fc i&&(sdb (decide (i<2))==sdb wh)&&((f:Int)==homeK i)&&((t:Int)==homeT i)&&((u.toNat:Int)==0)
def casF2 (p:Nat->Bool):Nat->Nat->Int
 | 0,_=>-1
 | n+1,i=>if p i then (i:Int) else casF2 p n (i+1)
def casR (wh:Bool) (fc:Nat->Bool) (f t:Nat) (u:UInt8):Int:=casF2 (casB wh fc f t u) 4 0
theorem blk_old (W:World) (o:Obj) (j:Nat) (h:j<W.heap.size):(W.alloc o).heap[j]?=W.heap[j]?:=Below.block ((Below.refl W.heap.size W).alloc (Nat.le_refl _) o) j h
theorem row_at {w w':World} {PA o:Array Value} {ty ty2:TypeId} (g:Gr ((w.alloc (.cells PA ty)).alloc (.cells o ty2)) w'):w'.heap[w.heap.size]?=some (.cells PA ty (0,0))/\w'.heap[w.heap.size+1]?=some (.cells o ty2 (0,0)):=by
 constructor
 ·refine (Below.block g _ (by rw [World.size_alloc,World.size_alloc];omega)).trans ?_;rw [blk_old _ _ _ (by rw [World.size_alloc];omega)];exact World.alloc_heap_new w _
 ·refine (Below.block g _ (by rw [World.size_alloc,World.size_alloc];omega)).trans ?_;have:=World.alloc_heap_new (w.alloc (.cells PA ty)) (.cells o ty2)
  rwa [World.size_alloc] at this
theorem cells_at {W:World} {b:Nat} {A:Array Value} {ty:TypeId} (h:W.heap[b]?=some (.cells A ty (0,0))) (i:Nat):W.cell? ⟨b,i,none⟩=A[i]?:=by
 simp only [World.cell?];rw [h];rfl
theorem rowOf {W:World} {b:Nat} {A:Array Value} {ty:TypeId} (h:W.heap[b]?=some (.cells A ty (0,0))):RowAt b A W :=
 ⟨(Array.getElem?_eq_some_iff.1 h).1,fun j v hv=>by rw [Nat.zero_add,cells_at h,<-Array.getElem?_toList];exact hv⟩
def wayP (i:Nat) (j:Nat):Int:=if i%2=0 then homeK i+j else homeK i-j
def wayL (i:Nat):Nat:=if i%2=0 then 3 else 4
def clrH (z:Nat->UInt8) (i:Nat):Bool:=P.freeI (fun n=>((z n).toNat:Int)) (wayP i) (wayL i)
def freeC (z:Nat->UInt8) (i:Nat):Bool:=clrH z i&&!(attR z (homeK i) (!decide (i<2)))&&!(attR z ((homeK i+homeT i).tdiv 2) (!decide (i<2)))&&!(attR z (homeT i) (!decide (i<2)))
end Go.Proofs.YtnfakamfmkhlbabGreatDoor.C
namespace Go.Proofs.YtnfakamfmkhlbabGreatDoor.C
open Go.ChangeShapes Go.WideShapes Go.ChangeAt Go.RowKit Go.Shelf
open Go.Proofs.YtnfakamfmkhlbabGreatDoor.P
attribute [local go_sem] setCell_drewN alloc_drewN
abbrev Stp:=Int × Int
def small (s:Stp):Prop:=-2<=s.1/\s.1<=2 ∧ -2<=s.2/\s.2<=2
def szI (s:Stp):Int:=s.1*s.1+s.2*s.2
theorem sq_wrap {a:Int} (h1:-2<=a) (h2:a<=2):wrap64 (a*a)=a*a/\0<=a*a/\a*a<=4:=by
 have:a=-2\/a=-1\/a=0\/a=1\/a=2:=by omega
 rcases this with rfl|rfl|rfl|rfl|rfl<;>(unfold wrap64;omega)
theorem ret_bool {a b:Bool} (h:a=b):Ending.returned (.bool a)=.returned (.bool b):=by rw [h]
theorem ret_ib {k:IntKind} {a b:Int} {x y:Bool} (h:a=b) (g:x=y):Ending.returned (.tuple #[.int k a,.bool x])=.returned (.tuple #[.int k b,.bool y]):=by rw [h,g]
theorem stepSize_any (a b:Int) (h:small (a,b)) (w:World):Calls Tryz.prog 222 #[.agg #[.int .i64 a,.int .i64 b]] w fun e w'=>e=.returned (.int .i64 (szI (a,b)))/\Gr w w':=by
 obtain ⟨h1,h2,h3,h4⟩:=h;simp only at h1 h2 h3 h4;have e1:=sq_wrap h1 h2;have e2:=sq_wrap h3 h4;go_enter Tryz.func222,Tryz.ntmps222;go_wp2;go_ret;refine ⟨ret_int ?_,(Gr.refl w).alloc _ _⟩;rfl
theorem stepBack_any (a b:Int) (h:small (a,b)) (w:World):Calls Tryz.prog 150 #[.agg #[.int .i64 a,.int .i64 b]] w fun e w'=>e=.returned (.agg #[.int .i64 (-a),.int .i64 (-b)])/\Gr w w':=by
 obtain ⟨h1,h2,h3,h4⟩:=h;simp only at h1 h2 h3 h4;have e1:wrap64 (-a)=-a:=by unfold wrap64;omega
 have e2:wrap64 (-b)=-b:=by unfold wrap64;omega
 go_enter Tryz.func150,Tryz.ntmps150;go_wp2;exact bodyPost_ret (v:=.agg #[.int .i64 (-a),.int .i64 (-b)]) (results_cell_row Tryz.results150 _ _ (w.heap.size+1) 221 #[.int .i64 (-a),.int .i64 (-b)] (0,0) _ rfl (by have:=World.alloc_heap_new (w.alloc (.cells #[.int .i64 a,.int .i64 b] 221)) (.cells #[.int .i64 (-a),.int .i64 (-b)] 221);rw [World.size_alloc] at this;exact this) Tryz.underlying221 rfl (by kernel_rfl)) rfl ⟨rfl,((Gr.refl w).alloc _ _).alloc _ _⟩
def manB (c:UInt8) (wh:Bool):Bool:=if wh then decide (65<=c.toNat)&&decide (c.toNat<=90) else decide (97<=c.toNat)&&decide (c.toNat<=122)
theorem isMan_any (c:UInt8) (wh:Bool) (w:World):Calls Tryz.prog 148 #[.int .u8 (c.toNat:Int),.bool wh] w fun e w'=>e=.returned (.bool (manB c wh))/\w'=w:=by
 cases wh
 all_goals
  go_enter Tryz.func148,Tryz.ntmps148;go_wp2
  all_goals
   go_ret;refine ⟨ret_bool ?_,rfl⟩;rw [Bool.eq_iff_iff];simp only [manB,Bool.and_eq_true,decide_eq_true_eq,Bool.false_eq_true,false_iff,if_true,if_false];omega
def nxt (x:Nat) (s:Stp):Int:=8*((x:Int)/8+s.2)+((x:Int)%8+s.1)
def onB (x:Nat) (s:Stp):Bool:=decide (0<=(x:Int)%8+s.1)&&decide ((x:Int)%8+s.1<8)&&decide (0<=(x:Int)/8+s.2)&&decide ((x:Int)/8+s.2<8)
theorem next_any (x:Nat) (hx:x<64) (a b:Int) (h:small (a,b)) (w:World):Calls Tryz.prog 221 #[.int .i64 (x:Int),.agg #[.int .i64 a,.int .i64 b]] w fun e w'=>e=.returned (.tuple #[.int .i64 (nxt x (a,b)),.bool (onB x (a,b))])/\Gr w w':=by
 obtain ⟨h1,h2,h3,h4⟩:=h;simp only at h1 h2 h3 h4;go_enter Tryz.func221,Tryz.ntmps221;go_upto_region 1 with fail;go_quiet (fail);go_wp2
 all_goals
  go_ret2;refine ⟨ret_ib rfl ?_,((Gr.refl w).alloc _ _).drewN _⟩;rw [Bool.eq_iff_iff];simp only [onB,Bool.and_eq_true,decide_eq_true_eq,Bool.false_eq_true,false_iff];omega
def goesB (c:UInt8) (s:Stp):Bool :=
 if ((c.toNat:Int)==80) then (szI s==2)&&(s.2==1)
 else if ((c.toNat:Int)==112) then (szI s==2)&&(s.2==-1)
 else if ((c.toNat:Int)==78)||((c.toNat:Int)==110) then szI s==5
 else if ((c.toNat:Int)==66)||((c.toNat:Int)==98) then szI s==2
 else if ((c.toNat:Int)==82)||((c.toNat:Int)==114) then szI s==1
 else if ((c.toNat:Int)==81)||((c.toNat:Int)==113)||((c.toNat:Int)==75)||((c.toNat:Int)==107) then decide (szI s<=2)
 else false
theorem two_in {w:World} {a b:Int} {ty:TypeId}:(w.alloc (.cells #[.int .i64 a,.int .i64 b] ty)).cell? ⟨w.heap.size,0,none⟩=some (.int .i64 a)/\(w.alloc (.cells #[.int .i64 a,.int .i64 b] ty)).cell? ⟨w.heap.size,1,none⟩=some (.int .i64 b):=by
 constructor<;>(rw [World.cell?_alloc_at _ _ _ _ rfl];rfl)
theorem goes_any (c:UInt8) (a b:Int) (h:small (a,b)) (w:World):Calls Tryz.prog 149 #[.int .u8 (c.toNat:Int),.agg #[.int .i64 a,.int .i64 b]] w fun e w'=>e=.returned (.bool (goesB c (a,b)))/\Gr w w':=by
 obtain ⟨z,hz⟩:∃ z,Hid (z=szI (a,b)):=⟨_,hide rfl⟩;have hs:Hid (∀ W,Calls Tryz.prog 222 #[.agg #[.int .i64 a,.int .i64 b]] W fun e w'=>e=.returned (.int .i64 z)/\Gr W w'):=hide (fun W=>by rw [unhide hz];exact stepSize_any a b h W);go_enter Tryz.func149,Tryz.ntmps149;go_upto_region 1 with fail;obtain ⟨c0,c1⟩:=two_in (w:=w) (a:=a) (b:=b) (ty:=221);have hg0:Hid (Gr w (w.alloc (.cells #[.int .i64 a,.int .i64 b] 221))):=hide ((Gr.refl w).alloc _ _);have hlt:w.heap.size<(w.alloc (.cells #[.int .i64 a,.int .i64 b] 221)).heap.size:=by simp
 generalize w.alloc (.cells #[.int .i64 a,.int .i64 b] 221)=wb at c0 c1 hg0 hlt ⊢;go_wp2_with (go_at_call 222;refine (unhide hs _).mono ?_;rintro e w' ⟨rfl,hg⟩;have d1:=(Below.cell hg (p:=⟨w.heap.size,1,none⟩) hlt).trans c1;have hg1:=hide (Gr.trans (unhide hg0) hg);clear hg)
 all_goals
  go_ret;refine ⟨ret_bool ?_,by first|exact unhide hg1|exact unhide hg0⟩;simp only [goesB,<-unhide hz];simp [*]
end Go.Proofs.YtnfakamfmkhlbabGreatDoor.C
namespace Go.Proofs.YtnfakamfmkhlbabGreatDoor.C
open Go.ChangeShapes Go.WideShapes Go.ChangeAt Go.RowKit Go.Shelf
open Go.Proofs.YtnfakamfmkhlbabGreatDoor.P
attribute [local go_sem] setCell_drewN alloc_drewN Oper.semAt_some
def stepsL:List Stp:=[(0,1),(1,1),(1,0),(1,-1),(0,-1),(-1,-1),(-1,0),(-1,1),(1,2),(2,1),(2,-1),(1,-2),(-1,-2),(-2,-1),(-2,1),(-1,2)]
def nx (x:Nat) (s:Stp):Nat:=(nxt x s).toNat
def wkN (z:Nat->UInt8) (s:Stp):Nat->Nat->List Nat
 | 0,_=>[]
 | n+1,x=>if onB x s then nx x s :: (if z (nx x s)=46 then wkN z s n (nx x s) else []) else []
def dis (x:Nat) (s:Stp):Nat:=if 0<s.1 then 7-x%8 else if s.1<0 then x%8 else if 0<s.2 then 7-x/8 else x/8
theorem nx_is {x:Nat} {s:Stp} (h:onB x s=true):nxt x s=(nx x s:Nat)/\nx x s<64:=by
 simp only [onB,Bool.and_eq_true,decide_eq_true_eq] at h;unfold nx nxt;omega
theorem dis_lt {x:Nat} {s:Stp} (hx:x<64) (hs:s.1≠0\/s.2≠0) (h:onB x s=true):dis (nx x s) s<dis x s:=by
 simp only [onB,Bool.and_eq_true,decide_eq_true_eq] at h;unfold dis nx nxt;split
 ·omega
 ·split
  ·omega
  ·split<;>omega
def wkL (z:Nat->UInt8) (s:Stp) (x:Nat):List Nat:=wkN z s 8 x
theorem dis_7 (x:Nat) (hx:x<64) (s:Stp):dis x s<=7:=by
 unfold dis;split
 ·omega
 ·split
  ·omega
  ·split<;>omega
def encI (x:Nat):Array Value:=#[.int .i64 (x:Int)]
def isTrue:Value->Bool
 | .bool true=>true
 | _=>false
def Bz (z:Nat->UInt8) (a:Nat) (w:World):Prop:=∀ i,i<64->w.cell? ⟨a,i,none⟩=some (.int .u8 ((z i).toNat:Int))
theorem Bz.fr {z:Nat->UInt8} {a:Nat} {w w':World} {Q:Nat->Obj->Prop} (h:Bz z a w) (f:Fr Q w w') (hq:∀ o,Q a o):Bz z a w':=fun i hi=>f.cell (h i hi) (fun o _=>hq o)
structure Wk (z:Nat->UInt8) (x:Nat) (s:Stp) (Bf Bs Bq a:Nat) (w:World):Prop where
 fr:w.cell? ⟨Bf,0,none⟩=some (.int .i64 (x:Int))
 s0:w.cell? ⟨Bs,0,none⟩=some (.int .i64 s.1)
 s1:w.cell? ⟨Bs,1,none⟩=some (.int .i64 s.2)
 qq:w.cell? ⟨Bq,0,none⟩=some (.pointer (some ⟨a,0,none⟩))
 bd:Bz z a w
theorem Wk.fr' {z:Nat->UInt8} {x:Nat} {s:Stp} {Bf Bs Bq a:Nat} {w w':World} {Q:Nat->Obj->Prop} (h:Wk z x s Bf Bs Bq a w) (f:Fr Q w w') (hq:∀ k o,(k=Bf\/k=Bs\/k=Bq\/k=a)->Q k o):Wk z x s Bf Bs Bq a w' :=
 ⟨f.cell h.fr (fun o _=>hq _ o (.inl rfl)),f.cell h.s0 (fun o _=>hq _ o (.inr (.inl rfl))),f.cell h.s1 (fun o _=>hq _ o (.inr (.inl rfl))),f.cell h.qq (fun o _=>hq _ o (.inr (.inr (.inl rfl)))),h.bd.fr f (fun o=>hq _ o (.inr (.inr (.inr rfl))))⟩
theorem walk_it (z:Nat->UInt8) (x:Nat) (hx:x<64) (a b:Int) (hs:small (a,b)) (hn:a≠0\/b≠0) (Bf Bs Bq A:Nat) (T:Obj->Prop) (w:World) (hw:Wk z x (a,b) Bf Bs Bq A w) :
  It Tryz.prog 220 #[.pointer (some ⟨Bf,0,none⟩),.pointer (some ⟨Bs,0,none⟩),.pointer (some ⟨Bq,0,none⟩)] encI T (fun k=>k=Bf\/k=Bs\/k=Bq\/k=A) (wkL z (a,b) x) w:=by
 intro l B J Jx W f0 hB hJ hJx hY h0;have hW:=hw.fr' f0 (fun k o h=>h);clear f0 hw;have hnx:=hide (fun (x:Nat) (hx:x<64) W=>next_any x hx a b hs W);refine (callsIn_wide (n:=1)).1 ?_;refine callsIn_of_wp Tryz.func220 rfl trivial ?_ rfl;simp only [Tryz.ntmps220,List.size_toArray,List.length_cons,List.length_nil,Nat.reduceAdd,Nat.reduceSub,Array.replicate_succ,Array.replicate_zero,List.push_toArray,List.append_toArray,List.nil_append,List.cons_append];have c1:=hW.fr;have c2:=hW.s0;have c3:=hW.s1;gi_wp2_with (refine ⟨trivial,?_⟩;gi_at_call 221;refine (callsIn_wide.2 (unhide hnx x hx _)).mono ?_;rintro e w' ⟨rfl,hg⟩);have hJ0:=hJ _ _ _ h0 (Fr.of_gr hg);have hW0:=hW.fr' (Q:=fun _ _=>True) (Fr.of_gr hg) (fun _ _ _=>trivial);clear c1 c2 c3 hg h0 hW;gi_loopw [5,6] (fun sq ok wr=>∃ (pre:List Nat) (y n:Nat),y<64/\dis y (a,b)<n/\sq=.int .i64 (nxt y (a,b))/\ok=.bool (onB y (a,b))/\wkL z (a,b) x=pre++wkN z (a,b) n y/\Wk z x (a,b) Bf Bs Bq A wr/\J pre wr) (fun sq ok _=>if isTrue ok then dis (intOf sq).toNat (a,b)+1 else 0)
 case atStart=>exact ⟨[],x,8,hx,by have:=dis_7 x hx (a,b);omega,rfl,rfl,rfl,hW0,hJ0⟩
 case round =>
  obtain ⟨pre,y,n,hy,hd,rfl,rfl,hxs,hWr,hJr⟩:=hrel;clear hJ0 hW0;have hxs':=hide hxs;have hWr':=hide hWr;clear hxs hWr;cases hon:onB y (a,b)
  ·have hx2:wkL z (a,b) x=pre:=by
    rw [unhide hxs'];cases n with
    | zero=>simp [wkN]
    | succ n=>simp [wkN,hon]
   have hx3:=hide hx2;clear hx2;gi_wp2;go_end0;exact ⟨⟨_,rfl⟩,.inl (by rw [unhide hx3];exact hJr)⟩
  ·obtain ⟨n,rfl⟩:∃ n',n=n'+1:=⟨n-1,by omega⟩;obtain ⟨e1,e2⟩:=nx_is hon;have hdl:=dis_lt hy hn hon;rw [e1];have hst:wkN z (a,b) (n+1) y=nx y (a,b) :: (if z (nx y (a,b))=46 then wkN z (a,b) n (nx y (a,b)) else []):=by simp [wkN,hon]
   have hxs2:=unhide hxs';rw [hst] at hxs2;generalize nx y (a,b)=m at e2 hdl hst hxs2 ⊢;have hxs3:=hide hxs2;have hpm:pre++[m] <+: wkL z (a,b) x:=⟨_,by rw [unhide hxs3,List.append_assoc];rfl⟩;obtain ⟨fn,tmps,assign,body,hyy,hR⟩:=hY pre m wr hpm hJr;have hy':(Instr.yield l #[.int .i64 (m:Int)]).run Tryz.prog wr=.ok (.round l fn tmps assign body) wr:=hyy;clear hxs' hst hxs2 hyy e1 hon;have hm0:(0:Int)<=(m:Int):=by omega
   have hm64:(m:Int)<64:=by omega
   gi_wp2;refine hR.mono ?_;rintro e W3 ⟨f3,⟨rfl,hJ3⟩|⟨rfl,hJx3⟩⟩
   ·have hW3:=(unhide hWr').fr' f3 (fun k o h=>.inl h);have d1:=hW3.qq;have d2:=hW3.bd m e2;have d3:=hW3.s0;have d4:=hW3.s1;have hW3':=hide hW3;clear hW3 hWr' hR hy';by_cases h46:z m=46
    ·rw [if_pos h46] at hxs3;have hz:((z m).toNat:Int)=46:=by rw [h46];rfl
     rw [hz] at d2;gi_wp2_with (refine ⟨trivial,?_⟩;gi_at_call 221;refine (callsIn_wide.2 (unhide hnx m e2 _)).mono ?_;rintro e w' ⟨rfl,hg⟩);go_roundw
     case rel=>exact ⟨pre++[m],m,n,e2,by omega,rfl,rfl,by rw [unhide hxs3,List.append_assoc];rfl,(unhide hW3').fr' (Q:=fun _ _=>True) (Fr.of_gr hg) (fun _ _ _=>trivial),hJ _ _ _ hJ3 (Fr.of_gr hg)⟩
     case measure =>
      simp only [intOf,isTrue,if_true,Int.toNat_natCast];cases hom:onB m (a,b)
      ·simp [isTrue]
      ·have:=dis_lt e2 hn hom;simp only [isTrue,if_true];unfold nx at this;omega
    ·rw [if_neg h46] at hxs3
     have hz:(((z m).toNat:Int) != 46)=true:=by
      simp only [bne_iff_ne];intro h;apply h46;apply UInt8.toNat_inj.1;have:(z m).toNat=46:=by omega
      rw [this];rfl
     gi_wp2;refine bodyPost_ret (results_none rfl _ _ _) rfl ?_;exact ⟨⟨_,rfl⟩,.inl (by rw [unhide hxs3];exact hJ3)⟩
   ·gi_wp2;refine bodyPost_ret (results_none rfl _ _ _) rfl ?_;exact ⟨⟨_,rfl⟩,.inr ⟨pre++[m],hpm,hJx3⟩⟩
end Go.Proofs.YtnfakamfmkhlbabGreatDoor.C
namespace Go.Proofs.YtnfakamfmkhlbabGreatDoor.C
open Go.ChangeShapes Go.WideShapes Go.ChangeAt Go.RowKit Go.Shelf
open Go.Proofs.YtnfakamfmkhlbabGreatDoor.P
def farB (c:UInt8):Bool:=decide (0<=Lib.indexByte [66,82,81,98,114,113] c)
theorem goesFar_any (c:UInt8) (w:World):Calls Tryz.prog 151 #[.int .u8 (c.toNat:Int)] w fun e w'=>e=.returned (.bool (farB c))/\w'=w:=by
 have hu:((c.toNat:Nat):Int).toNat.toUInt8=c:=by simp
 obtain ⟨ix,hix⟩:∃ ix,Lib.indexByte [66,82,81,98,114,113] c=ix:=⟨_,rfl⟩;have hfar:Hid (farB c=decide (0<=ix)):=hide (by unfold farB;rw [hix]);go_enter Tryz.func151,Tryz.ntmps151;go_wp2_with (go_at_call 200;refine (Tryz.strings_IndexByte _ _ _).mono ?_;rintro e w' ⟨rfl,rfl⟩);go_ret;refine ⟨ret_bool ?_,rfl⟩;rw [unhide hfar]
end Go.Proofs.YtnfakamfmkhlbabGreatDoor.C
namespace Go.Proofs.YtnfakamfmkhlbabGreatDoor.C
open Go.ChangeShapes Go.WideShapes Go.ChangeAt Go.RowKit Go.Shelf
open Go.Proofs.YtnfakamfmkhlbabGreatDoor.P
attribute [local go_sem] setCell_drewN alloc_drewN Oper.semAt_some
theorem heapThree (w:World) (o1 o2 o3:Obj):(((w.alloc o1).alloc o2).alloc o3).heap[w.heap.size]?=some o1/\(((w.alloc o1).alloc o2).alloc o3).heap[w.heap.size+1]?=some o2/\(((w.alloc o1).alloc o2).alloc o3).heap[w.heap.size+2]?=some o3/\(((w.alloc o1).alloc o2).alloc o3).heap.size=w.heap.size+3:=by
 obtain ⟨h1,h2⟩:=heapTwo w o1 o2;refine ⟨?_,?_,?_,by simp⟩
 ·rw [Below.heap_alloc _ _ _ (by simp;omega)];exact h1
 ·rw [Below.heap_alloc _ _ _ (by simp)];exact h2
 ·have:=World.alloc_heap_new ((w.alloc o1).alloc o2) o3
  rwa [World.size_alloc,World.size_alloc] at this
structure WkAt (A x:Nat) (a b:Int) (Bq:Nat) (w:World):Prop where
 b0:w.heap[Bq]?=some (.cells #[.pointer (some ⟨A,0,none⟩)] 224)
 b1:w.heap[Bq+1]?=some (.cells #[.int .i64 (x:Int)] 3)
 b2:w.heap[Bq+2]?=some (.cells #[.int .i64 a,.int .i64 b] 221)
def wkA (Bq:Nat):Array Value:=#[.pointer (some ⟨Bq+1,0,none⟩),.pointer (some ⟨Bq+2,0,none⟩),.pointer (some ⟨Bq,0,none⟩)]
theorem two_cells {V:World} {b:Nat} {x y:Value} {t:TypeId} {fr:Nat × Nat} (h:V.heap[b]?=some (.cells #[x,y] t fr)):V.cell? ⟨b,0,none⟩=some x/\V.cell? ⟨b,1,none⟩=some y:=by
 refine ⟨?_,?_⟩<;>simp [World.cell?,h]
theorem WkAt.wk {z:Nat->UInt8} {A x:Nat} {a b:Int} {Bq:Nat} {w:World} (h:WkAt A x a b Bq w) (hb:Bz z A w):Wk z x (a,b) (Bq+1) (Bq+2) Bq A w :=
 ⟨(cell_of_box_l h.b1).1,(two_cells h.b2).1,(two_cells h.b2).2,(cell_of_box_l h.b0).1,hb⟩
theorem walk_mk (A x:Nat) (a b:Int) (w:World):Calls Tryz.prog 147 #[.pointer (some ⟨A,0,none⟩),.int .i64 (x:Int),.agg #[.int .i64 a,.int .i64 b]] w fun e w'=>e=.returned (.func (.func 220) #[] (wkA w.heap.size))/\WkAt A x a b w.heap.size w'/\Gr w w'/\w'.heap.size=w.heap.size+3:=by
 have hmf:∀ (fn:Fn) (first cap:Array Value) (w:World),(Instr.makeFunc fn first cap).run Tryz.prog w=.ok (.func fn first cap) w:=fun _ _ _ _=>rfl
 obtain ⟨h1,h2,h3,h4⟩:=heapThree w (.cells #[.pointer (some ⟨A,0,none⟩)] 224) (.cells #[.int .i64 (x:Int)] 3) (.cells #[.int .i64 a,.int .i64 b] 221);go_enter Tryz.func147,Tryz.ntmps147;go_wp2;go_ret;exact ⟨rfl,⟨h1,h2,h3⟩,(((Gr.refl w).alloc _ _).alloc _ _).alloc _ _,h4⟩
def stepsV:List Value:=stepsL.flatMap fun s=>[.int .i64 s.1,.int .i64 s.2]
def StTab (w:World):Prop:=w.rangeAt 0 0 stepsV/\0<w.heap.size
theorem StTab.gr {w w':World} (h:StTab w) (g:Gr w w'):StTab w' :=
 ⟨fun j v hv=>(Below.cell g (p:=⟨_,0+j,none⟩) h.2).trans (h.1 j v hv),Nat.lt_of_lt_of_le h.2 (Below.size g)⟩
theorem StTab.fr {Q:Nat->Obj->Prop} {w w':World} (h:StTab w) (f:Fr Q w w') (hq:∀ o,Q 0 o):StTab w' :=
 ⟨fun j v hv=>f.cell (h.1 j v hv) (fun o _=>hq o),Nat.lt_of_lt_of_le h.2 f.size⟩
theorem infoS32:(Tryz.prog.info? 222).map (·.size)=some stepsV.length:=by kernel_rfl
def stN (k:Nat):Stp:=stepsL.getD k (0,1)
theorem stN_small (k:Nat):small (stN k)/\((stN k).1≠0\/(stN k).2≠0):=by
 have h:∀ s∈stepsL,small s/\(s.1≠0\/s.2≠0):=by
  unfold stepsL small;decide
 unfold stN;rw [List.getD_eq_getElem?_getD];cases e:stepsL[k]? with
 | none=>exact ⟨by unfold small;decide,by decide⟩
 | some s=>exact h s (List.mem_of_getElem? e)
theorem ixst0 (w:World):(Instr.index 222 (.agg stepsV.toArray) (.int .i64 0)).run Tryz.prog w=.ok (.agg #[.int .i64 (stN 0).1,.int .i64 (stN 0).2]) w:=by kernel_rfl
theorem ixst1 (w:World):(Instr.index 222 (.agg stepsV.toArray) (.int .i64 1)).run Tryz.prog w=.ok (.agg #[.int .i64 (stN 1).1,.int .i64 (stN 1).2]) w:=by kernel_rfl
theorem ixst2 (w:World):(Instr.index 222 (.agg stepsV.toArray) (.int .i64 2)).run Tryz.prog w=.ok (.agg #[.int .i64 (stN 2).1,.int .i64 (stN 2).2]) w:=by kernel_rfl
theorem ixst3 (w:World):(Instr.index 222 (.agg stepsV.toArray) (.int .i64 3)).run Tryz.prog w=.ok (.agg #[.int .i64 (stN 3).1,.int .i64 (stN 3).2]) w:=by kernel_rfl
theorem ixst4 (w:World):(Instr.index 222 (.agg stepsV.toArray) (.int .i64 4)).run Tryz.prog w=.ok (.agg #[.int .i64 (stN 4).1,.int .i64 (stN 4).2]) w:=by kernel_rfl
theorem ixst5 (w:World):(Instr.index 222 (.agg stepsV.toArray) (.int .i64 5)).run Tryz.prog w=.ok (.agg #[.int .i64 (stN 5).1,.int .i64 (stN 5).2]) w:=by kernel_rfl
theorem ixst6 (w:World):(Instr.index 222 (.agg stepsV.toArray) (.int .i64 6)).run Tryz.prog w=.ok (.agg #[.int .i64 (stN 6).1,.int .i64 (stN 6).2]) w:=by kernel_rfl
theorem ixst7 (w:World):(Instr.index 222 (.agg stepsV.toArray) (.int .i64 7)).run Tryz.prog w=.ok (.agg #[.int .i64 (stN 7).1,.int .i64 (stN 7).2]) w:=by kernel_rfl
theorem ixst8 (w:World):(Instr.index 222 (.agg stepsV.toArray) (.int .i64 8)).run Tryz.prog w=.ok (.agg #[.int .i64 (stN 8).1,.int .i64 (stN 8).2]) w:=by kernel_rfl
theorem ixst9 (w:World):(Instr.index 222 (.agg stepsV.toArray) (.int .i64 9)).run Tryz.prog w=.ok (.agg #[.int .i64 (stN 9).1,.int .i64 (stN 9).2]) w:=by kernel_rfl
theorem ixst10 (w:World):(Instr.index 222 (.agg stepsV.toArray) (.int .i64 10)).run Tryz.prog w=.ok (.agg #[.int .i64 (stN 10).1,.int .i64 (stN 10).2]) w:=by kernel_rfl
theorem ixst11 (w:World):(Instr.index 222 (.agg stepsV.toArray) (.int .i64 11)).run Tryz.prog w=.ok (.agg #[.int .i64 (stN 11).1,.int .i64 (stN 11).2]) w:=by kernel_rfl
theorem ixst12 (w:World):(Instr.index 222 (.agg stepsV.toArray) (.int .i64 12)).run Tryz.prog w=.ok (.agg #[.int .i64 (stN 12).1,.int .i64 (stN 12).2]) w:=by kernel_rfl
theorem ixst13 (w:World):(Instr.index 222 (.agg stepsV.toArray) (.int .i64 13)).run Tryz.prog w=.ok (.agg #[.int .i64 (stN 13).1,.int .i64 (stN 13).2]) w:=by kernel_rfl
theorem ixst14 (w:World):(Instr.index 222 (.agg stepsV.toArray) (.int .i64 14)).run Tryz.prog w=.ok (.agg #[.int .i64 (stN 14).1,.int .i64 (stN 14).2]) w:=by kernel_rfl
theorem ixst15 (w:World):(Instr.index 222 (.agg stepsV.toArray) (.int .i64 15)).run Tryz.prog w=.ok (.agg #[.int .i64 (stN 15).1,.int .i64 (stN 15).2]) w:=by kernel_rfl
theorem ixst (k:Nat) (hk:k<16) (w:World):(Instr.index 222 (.agg stepsV.toArray) (.int .i64 (k:Int))).run Tryz.prog w=.ok (.agg #[.int .i64 (stN k).1,.int .i64 (stN k).2]) w:=by
 have:k=0\/k=1\/k=2\/k=3\/k=4\/k=5\/k=6\/k=7\/k=8\/k=9\/k=10\/k=11\/k=12\/k=13\/k=14\/k=15:=by omega
 rcases this with rfl|rfl|rfl|rfl|rfl|rfl|rfl|rfl|rfl|rfl|rfl|rfl|rfl|rfl|rfl|rfl
 ·exact ixst0 w
 ·exact ixst1 w
 ·exact ixst2 w
 ·exact ixst3 w
 ·exact ixst4 w
 ·exact ixst5 w
 ·exact ixst6 w
 ·exact ixst7 w
 ·exact ixst8 w
 ·exact ixst9 w
 ·exact ixst10 w
 ·exact ixst11 w
 ·exact ixst12 w
 ·exact ixst13 w
 ·exact ixst14 w
 ·exact ixst15 w
def hitB (z:Nat->UInt8) (bw:Bool) (s:Stp) (far:Bool) (y:Nat):Bool:=manB (z y) bw&&goesB (z y) (-s.1,-s.2)&&(!far||farB (z y))
def hitL (z:Nat->UInt8) (bw:Bool) (s:Stp):Bool->List Nat->Bool
 | _,[]=>false
 | far,y :: r=>hitB z bw s far y||hitL z bw s true r
theorem hit_snoc (z:Nat->UInt8) (bw:Bool) (s:Stp) (y:Nat):∀ (far:Bool) (pre:List Nat),hitL z bw s far (pre++[y])=(hitL z bw s far pre||hitB z bw s (far||!pre.isEmpty) y)
 | far,[]=>by simp [hitL]
 | far,x :: r=>by
   have:=hit_snoc z bw s y true r;simp only [List.cons_append,hitL,this,Bool.true_or,List.isEmpty_cons,Bool.not_false,Bool.or_true,Bool.or_assoc]
theorem hit_pre (z:Nat->UInt8) (bw:Bool) (s:Stp):∀ (pre xs:List Nat) (far:Bool),pre <+: xs->hitL z bw s far pre=true->hitL z bw s far xs=true
 | [],_,_,_,h=>by simp [hitL] at h
 | x :: r,[],_,h,_=>by simp at h
 | x :: r,y :: q,far,h,hh=>by
   obtain ⟨rfl,h2⟩:=List.cons_prefix_cons.1 h;simp only [hitL,Bool.or_eq_true] at hh ⊢;rcases hh with hh|hh
   ·exact .inl hh
   ·exact .inr (hit_pre z bw s r q true h2 hh)
def attLB (z:Nat->UInt8) (x:Nat) (bw:Bool):Bool:=(List.range 16).any fun k=>hitL z bw (stN k) false (wkL z (stN k) x)
theorem wkN_lt {z:Nat->UInt8} {s:Stp}:∀ (n x:Nat),x<64->∀ y∈wkN z s n x,y<64
 | 0,_,_,y,h=>by simp [wkN] at h
 | n+1,x,hx,y,h=>by
   unfold wkN at h;split at h
   ·rename_i hon;have h2:=(nx_is hon).2;rcases List.mem_cons.1 h with rfl|h
    ·exact h2
    ·split at h
     ·exact wkN_lt n _ h2 y h
     ·cases h
   ·cases h
theorem wk_lt {z:Nat->UInt8} {s:Stp} {x y:Nat} (hx:x<64) (h:y∈wkL z s x):y<64:=wkN_lt 8 x hx y h
theorem leave_cells {n:Nat} {fn:Func} {tmps:Array Value} {R:Ending->World->Prop} {B:Nat}:∀ (Ds:List Nat) (w:World),Marks B Ds w →
  (∀ w',Fr (fun k o=>k<B\/o.isCells=true) w w'->∃ v,(results fn tmps).run Tryz.prog w'=.ok v w'/\R (.returned v) w')->LeavesInM Fence.wide n Tryz.prog fn tmps R (Ds.map markD) .returning w:=by
 intro Ds;induction Ds with
 | nil =>
  intro w _ hR;obtain ⟨v,h1,h2⟩:=hR w (Fr.refl _ _);exact ⟨_,h1,h2⟩
 | cons D Ds ih =>
  intro w hM hR;obtain ⟨hB,hD⟩:=hM.2 D (by simp)
  have f:Fr (fun k o=>k<B\/o.isCells=true) w (w.putObj D (.deferred none)):=(Fr.refl _ _).putObj _ (fun o e q=>by
   rw [hD] at e;cases e;rcases q with q|q
   ·omega
   ·cases q)
  refine ⟨by simp,.inl ⟨D,_,rfl,run_takeDeferred hD,ih _ ⟨(List.nodup_cons.1 hM.1).2,fun D' hD'=>⟨(hM.2 D' (List.mem_cons_of_mem _ hD')).1,?_⟩⟩ (fun w' f'=>hR w' (f.trans f'))⟩⟩;have hne:D'≠D:=fun e=>(List.nodup_cons.1 hM.1).1 (e▸hD')
  exact (World.putObj_heap_other hne).trans (hM.2 D' (List.mem_cons_of_mem _ hD')).2
theorem res_att (tmps:Array Value) (w:World) (b:Nat) (v:Value) (hp:tmps.getD 6 undef=.pointer (some ⟨b,0,none⟩)) (hc:w.cell? ⟨b,0,none⟩=some v):(results Tryz.f64 tmps).run Tryz.prog w=.ok v w:=by
 have hp':tmps[6]?.getD undef=.pointer (some ⟨b,0,none⟩):=by simpa using hp
 simp [results,Tryz.results64,hp',asAddr,go_sem,hc]
structure AtS (bw:Bool) (A:Array Value) (w:World) (Ds:List Nat) (W:World):Prop where
 sq:W.heap[w.heap.size]?=some (.cells A 67)
 bb:W.heap[w.heap.size+1]?=some (.cells #[.bool bw] 4)
 rs:W.heap[w.heap.size+2]?=some (.cells #[.bool false] 4)
 ms:Marks w.heap.size Ds W
 gr:Gr w W
theorem AtS.fr {bw:Bool} {A:Array Value} {w:World} {Ds:List Nat} {W W':World} {Q:Nat->Obj->Prop} (h:AtS bw A w Ds W) (f:Fr Q W W') (hq:∀ k o,(k<=w.heap.size+2\/k∈Ds)->Q k o):AtS bw A w Ds W' :=
 ⟨f.same _ _ h.sq (hq _ _ (.inl (by omega))),f.same _ _ h.bb (hq _ _ (.inl (by omega))),f.same _ _ h.rs (hq _ _ (.inl (by omega))),h.ms.fr f (fun k o _ _ _ hk=>hq k o (.inr hk)),Below.trans h.gr (f.below (n:=w.heap.size) (Below.size h.gr) (fun k o hk=>hq k o (.inl (by omega))))⟩
theorem bd_of {z:Nat->UInt8} {A:Array Value} {B:Nat} {W:World} {t:TypeId} (hA:∀ i,i<64->A[i]?=some (.int .u8 ((z i).toNat:Int))) (h:W.heap[B]?=some (.cells A t)):Bz z B W:=fun i hi=>by
 rw [cell_of_row _ _ _ _ _ _ h];exact hA i hi
def AtI (z:Nat->UInt8) (x:Nat) (bw:Bool) (A:Array Value) (w:World) (gk:Nat) (a:Act) (wr:World):Prop :=
 ∃ (k:Nat) (Ds:List Nat) (u4 u7 u8 u9 u10 u11 u14 u15 u16 u17 u18 u19 u20 u21 u22 u23 u24 u25 u26 u27 u28 u29 u30 u31 u32 u33 u34 u35 u36 u37 u38 u39 u40:Value),k+gk=16/\a={ tmps:=#[.agg A,.int .i64 (x:Int),.bool bw,.pointer (some ⟨w.heap.size,0,none⟩),u4,.pointer (some ⟨w.heap.size+1,0,none⟩),.pointer (some ⟨w.heap.size+2,0,none⟩),u7,u8,u9,u10,u11,.agg stepsV.toArray,.int .i64 (k:Int),u14,u15,u16,u17,u18,u19,u20,u21,u22,u23,u24,u25,u26,u27,u28,u29,u30,u31,u32,u33,u34,u35,u36,u37,u38,u39,u40],defers:=Ds.map markD }/\AtS bw A w Ds wr/\∀ j,j<k->hitL z bw (stN j) false (wkL z (stN j) x)=false
theorem attL_any (z:Nat->UInt8) (A:Array Value) (_hsz:A.size=64) (hA:∀ i,i<64->A[i]?=some (.int .u8 ((z i).toNat:Int))) (x:Nat) (hx:x<64) (bw:Bool) (w:World) (hS:StTab w) :
  Calls Tryz.prog 64 #[.agg A,.int .i64 (x:Int),.bool bw] w fun e w'=>e=.returned (.bool (attLB z x bw))/\Gr w w':=by
 refine (callsIn_wide (n:=9)).1 ?_;refine callsIn_of_wp_marks Tryz.func64 rfl trivial ?_ rfl;simp only [Tryz.ntmps64,List.size_toArray,List.length_cons,List.length_nil,Nat.reduceAdd,Nat.reduceSub,Array.replicate_succ,Array.replicate_zero,List.push_toArray,List.append_toArray,List.nil_append,List.cons_append];refine wpIn_wide.2 ?_;obtain ⟨x1,x2,x3,x4⟩:=heapThree w (.cells A 67) (.cells #[.bool bw] 4) (.cells #[.bool false] 4);have hg3:Gr w (((w.alloc (.cells A 67)).alloc (.cells #[.bool bw] 4)).alloc (.cells #[.bool false] 4)):=(((Gr.refl w).alloc _ _).alloc _ _).alloc _ _;have hS3:=hS.gr hg3;go_wp2_with (refine wpList_load_mid rfl 222 _ rfl 0 0 rfl stepsV _ hS3.1 Tryz.underlying222 rfl infoS32 ?_);have hat:AtS bw A w [] (((w.alloc (.cells A 67)).alloc (.cells #[.bool bw] 4)).alloc (.cells #[.bool false] 4)):=⟨x1,x2,x3,⟨List.nodup_nil,fun D hD=>absurd hD List.not_mem_nil⟩,hg3⟩;generalize (((w.alloc (.cells A 67)).alloc (.cells #[.bool bw] 4)).alloc (.cells #[.bool false] 4))=w3 at hat ⊢;clear x1 x2 x3 x4 hg3 hS3 hS;refine wpIn_wide.1 (wpIn_loop_ghost (rm:=9) (AtI z x bw A w) 16 ?start ?round)
 case start=>exact ⟨0,[],undef,undef,undef,undef,undef,undef,undef,undef,undef,undef,undef,undef,undef,undef,undef,undef,undef,undef,undef,undef,undef,undef,undef,undef,undef,undef,undef,undef,undef,undef,undef,undef,undef,rfl,rfl,hat,fun j hj=>absurd hj (Nat.not_lt_zero j)⟩
 case round =>
  clear hat;rintro gk a wr ⟨k,Ds,u4,u7,u8,u9,u10,u11,u14,u15,u16,u17,u18,u19,u20,u21,u22,u23,u24,u25,u26,u27,u28,u29,u30,u31,u32,u33,u34,u35,u36,u37,u38,u39,u40,hk,rfl,hM,hno⟩;have hM':=hide hM;have hno':=hide hno;clear hM hno;by_cases hlt:k<16
  ·have hix:=ixst k hlt;obtain ⟨hsm,hnz⟩:=stN_small k
   have hno2:Hid (hitL z bw (stN k) false (wkL z (stN k) x)=false->∀ j,j<k+1->hitL z bw (stN j) false (wkL z (stN j) x)=false):=hide (fun h j hj=>by
    by_cases e:j=k
    ·subst e;exact h
    ·exact unhide hno' j (by omega))
   have hyes:Hid (hitL z bw (stN k) false (wkL z (stN k) x)=true->attLB z x bw=true):=hide (fun h=>List.any_eq_true.2 ⟨k,List.mem_range.2 hlt,h⟩);clear hno';generalize stN k=st at hix hsm hnz hno2 hyes;obtain ⟨a,b⟩:=st;simp only at hix hnz;have hk0:(0:Int)<=(k:Int):=by omega
   have hk16:(k:Int)<16:=by omega
   have hmk:=hide (fun W=>walk_mk w.heap.size x a b W);obtain ⟨y1,y2⟩:=heapTwo wr (.cells #[.int .i64 a,.int .i64 b] 221) (.cells #[.bool false] 4);have hgA:Gr wr ((wr.alloc (.cells #[.int .i64 a,.int .i64 b] 221)).alloc (.cells #[.bool false] 4)):=((Gr.refl wr).alloc _ _).alloc _ _;have hsA:((wr.alloc (.cells #[.int .i64 a,.int .i64 b] 221)).alloc (.cells #[.bool false] 4)).heap.size=wr.heap.size+2:=by simp
   obtain ⟨y1a,y1b⟩:=two_cells y1;refine wpIn_wide.2 ?_;go_wp2_with (go_at_call 147;refine (unhide hmk _).mono ?_;rintro e w6 ⟨rfl,hwk,hg6,hs6⟩);rw [hsA] at hwk hs6;have k0:=(Below.block hg6 wr.heap.size (by omega)).trans y1;have k1:=(Below.block hg6 (wr.heap.size+1) (by omega)).trans y2;have hM6:AtS bw A w Ds w6:=(unhide hM').fr (Q:=fun _ _=>True) (Fr.of_gr (Gr.trans hgA hg6)) (fun _ _ _=>trivial);have hw3:w.heap.size+3<=wr.heap.size:=by have:=(Array.getElem?_eq_some_iff.1 (unhide hM').rs).1;omega
   have hDs:∀ D∈Ds,D<w6.heap.size:=fun D hD=>(Array.getElem?_eq_some_iff.1 (hM6.ms.2 D hD).2).1
   clear hgA hsA y1 y2 y1a y1b hg6 hix hM' hmk;generalize wr.heap.size=Bs at hw3 hwk hs6 k0 k1 ⊢;have hwk6:=hwk.wk (bd_of hA hM6.sq)
   have mst:∀ {V V':World},AtS bw A w Ds V->Fr (Own1 w6.heap.size (fun _=>False)) V V'->AtS bw A w Ds V':=fun h f=>h.fr f (fun j o hj=>.inl (by
    rcases hj with hj|hj
    ·omega
    ·exact hDs _ hj))
   refine wpIn_wide.1 (range_out (n:=9) (gf:=220) (lb:=wkA (Bs+2)) rfl (enters_of Tryz.func220 (by kernel_rfl) rfl)
    (walk_it z x hx a b hsm hnz (Bs+2+1) (Bs+2+2) (Bs+2) w.heap.size (fun _=>False) w6 hwk6) (fun _ h=>h.elim) (by rintro j (rfl|rfl|rfl|rfl)<;>omega) (Fr.refl _ _) (fun _=>rfl)
    (fun pre V=>AtS bw A w Ds V/\V.heap[Bs]?=some (.cells #[.int .i64 a,.int .i64 b] 221)/\V.heap[Bs+1]?=some (.cells #[.bool (!pre.isEmpty)] 4)/\hitL z bw (a,b) false pre=false/\w6.heap.size<=V.heap.size)
    (fun c pre V=>c=.ret/\hitL z bw (a,b) false pre=true/\V.heap[w.heap.size+2]?=some (.cells #[.bool true] 4)/\Marks w.heap.size Ds V/\Gr w V/\w6.heap.size<=V.heap.size)
    ?sI ?sX ⟨hM6,k0,k1,rfl,Nat.le_refl _⟩ ?rnd ?done ?stop)
   case sI=>exact fun s V V' h f=>⟨mst h.1 f,f.same _ _ h.2.1 (.inl (by omega)),f.same _ _ h.2.2.1 (.inl (by omega)),h.2.2.2.1,Nat.le_trans h.2.2.2.2 f.size⟩
   case sX=>exact fun c s V V' h f=>⟨h.1,h.2.1,f.same _ _ h.2.2.1 (.inl (by omega)),h.2.2.2.1.fr f (fun j o _ _ _ hj=>.inl (hDs _ hj)),Below.trans h.2.2.2.2.1 (f.below (n:=w.heap.size) (Below.size h.2.2.2.2.1) (fun j o hj=>.inl (by omega))),Nat.le_trans h.2.2.2.2.2 f.size⟩
   case done =>
    rintro D V hD ⟨hMV,_,_,hhit,_⟩ hK;go_wp2_with fail
    have hms:Marks w.heap.size (D :: Ds) V:=⟨List.nodup_cons.2 ⟨fun h=>by have:=hDs D h;omega,hMV.ms.1⟩,fun D' hD'=>by
      rcases List.mem_cons.1 hD' with rfl|hD'
      ·exact ⟨by omega,hK⟩
      ·exact hMV.ms.2 D' hD'⟩
    exact ⟨gk-1,by omega,k+1,D :: Ds,_,_,_,_,_,_,_,_,_,_,_,_,_,_,_,_,_,_,_,_,_,_,_,_,_,_,_,_,_,_,_,_,_,by omega,rfl,⟨hMV.sq,hMV.bb,hMV.rs,hms,hMV.gr⟩,unhide hno2 hhit⟩
   case stop =>
    rintro D c pre V hD hpre ⟨rfl,hhit,hrs,hms,hgr,_⟩ hK;have hv:Hid (attLB z x bw=true):=hide (unhide hyes (hit_pre z bw (a,b) pre _ false hpre hhit))
    have hms2:Marks w.heap.size (D :: Ds) V:=⟨List.nodup_cons.2 ⟨fun h=>by have:=hDs D h;omega,hms.1⟩,fun D' hD'=>by
      rcases List.mem_cons.1 hD' with rfl|hD'
      ·exact ⟨by omega,hK⟩
      ·exact hms.2 D' hD'⟩
    refine wpIn_wide.2 ?_;go_wp2_with fail;refine leave_cells (D :: Ds) V hms2 (fun w' f=>⟨.bool true,res_att _ _ (w.heap.size+2) _ rfl (cell_of_box_l (f.same _ _ hrs (.inr rfl))).1,by rw [unhide hv],Below.trans hgr (f.below (n:=w.heap.size) (Below.size hgr) (fun j o hj=>.inl hj))⟩)
   case rnd =>
    intro l1 pre y V hbl hxy hI hl;simp only [encI];gi_wp2;refine ⟨Fr.refl _ _,?_⟩;intro V2 f2 hI2 hl2;obtain ⟨hM2,s2,far2,hh2,sz2⟩:=hI2;have hy64:y<64:=wk_lt hx (pre_mem hxy);have hy0:(0:Int)<=(y:Int):=by omega
    have hy1:(y:Int)<64:=by omega
    have cy:=bd_of hA hM2.sq y hy64;have cb:=(cell_of_box_l hM2.bb).1;obtain ⟨cs0,cs1⟩:=two_cells s2;have hsn:=hit_snoc z bw (a,b) y false pre;rw [hh2] at hsn;have hman:=hide (fun W=>isMan_any (z y) bw W);have hback:=hide (fun W=>stepBack_any a b hsm W)
    have hsb:small (-a,-b):=by
     obtain ⟨h1,h2,h3,h4⟩:=hsm;simp only at h1 h2 h3 h4;exact ⟨by simp only;omega,by simp only;omega,by simp only;omega,by simp only;omega⟩
    have hgoes:=hide (fun W=>goes_any (z y) (-a) (-b) hsb W);have hfar:=hide (fun W=>goesFar_any (z y) W);have hM2':=hide hM2;have far2':=hide far2;have s2':=hide s2;obtain ⟨f,hf⟩:∃ f,Hid ((!pre.isEmpty)=f):=⟨_,hide rfl⟩;have hne:Hid ((!(pre++[y]).isEmpty)=true):=hide (by cases pre<;>rfl)
    rw [unhide hf] at far2 hsn;have cf:=(cell_of_box_l far2).1;obtain ⟨m1,h1⟩:∃ m,manB (z y) bw=m:=⟨_,rfl⟩;obtain ⟨g1,h2⟩:∃ m,goesB (z y) (-a,-b)=m:=⟨_,rfl⟩;obtain ⟨r1,h3⟩:∃ m,farB (z y)=m:=⟨_,rfl⟩;have hsn2:Hid (hitL z bw (a,b) false (pre++[y])=(m1&&g1&&(!f||r1))):=hide (by rw [hsn];simp only [hitB,h1,h2,h3,Bool.false_or]);rw [h1] at hman;rw [h2] at hgoes;rw [h3] at hfar
    have keep:Hid (∀ W',Gr V2 W'->W'.cell? ⟨Bs+1,0,none⟩=some (.bool f)/\W'.frozen? ⟨Bs+1,0,none⟩=false/\W'.cell? ⟨w.heap.size+2,0,none⟩=some (.bool false)/\W'.frozen? ⟨w.heap.size+2,0,none⟩=false):=hide (fun W' hg=>by
     have e1:=cell_of_box_l ((Below.block hg _ (Array.getElem?_eq_some_iff.1 far2).1).trans far2);have e2:=cell_of_box_l ((Below.block hg _ (Array.getElem?_eq_some_iff.1 (unhide hM2').rs).1).trans (unhide hM2').rs);exact ⟨e1.1,e1.2,e2.1,e2.2⟩)
    have fin0:Hid (∀ W',Gr V2 W'->hitL z bw (a,b) false (pre++[y])=false->Fr (Rnd1 w6.heap.size (fun _=>False) (fun k=>k=Bs+2+1\/k=Bs+2+2\/k=Bs+2\/k=w.heap.size)) V2 (W'.setCell ⟨Bs+1,0,none⟩ (.bool true))/\AtS bw A w Ds (W'.setCell ⟨Bs+1,0,none⟩ (.bool true))/\(W'.setCell ⟨Bs+1,0,none⟩ (.bool true)).heap[Bs]?=some (.cells #[.int .i64 a,.int .i64 b] 221)/\(W'.setCell ⟨Bs+1,0,none⟩ (.bool true)).heap[Bs+1]?=some (.cells #[.bool (!(pre++[y]).isEmpty)] 4)/\hitL z bw (a,b) false (pre++[y])=false/\w6.heap.size<=(W'.setCell ⟨Bs+1,0,none⟩ (.bool true)).heap.size):=hide (fun W' hg h=>by
     have e1:=(Below.block hg _ (Array.getElem?_eq_some_iff.1 far2).1).trans far2;have fs:Fr (fun k o=>k≠Bs+1) V2 (W'.setCell ⟨Bs+1,0,none⟩ (.bool true)):=(Fr.of_gr hg).setCell _ (fun o _ q=>q rfl);refine ⟨(Fr.of_gr hg).setCell _ ?_,(unhide hM2').fr fs (fun j o hj=>?_),fs.same _ _ (unhide s2') (by omega),?_,h,?_⟩
     ·rintro o-(q|q)
      ·simp only at q;omega
      ·have:=q.1;simp only at this;omega
     ·rcases hj with hj|hj
      ·omega
      ·intro e;subst e;have q1:=((unhide hM2').ms.2 _ hj).2;rw [far2] at q1;cases q1
     ·rw [unhide hne];exact set_box e1
     ·have:=fs.size;omega)
    have fin1:Hid (∀ W',Gr V2 W'->hitL z bw (a,b) false (pre++[y])=true->Fr (Rnd1 w6.heap.size (fun _=>False) (fun k=>k=Bs+2+1\/k=Bs+2+2\/k=Bs+2\/k=w.heap.size)) V2 (W'.setCell ⟨w.heap.size+2,0,none⟩ (.bool true))/\hitL z bw (a,b) false (pre++[y])=true/\(W'.setCell ⟨w.heap.size+2,0,none⟩ (.bool true)).heap[w.heap.size+2]?=some (.cells #[.bool true] 4)/\Marks w.heap.size Ds (W'.setCell ⟨w.heap.size+2,0,none⟩ (.bool true))/\Gr w (W'.setCell ⟨w.heap.size+2,0,none⟩ (.bool true))/\w6.heap.size<=(W'.setCell ⟨w.heap.size+2,0,none⟩ (.bool true)).heap.size):=hide (fun W' hg h=>by
     have e1:=(Below.block hg _ (Array.getElem?_eq_some_iff.1 (unhide hM2').rs).1).trans (unhide hM2').rs;have fs:Fr (fun k o=>k≠w.heap.size+2) V2 (W'.setCell ⟨w.heap.size+2,0,none⟩ (.bool true)):=(Fr.of_gr hg).setCell _ (fun o _ q=>q rfl);refine ⟨(Fr.of_gr hg).setCell _ ?_,h,set_box e1,(unhide hM2').ms.fr fs (fun j o _ _ hj0 hj e=>?_),Below.setCell (Gr.trans (unhide hM2').gr hg) (show w.heap.size<=w.heap.size+2 by omega) _,?_⟩
     ·rintro o-(q|q)
      ·simp only at q;omega
      ·have:=q.1;simp only at this;omega
     ·subst e;have q1:=((unhide hM2').ms.2 _ hj).2;rw [(unhide hM2').rs] at q1;cases q1
     ·have:=fs.size;omega)
    clear hM2 far2 s2 hh2 hsn;cases m1
    ·gi_wp2_with (first
      | (refine ⟨trivial,?_⟩;gi_at_call 148;refine ((callsIn_wide.2 (unhide hman _)).inRound l1).mono ?_;rintro e wc ⟨rfl,rfl⟩;obtain ⟨p1,p2,p3,p4⟩:=unhide keep _ (Gr.refl _))
      | (with_reducible refine And.intro (wide_fn _) ?_))
     all_goals first
      | exact unhide fin0 _ (Gr.refl _) (by rw [unhide hsn2];rfl)
      | (exfalso;rename_i xx bb h1 h2;exact absurd h1 (by simp [undef]))
      | (exfalso;rename_i xx bb h1;exact absurd h1 (by simp [undef]))
    ·cases g1
     ·gi_wp2_with (first
       | (refine ⟨trivial,?_⟩;gi_at_call 148;refine ((callsIn_wide.2 (unhide hman _)).inRound l1).mono ?_;rintro e wc ⟨rfl,rfl⟩;obtain ⟨p1,p2,p3,p4⟩:=unhide keep _ (Gr.refl _))
       | (refine ⟨trivial,?_⟩;gi_at_call 150;refine ((callsIn_wide.2 (unhide hback _)).inRound l1).mono ?_;rintro e wd ⟨rfl,hgd⟩)
       | (refine ⟨trivial,?_⟩;gi_at_call 149;refine ((callsIn_wide.2 (unhide hgoes _)).inRound l1).mono ?_;rintro e we ⟨rfl,hge⟩;obtain ⟨q1,q2,q3,q4⟩:=unhide keep _ (Gr.trans hgd hge))
       | (with_reducible refine And.intro (wide_fn _) ?_))
      all_goals first
       | exact unhide fin0 _ (Gr.trans hgd hge) (by rw [unhide hsn2];rfl)
       | (exfalso;rename_i xx bb h1 h2;exact absurd h1 (by simp [undef]))
       | (exfalso;rename_i xx bb h1;exact absurd h1 (by simp [undef]))
     ·cases f
      ·gi_wp2_with (first
        | (refine ⟨trivial,?_⟩;gi_at_call 148;refine ((callsIn_wide.2 (unhide hman _)).inRound l1).mono ?_;rintro e wc ⟨rfl,rfl⟩;obtain ⟨p1,p2,p3,p4⟩:=unhide keep _ (Gr.refl _))
        | (refine ⟨trivial,?_⟩;gi_at_call 150;refine ((callsIn_wide.2 (unhide hback _)).inRound l1).mono ?_;rintro e wd ⟨rfl,hgd⟩)
        | (refine ⟨trivial,?_⟩;gi_at_call 149;refine ((callsIn_wide.2 (unhide hgoes _)).inRound l1).mono ?_;rintro e we ⟨rfl,hge⟩;obtain ⟨q1,q2,q3,q4⟩:=unhide keep _ (Gr.trans hgd hge))
        | (with_reducible refine And.intro (wide_fn _) ?_))
       all_goals first
        | exact (fun t=>⟨t.1,rfl,t.2⟩) (unhide fin1 _ (Gr.trans hgd hge) (by rw [unhide hsn2];rfl))
        | (exfalso;rename_i xx bb h1 h2;exact absurd h1 (by simp [undef]))
        | (exfalso;rename_i xx bb h1;exact absurd h1 (by simp [undef]))
      ·cases r1
       ·gi_wp2_with (first
         | (refine ⟨trivial,?_⟩;gi_at_call 148;refine ((callsIn_wide.2 (unhide hman _)).inRound l1).mono ?_;rintro e wc ⟨rfl,rfl⟩;obtain ⟨p1,p2,p3,p4⟩:=unhide keep _ (Gr.refl _))
         | (refine ⟨trivial,?_⟩;gi_at_call 150;refine ((callsIn_wide.2 (unhide hback _)).inRound l1).mono ?_;rintro e wd ⟨rfl,hgd⟩)
         | (refine ⟨trivial,?_⟩;gi_at_call 149;refine ((callsIn_wide.2 (unhide hgoes _)).inRound l1).mono ?_;rintro e we ⟨rfl,hge⟩;obtain ⟨q1,q2,q3,q4⟩:=unhide keep _ (Gr.trans hgd hge))
         | (refine ⟨trivial,?_⟩;gi_at_call 151;refine ((callsIn_wide.2 (unhide hfar _)).inRound l1).mono ?_;rintro e wf ⟨rfl,rfl⟩)
         | (with_reducible refine And.intro (wide_fn _) ?_))
        all_goals first
         | exact unhide fin0 _ (Gr.trans hgd hge) (by rw [unhide hsn2];rfl)
         | (exfalso;rename_i xx bb h1 h2;exact absurd h1 (by simp [undef]))
         | (exfalso;rename_i xx bb h1;exact absurd h1 (by simp [undef]))
       ·gi_wp2_with (first
         | (refine ⟨trivial,?_⟩;gi_at_call 148;refine ((callsIn_wide.2 (unhide hman _)).inRound l1).mono ?_;rintro e wc ⟨rfl,rfl⟩;obtain ⟨p1,p2,p3,p4⟩:=unhide keep _ (Gr.refl _))
         | (refine ⟨trivial,?_⟩;gi_at_call 150;refine ((callsIn_wide.2 (unhide hback _)).inRound l1).mono ?_;rintro e wd ⟨rfl,hgd⟩)
         | (refine ⟨trivial,?_⟩;gi_at_call 149;refine ((callsIn_wide.2 (unhide hgoes _)).inRound l1).mono ?_;rintro e we ⟨rfl,hge⟩;obtain ⟨q1,q2,q3,q4⟩:=unhide keep _ (Gr.trans hgd hge))
         | (refine ⟨trivial,?_⟩;gi_at_call 151;refine ((callsIn_wide.2 (unhide hfar _)).inRound l1).mono ?_;rintro e wf ⟨rfl,rfl⟩)
         | (with_reducible refine And.intro (wide_fn _) ?_))
        all_goals first
         | exact (fun t=>⟨t.1,rfl,t.2⟩) (unhide fin1 _ (Gr.trans hgd hge) (by rw [unhide hsn2];rfl))
         | (exfalso;rename_i xx bb h1 h2;exact absurd h1 (by simp [undef]))
         | (exfalso;rename_i xx bb h1;exact absurd h1 (by simp [undef]))
  ·have hk16:k=16:=by omega
   subst hk16
   have hv:Hid (attLB z x bw=false):=hide (by
    unfold attLB;rw [List.any_eq_false];intro j hj;rw [unhide hno' j (List.mem_range.1 hj)];decide)
   have hrs:=(unhide hM').rs;obtain ⟨c1,c2⟩:=cell_of_box_l hrs;refine wpIn_wide.2 ?_;go_wp2_with fail;have hrs2:(wr.setCell ⟨w.heap.size+2,0,none⟩ (.bool false)).heap[w.heap.size+2]?=some (.cells #[.bool false] 4):=set_box hrs;have fs:Fr (fun k o=>k≠w.heap.size+2) wr (wr.setCell ⟨w.heap.size+2,0,none⟩ (.bool false)):=(Fr.refl _ _).setCell _ (fun o _ q=>q rfl);have hgr:Gr w (wr.setCell ⟨w.heap.size+2,0,none⟩ (.bool false)):=Below.setCell (unhide hM').gr (show w.heap.size<=w.heap.size+2 by omega) _
   have hms:Marks w.heap.size Ds (wr.setCell ⟨w.heap.size+2,0,none⟩ (.bool false)):=(unhide hM').ms.fr fs (fun j o _ _ hj0 hj e=>by
    subst e;have q1:=((unhide hM').ms.2 _ hj).2;rw [hrs] at q1;cases q1)
   refine leave_cells Ds _ hms (fun w' f=>⟨.bool false,res_att _ _ (w.heap.size+2) _ rfl (cell_of_box_l (f.same _ _ hrs2 (.inr rfl))).1,by rw [unhide hv],Below.trans hgr (f.below (n:=w.heap.size) (Below.size hgr) (fun j o hj=>.inl hj))⟩)
end Go.Proofs.YtnfakamfmkhlbabGreatDoor.C
