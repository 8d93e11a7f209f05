import Derived.Test.YtnfakamfmkhlbaaGreatDoorZf16
import Derived.Test.YtnfakamfmkhlbaaGreatDoorZf3
import Derived.Lib.IndexLaws
import Derived.Test.YtnfakamfmkhlbaaGreatDoorZf9
import Derived.Test.YtnfakamfmkhlbaaGreatDoorZf5
import Derived.LoopTactic
import Derived.Deep.LoopGhost
import Derived.Below
import Derived.Laws.Rows
import Derived.Deep.RegionHeld3
import Derived.Test.YtnfakamfmkhlbaaGreatDoorZf6
import Derived.Deep.QuietTactic
import Derived.BigQuiet
import Derived.Test.YtnfakamfmkhlbaaGreatDoorZf7
import Derived.Test.YtnfakamfmkhlbaaGreatDoorZf15
import Derived.Maps.AppendAt
import Derived.RangeFuncBox
import Derived.Shelf.SlSortCmp.NoneTotal
import Derived.Shelf.Lay
set_option maxRecDepth 100000
set_option maxHeartbeats 4000000
set_option linter.unusedSimpArgs false
namespace Go.Proofs.YtnfakamfmkhlbaaGreatDoor.C
open Go.ChangeShapes Go.WideShapes Go.ChangeAt Go.RowKit
open Go.Proofs.YtnfakamfmkhlbaaGreatDoor.P
theorem castOk_congr (z:Nat->UInt8) {f f':Nat->Bool} (h:∀ i,i<4->f i=f' i):castOk z f=castOk z f':=by
 have e:∀ f:Nat->Bool,castOk z f=(castN z f 0&&(castN z f 1&&(castN z f 2&&castN z f 3))):=fun f=>by
  show ([0,1,2,3]:List Nat).all (castN z f)=_;simp [List.all_cons]
 rw [e,e];simp only [castN,castAt,h 0 (by omega),h 1 (by omega),h 2 (by omega),h 3 (by omega)]
theorem qzi (z:Nat->UInt8) (wh:Bool) {f f':Nat->Bool} (b h g:Int) (k:∀ i,i<4->f i=f' i):canS z wh f b h g=canS z wh f' b h g:=by
 unfold canS canM;rw [castOk_congr z k]
theorem row_eq {z:Nat->UInt8} {wh:Bool} {f f':Nat->Bool} {b h g:Int} {X Y:Array Value} (r:Row z wh f b h g X) (r2:Row z wh f' b h g Y) (k:∀ i,i<4->f i=f' i):X=Y:=by
 apply Array.ext_getElem?;intro i;by_cases h0:i<64
 ·rw [r.sq i h0,r2.sq i h0]
 ·by_cases h1:i<72
  ·have:i=64\/i=65+0\/i=65+1\/i=65+2\/i=65+3\/i=69\/i=70\/i=71:=by omega
   rcases this with rfl|rfl|rfl|rfl|rfl|rfl|rfl|rfl
   ·rw [r.wh,r2.wh]
   ·rw [r.c 0 (by omega),r2.c 0 (by omega),k 0 (by omega)]
   ·rw [r.c 1 (by omega),r2.c 1 (by omega),k 1 (by omega)]
   ·rw [r.c 2 (by omega),r2.c 2 (by omega),k 2 (by omega)]
   ·rw [r.c 3 (by omega),r2.c 3 (by omega),k 3 (by omega)]
   ·rw [r.b,r2.b]
   ·rw [r.h,r2.h]
   ·rw [r.g,r2.g]
  ·rw [Array.getElem?_eq_none (by rw [r.size];omega),Array.getElem?_eq_none (by rw [r2.size];omega)]
theorem qzw {B:List UInt8} (hB:B.length=64) {wh:Bool} {f:Nat->Bool} {b h g:Int} {PA:Array Value} (r:Row (zB B) wh f b h g PA) (k:canS (zB B) wh f b h g=true) {e:Ending} (he:ParseEnd ⟨(writeS (zB B) wh f b h g).toArray⟩ e):e=.returned (.tuple #[.agg PA,.int .i64 0]):=by
 obtain ⟨k0,k1,k2,k3⟩:=qjn k
 have hall:B.all okL=true:=by
  rw [List.all_eq_true];intro c hc;obtain ⟨i,hi,rfl⟩:=List.getElem_of_mem hc;have:=k0 i (by omega);unfold zB at this
  rwa [List.getD_eq_getElem?_getD,List.getElem?_eq_getElem hi] at this
 obtain ⟨hn,rfl⟩:=Int.eq_ofNat_of_zero_le k2.1;obtain ⟨gn,rfl⟩:=Int.eq_ofNat_of_zero_le (show 0<=g by omega);obtain ⟨p,p1,p2,p3,c0,c1,c2,c3,p4,p5,p6⟩:=write_forth B hB hall wh f b k1 hn gn (by omega) (by omega) ⟨(writeS (zB B) wh f b hn gn).toArray⟩ rfl
 have hc:∀ i,i<4->p.castle i=f i:=fun i hi=>by
  have:i=0\/i=1\/i=2\/i=3:=by omega
  rcases this with rfl|rfl|rfl|rfl
  ·exact c0
  ·exact c1
  ·exact c2
  ·exact c3
 have hcan:posCan p=true:=by
  unfold posCan;rw [qzu p2,p3,p4,p5,p6,qzi _ _ _ _ _ hc];exact k
 have hrow:Row (zB B) wh p.castle b hn gn (posV p):=by
  have:=jh p1
  rwa [qzu p2,p3,p4,p5,p6] at this
 rcases he with ⟨q,q1,_,rfl⟩|⟨q,q1,q2,_⟩|⟨q1,_⟩
 ·have:q=p:=Option.some.inj (q1.symm.trans p1);rw [this,row_eq hrow r hc]
 ·have:q=p:=Option.some.inj (q1.symm.trans p1);rw [this,hcan] at q2;cases q2
 ·rw [p1] at q1;cases q1
theorem xi {z:Nat->UInt8} {wh:Bool} {f:Nat->Bool} {b h g:Int} {PA:Array Value} (r:Row z wh f b h g PA):PA.all (·.oneCell')=true:=by
 obtain ⟨A,a1,a2,rfl⟩:=rowp_is r;refine (qjb ⟨a1,?_⟩ wh (f 0) (f 1) (f 2) (f 3) b h g).2;rw [Array.all_eq_true];intro i hi;have:=a2 i (by omega);rw [Array.getElem?_eq_getElem hi] at this;simp only [Option.some.injEq] at this;rw [this];rfl
theorem qzn {z:Nat->UInt8} {wh:Bool} {f:Nat->Bool} {b h g:Int} (k:canS z wh f b h g=true):(⟨(writeS z wh f b h g).toArray⟩:ByteArray).size<4294967281:=by
 obtain ⟨_,_,k2,k3⟩:=qjn k;have h1:=qxw z;have h2:=qjy f;have h3:=wbehS_len b;have h4:=qxp h k2.1 k2.2;have h5:=qxp g (by omega) k3.2;show (writeS z wh f b h g).toArray.size<_;rw [List.size_toArray];unfold writeS;rw [Lib.join_length];simp only [Lib.lens,List.length_cons,List.length_nil,List.map_cons,List.map_nil,List.sum_cons,List.sum_nil];omega
def firstB:ByteArray:=⟨#[114,110,98,113,107,98,110,114,47,112,112,112,112,112,112,112,112,47,56,47,56,47,56,47,56,47,80,80,80,80,80,80,80,80,47,82,78,66,81,75,66,78,82,32,119,32,75,81,107,113,32,45,32,48,32,49]⟩
end Go.Proofs.YtnfakamfmkhlbaaGreatDoor.C
namespace Go.Proofs.YtnfakamfmkhlbaaGreatDoor.C
open Go.ChangeShapes Go.WideShapes Go.ChangeAt Go.RowKit
theorem ib_at:∀ {l:List UInt8} {c:UInt8} {k:Nat},(∀ j,j<k->l[j]?≠some c)->l[k]?=some c->Lib.indexByte l c=(k:Int)
 | [],_,_,_,h=>by simp at h
 | b :: l,c,0,_,h=>by
   have:b=c:=by simpa using h
   unfold Lib.indexByte;simp [this]
 | b :: l,c,k+1,hn,h=>by
   have hb:(b==c)=false:=by
    have:=hn 0 (by omega);simpa using this
   have ih:=ib_at (l:=l) (c:=c) (k:=k) (fun j hj=>by have:=hn (j+1) (by omega);simpa using this) (by simpa using h);unfold Lib.indexByte;rw [hb,ih];have:((k:Int)==-1)=false:=by simp
   simp [this]
theorem ib_no:∀ {l:List UInt8} {c:UInt8},(∀ j,j<l.length->l[j]?≠some c)->Lib.indexByte l c=-1
 | [],_,_=>rfl
 | b :: l,c,hn=>by
   have hb:(b==c)=false:=by
    have:=hn 0 (by simp);simpa using this
   have ih:=ib_no (l:=l) (c:=c) (fun j hj=>by have:=hn (j+1) (by simp;omega);simpa using this);unfold Lib.indexByte;rw [hb,ih];rfl
end Go.Proofs.YtnfakamfmkhlbaaGreatDoor.C
namespace Go.Proofs.YtnfakamfmkhlbaaGreatDoor.C
open Go.ChangeShapes Go.WideShapes Go.ChangeAt Go.RowKit
open Go.Proofs.YtnfakamfmkhlbaaGreatDoor.P
def manL (k:Nat) (b:Bool):UInt8:=lettersL.getD (if b then k else k+6) 0
def homeK (i:Nat):Int:=if 2<=i then 60 else 4
def homeT (i:Nat):Int:=(if 2<=i then 56 else 0)+(if i%2=0 then 6 else 2)
def homeR (i:Nat):Int:=(if 2<=i then 56 else 0)+(if i%2=0 then 7 else 0)
end Go.Proofs.YtnfakamfmkhlbaaGreatDoor.C
namespace Go.Proofs.YtnfakamfmkhlbaaGreatDoor.C
open Go.ChangeShapes Go.WideShapes Go.ChangeAt Go.RowKit
open Go.Proofs.YtnfakamfmkhlbaaGreatDoor.P
attribute [local go_sem] qb qd
theorem find_at {p:Nat->Bool} {k:Nat} (h:∀ j,j<k->p j=false) (hk:p k=true) (h64:k<64):(List.range 64).find? p=some k:=by
 rw [List.find?_eq_some_iff_getElem];refine ⟨hk,k,by simpa using h64,by simp,fun j hj=>by simp [h j hj]⟩
theorem find_no {p:Nat->Bool} (h:∀ j,j<64->p j=false):(List.range 64).find? p=none:=by
 rw [List.find?_eq_none];intro j hj;rw [h j (List.mem_range.1 hj)];decide
theorem kingR_at {z:Nat->UInt8} {b:Bool} {k:Nat} (h:∀ j,j<k->(z j==kingL b)=false) (hk:(z k==kingL b)=true) (h64:k<64):kingR z b=(k:Int):=by
 unfold kingR;rw [find_at h hk h64]
theorem kingR_no {z:Nat->UInt8} {b:Bool} (h:∀ j,j<64->(z j==kingL b)=false):kingR z b=-1:=by
 unfold kingR;rw [find_no h]
def W3 (w:World) (PA:Array Value) (k0 k1 m0 m1:Nat):World:=((w.alloc (.cells PA 25)).alloc (.cells #[.int .i64 k0,.int .i64 k1] 160)).alloc (.cells #[.int .i64 m0,.int .i64 m1] 160)
theorem RowAt.at' {b:Nat} {A:Array Value} {w:World} (h:RowAt b A w) {i:Nat} {v:Value} (hv:A[i]?=some v):w.cell? ⟨b,i,none⟩=some v:=by
 have:=h.2 i v (by rw [Array.getElem?_toList];exact hv)
 rwa [Nat.zero_add] at this
def manI (b:Bool) (j:Int):Int:=if j=5 then (if b then 75 else 107) else if j=3 then (if b then 82 else 114) else (if b then 80 else 112)
theorem manI_t5:manI true 5=75:=rfl
theorem manI_t3:manI true 3=82:=rfl
theorem manI_f5:manI false 5=107:=rfl
theorem manI_f3:manI false 3=114:=rfl
attribute [local go_sem] manI_t5 manI_t3 manI_f5 manI_f3
end Go.Proofs.YtnfakamfmkhlbaaGreatDoor.C
namespace Go.Proofs.YtnfakamfmkhlbaaGreatDoor.C
open Go.ChangeShapes Go.WideShapes Go.ChangeAt Go.RowKit
theorem all256 {p:UInt8->Prop} (h:∀ n:Fin 256,p (UInt8.ofNat n.val)) (c:UInt8):p c:=by
 have:=h ⟨c.toNat,c.toNat_lt⟩;simpa using this
def sqI (s:ByteArray):Int:=match sqS s with|some n=>(n:Int)|none=>-1
end Go.Proofs.YtnfakamfmkhlbaaGreatDoor.C
namespace Go.Proofs.YtnfakamfmkhlbaaGreatDoor.C
open Go.ChangeShapes Go.WideShapes Go.ChangeAt Go.RowKit
attribute [local go_sem] qb qd
theorem infoS:(Tryz.prog.info? 9).map (fun i=>(i.zero,i.size,i.bytes))=some (some (.string ⟨#[]⟩),1,16):=by kernel_rfl
def Strs (base:Nat) (v:Value) (xs:List ByteArray) (w:World):Prop:=w.ownsRow base 9 1 v xs.length (xs.map Value.string)
theorem strs_block {base:Nat} {v:Value} {l:List ByteArray} {w:World} (h:Strs base v l w):∀ k,v.ownBlock=some k->base<=k:=by
 intro k hk;rcases h.2 with ⟨rfl,_⟩|⟨g,cap,cur,rfl,hg,_⟩
 ·simp [Value.ownBlock] at hk
 ·simp [Value.ownBlock] at hk;omega
end Go.Proofs.YtnfakamfmkhlbaaGreatDoor.C
namespace Go.Proofs.YtnfakamfmkhlbaaGreatDoor.C
end Go.Proofs.YtnfakamfmkhlbaaGreatDoor.C
namespace Go.Proofs.YtnfakamfmkhlbaaGreatDoor.C
open Go.ChangeShapes Go.WideShapes Go.ChangeAt Go.RowKit
open Go.Proofs.YtnfakamfmkhlbaaGreatDoor.P
section
variable {z:Nat->UInt8} {wh:Bool} {f:Nat->Bool} {b h g:Int} {PA:Array Value}
end
end Go.Proofs.YtnfakamfmkhlbaaGreatDoor.C
namespace Go.Proofs.YtnfakamfmkhlbaaGreatDoor.C
open Go.ChangeShapes Go.WideShapes Go.ChangeAt Go.RowKit
open Go.Proofs.YtnfakamfmkhlbaaGreatDoor.P
attribute [local go_sem] qb qd
structure Wd (gw:Nat) (xs:List ByteArray) (cur:World):Prop where
 lt:gw<cur.heap.size
 at':∀ (j:Nat) (h:j<xs.length),cur.cell? ⟨gw,j,none⟩=some (.string xs[j])
theorem Wd.next {gw:Nat} {xs:List ByteArray} {cur cur':World} (h:Wd gw xs cur) (g:Gr cur cur'):Wd gw xs cur' :=
 ⟨Nat.lt_of_lt_of_le h.lt (Below.size g),fun j hj=>(Below.cell g (p:=⟨gw,j,none⟩) h.lt).trans (h.at' j hj)⟩
theorem Wd.far {gw bp i:Nat} {xs:List ByteArray} {cur:World} {v:Value} (h:Wd gw xs cur) (hne:gw≠bp):Wd gw xs (cur.setCell ⟨bp,i,none⟩ v):=by
 refine ⟨by rw [World.size_setCell];exact h.lt,fun j hj=>?_⟩;rw [World.cell?_of_block (w:=cur) (Below.heap_setCell cur ⟨bp,i,none⟩ v gw hne)];exact h.at' j hj
end Go.Proofs.YtnfakamfmkhlbaaGreatDoor.C
namespace Go.Proofs.YtnfakamfmkhlbaaGreatDoor.C
open Go.ChangeShapes Go.WideShapes Go.ChangeAt Go.RowKit
open Go.Proofs.YtnfakamfmkhlbaaGreatDoor.P
theorem Row.congr {z z':Nat->UInt8} {wh:Bool} {f f':Nat->Bool} {b h g:Int} {PA:Array Value} (r:Row z wh f b h g PA) (hz:∀ i,i<64->z i=z' i) (hf:∀ i,i<4->f i=f' i):Row z' wh f' b h g PA :=
 ⟨r.size,fun i hi=>by rw [<-hz i hi];exact r.sq i hi,r.wh,fun i hi=>by rw [<-hf i hi];exact r.c i hi,r.b,r.h,r.g⟩
theorem qxu {ops:Array Oper} {op:Oper} {a:Act} {PA:Array Value} (hz:PA.size=72) {S:World->Prop} (hw:Region.wanted op (yielded ops a.tmps)=true) (x:Operand) (ho:op.op=.load 25 x) (b:Nat) (hx:a.eval x=.pointer (some ⟨b,0,none⟩)) (hS:∀ w,S w->RowAt b PA w):YieldsIf Tryz.prog ops S op (.agg PA) a:=by
 have:=yieldsIf_load_mid (P:=Tryz.prog) hw 25 x ho b 0 hx PA.toList _ (fun w h=>(hS w h).2) Tryz.underlying25 rfl (by rw [infoP];simp [hz])
 rwa [Array.toArray_toList] at this
end Go.Proofs.YtnfakamfmkhlbaaGreatDoor.C
namespace Go.Proofs.YtnfakamfmkhlbaaGreatDoor.C
open Go.ChangeShapes Go.WideShapes Go.ChangeAt Go.RowKit
attribute [local go_sem] qb qd
def mvS (f t:Nat) (u:UInt8):List UInt8:=nameS f++nameS t++(if u=0 then [] else [u])
def str (l:List UInt8):ByteArray:=⟨l.toArray⟩
theorem str_app (a b:List UInt8):str a++str b=str (a++b):=by
 unfold str;apply ByteArray.ext;simp
theorem mv_in {w w':World} {f t u:Int} {ty:TypeId} (g:Gr (w.alloc (.cells #[.int .i64 f,.int .i64 t,.int .u8 u] ty)) w'):Gr (w.alloc (.cells #[.int .i64 f,.int .i64 t,.int .u8 u] ty)) w'/\w'.cell? ⟨w.heap.size,0,none⟩=some (.int .i64 f)/\w'.cell? ⟨w.heap.size,1,none⟩=some (.int .i64 t)/\w'.cell? ⟨w.heap.size,2,none⟩=some (.int .u8 u):=by
 have hh:w'.heap[w.heap.size]?=some (.cells #[.int .i64 f,.int .i64 t,.int .u8 u] ty (0,0)):=(Below.block g _ (by rw [World.size_alloc];exact Nat.lt_succ_self _)).trans (World.alloc_heap_new w _);refine ⟨g,?_,?_,?_⟩<;>(simp only [World.cell?];rw [hh];rfl)
structure Gd (w w':World):Prop where
 gr:Gr w w'
 dr:w.drawn<=w'.drawn
theorem heldD {w1 w2:World} {q:Prop} (h:Gd w1 w2/\q):Gd w1 w2:=h.1
theorem Gd.refl (w:World):Gd w w:=⟨Gr.refl w,Nat.le_refl _⟩
theorem Gd.trans {a b c:World} (h:Gd a b) (k:Gd b c):Gd a c:=⟨Gr.trans h.1 k.1,Nat.le_trans h.2 k.2⟩
theorem Gd.alloc {a b:World} (h:Gd a b) (c:Array Value) (t:TypeId):Gd a (b.alloc (.cells c t)):=⟨h.1.alloc c t,h.2⟩
theorem Gd.drew {a b:World} (h:Gd a b):Gd a b.drew:=⟨h.1.drew,Nat.le_trans h.2 (Nat.le_succ _)⟩
theorem mv_inD {w w':World} {f t u:Int} {ty:TypeId} (g:Gd (w.alloc (.cells #[.int .i64 f,.int .i64 t,.int .u8 u] ty)) w'):Gd (w.alloc (.cells #[.int .i64 f,.int .i64 t,.int .u8 u] ty)) w'/\w'.cell? ⟨w.heap.size,0,none⟩=some (.int .i64 f)/\w'.cell? ⟨w.heap.size,1,none⟩=some (.int .i64 t)/\w'.cell? ⟨w.heap.size,2,none⟩=some (.int .u8 u) :=
 ⟨g,(mv_in g.1).2⟩
theorem nameD_any (n:Nat) (h:n<64) (w:World):Calls Tryz.prog 151 #[.int .i64 n] w fun e w'=>e=.returned (.string ⟨(nameS n).toArray⟩)/\Gd w w':=by
 have e1:((UInt8.ofNat (97+n%8)).toNat:Int)=97+(n:Int)%8:=by simp;omega
 have e2:((UInt8.ofNat (49+n/8)).toNat:Int)=49+(n:Int)/8:=by simp;omega
 have hcv:=zy (w.alloc (.cells #[.int .u8 (97+(n:Int)%8),.int .u8 (49+(n:Int)/8)] 5)) ⟨w.heap.size,0,none⟩ 2 (nameS n) (by
  intro i hi;rw [Addr.add_lit,Nat.zero_add,World.cell?_alloc_at _ _ _ _ rfl];have:i=0\/i=1:=by simp [nameS] at hi;omega
  rcases this with rfl|rfl
  ·show some (Value.int .u8 (97+(n:Int)%8))=some (.int .u8 ((UInt8.ofNat (97+n%8)).toNat:Int));rw [e1]
  ·show some (Value.int .u8 (49+(n:Int)/8))=some (.int .u8 ((UInt8.ofNat (49+n/8)).toNat:Int));rw [e2])
 have hcv':(convert 101 9 (.slice (some ⟨w.heap.size,0,none⟩) 2 2)).run Tryz.prog (w.alloc (.cells #[.int .u8 (97+(n:Int)%8),.int .u8 (49+(n:Int)/8)] 5))=.ok (.string ⟨(nameS n).toArray⟩) (w.alloc (.cells #[.int .u8 (97+(n:Int)%8),.int .u8 (49+(n:Int)/8)] 5)):=hcv;clear hcv e1 e2;go_enter Tryz.func151,Tryz.ntmps151;go_wp2;go_ret;exact ⟨rfl,(Gd.refl _).alloc _ _⟩
theorem moveD_any (f t:Nat) (hf:f<64) (ht:t<64) (u:UInt8) (w:World):Calls Tryz.prog 100 #[.agg #[.int .i64 (f:Int),.int .i64 (t:Int),.int .u8 (u.toNat:Int)]] w fun e w'=>e=.returned (.string (str (mvS f t u)))/\Gd w w':=by
 obtain ⟨nm,hnm⟩:∃ nm:Nat->ByteArray,Hid (∀ n,nm n=str (nameS n)):=⟨fun n=>str (nameS n),hide (fun _=>rfl)⟩;have hN:Hid (∀ n:Nat,n<64->∀ W,Calls Tryz.prog 151 #[.int .i64 (n:Int)] W fun e w'=>e=.returned (.string (nm n))/\Gd W w'):=hide (fun n h W=>by rw [qa hnm];exact nameD_any n h W);go_enter Tryz.func100,Tryz.ntmps100;have hsum:Hid (str (mvS f t u)=str (nameS f++nameS t)++str (if u=0 then [] else [u])):=hide (by rw [str_app];rfl);have hs2:(str (nameS f++nameS t)).size=4:=rfl;obtain ⟨S2,hS2⟩:∃ x,Hid (x=str (nameS f++nameS t)):=⟨_,hide rfl⟩
 have f1:∀ W:World,(Op.stringOp .add (nm f) (nm t)).run Tryz.prog W=.ok (.string S2) W:=fun W=>by
  rw [qa hS2,<-str_app,<-qa hnm,<-qa hnm];exact run_string_add_sum W _ _ (by rw [qa hnm,qa hnm];show 2+2<=_;decide)
 rw [<-qa hS2] at hs2 hsum;clear hS2 hnm;go_wp2_with fail;have hin:Hid (∀ w',Gd (w.alloc (.cells #[.int .i64 (f:Int),.int .i64 (t:Int),.int .u8 (u.toNat:Int)] 94)) w'->_):=hide (fun w' g=>mv_inD g);have hg0:Gd w (w.alloc (.cells #[.int .i64 (f:Int),.int .i64 (t:Int),.int .u8 (u.toNat:Int)] 94)):=(Gd.refl w).alloc _ _;have hg0':=hide hg0;clear hg0;generalize w.alloc (.cells #[.int .i64 (f:Int),.int .i64 (t:Int),.int .u8 (u.toNat:Int)] 94)=w1 at hin hg0' ⊢;go_region_held3 (fun w'=>Gd w1 w'/\w'.cell? ⟨w.heap.size,0,none⟩=some (.int .i64 (f:Int))/\w'.cell? ⟨w.heap.size,1,none⟩=some (.int .i64 (t:Int))/\w'.cell? ⟨w.heap.size,2,none⟩=some (.int .u8 (u.toNat:Int))) (first|exact qa hin _ (Gd.refl _).drew|exact qa hin _ (by assumption)) (first|(go_at_call 151;refine (qa hN _ (by omega) _).mono ?_;rintro e w' ⟨rfl,hg⟩;have hg2:=Gd.trans (heldD (by assumption)) hg));rename_i hH;obtain ⟨hgr,c0,c1,c2⟩:=hH;have hgw:Hid (Gd w w'):=hide (Gd.trans (qa hg0') hgr);clear hin hg0' hgr hg hg2 f1 hN;by_cases hu:u=0
 ·subst hu;have he:Hid (str (mvS f t 0)=S2):=hide (by rw [qa hsum,if_pos rfl];apply ByteArray.ext;simp [str]);clear hsum;go_wp2_with fail;go_ret;exact ⟨by rw [qa he];rfl,qa hgw⟩
 ·have hn:((u.toNat:Int) != 0)=true:=bne_iff_ne.2 (fun e=>hu (UInt8.toNat_inj.1 (by simpa using e)));have he:Hid (str (mvS f t u)=S2++(⟨#[u]⟩:ByteArray)):=hide (by rw [qa hsum,if_neg hu];rfl);have f2:∀ W:World,(Op.stringOp .add S2 (⟨#[u]⟩:ByteArray)).run Tryz.prog W=.ok (.string (S2++(⟨#[u]⟩:ByteArray))) W:=fun W=>run_string_add_sum W S2 _ (by show S2.size+1<=_;rw [hs2];decide)
  have hcv:=zy (w'.alloc (.cells #[.int .u8 (u.toNat:Int)] 5)) ⟨w'.heap.size,0,none⟩ 1 [u] (by
   intro i hi;rw [Addr.add_lit,Nat.zero_add,World.cell?_alloc_at _ _ _ _ rfl];have:i=0:=by simp at hi;omega
   subst this;rfl)
  have hcv':(convert 101 9 (.slice (some ⟨w'.heap.size,0,none⟩) 1 1)).run Tryz.prog (w'.alloc (.cells #[.int .u8 (u.toNat:Int)] 5))=.ok (.string ⟨#[u]⟩) (w'.alloc (.cells #[.int .u8 (u.toNat:Int)] 5)):=hcv;clear hsum hu hcv;go_wp2_with fail;go_ret;exact ⟨by rw [qa he];rfl,Gd.alloc (qa hgw) _ _⟩
theorem moveP_any (f t:Nat) (hf:f<64) (ht:t<64) (u:UInt8) (w:World):Calls Tryz.prog 100 #[.agg #[.int .i64 (f:Int),.int .i64 (t:Int),.int .u8 (u.toNat:Int)]] w fun e w'=>e=.returned (.string (str (mvS f t u)))/\Gr w w' :=
 (moveD_any f t hf ht u w).mono fun _ _ h=>⟨h.1,h.2.1⟩
end Go.Proofs.YtnfakamfmkhlbaaGreatDoor.C
namespace Go.Proofs.YtnfakamfmkhlbaaGreatDoor.C
open Go.ChangeShapes Go.WideShapes Go.ChangeAt Go.RowKit Go.Shelf
open Go.Proofs.YtnfakamfmkhlbaaGreatDoor.P
attribute [local go_sem] qb qd Oper.semAt_some
def TM (o:Obj):Prop:=∃ c fr,o=.cells c 94 fr
theorem TM.cells {o:Obj} (h:TM o):o.isCells=true:=by obtain ⟨c,fr,rfl⟩:=h;rfl
def rowM (xs:List Mv):List Value:=xs.flatMap fun x=>(mvC x).toList
theorem rowM_snoc (xs:List Mv) (x:Mv):rowM (xs++[x])=rowM xs++(mvC x).toList:=by simp [rowM]
theorem rowM_len (xs:List Mv):(rowM xs).length=xs.length*3:=by
 induction xs with
 | nil=>rfl
 | cons x r ih=>rw [rowM,List.flatMap_cons,List.length_append,List.length_cons];have:=ih;rw [rowM] at this;rw [this];simp [mvC];omega
theorem owns_fr {Q:Nat->Obj->Prop} {W W':World} {base n:Nat} {v:Value} {xs:List Value} (h:W.ownsRow base 94 3 v n xs) (f:Fr Q W W') (hq:∀ k o,TM o->Q k o):W'.ownsRow base 94 3 v n xs:=by
 refine ⟨h.1,?_⟩;rcases h.2 with h2|⟨g,cap,cur,hv,hb,hg,rest⟩
 ·exact .inl h2
 ·exact .inr ⟨g,cap,cur,hv,hb,f.same _ _ hg (hq _ _ ⟨_,_,rfl⟩),rest⟩
theorem infoMv:(Tryz.prog.info? 94).map (fun i=>(i.zero,i.size,i.bytes))=some (some (.agg #[.int .i64 0,.int .i64 0,.int .u8 0]),3,24):=by kernel_rfl
theorem qve {g:Nat} {lb:Array Value} {C:Nat->Prop} {xs:List Mv} {w:World} (hit:It Tryz.prog g lb encM TM C xs w) (heg:∀ args w,(callFunc g args).run Tryz.prog w=.ok (.enter g args) w) (hCb:∀ k,C k->k<w.heap.size) (hlen:xs.length<=1000000) :
  Calls Tryz.prog 318 #[.slice none 0 0,.func (.func g) #[] lb] w fun e w'=>∃ v,e=.returned v/\w'.ownsRow w.heap.size 94 3 v xs.length (rowM xs)/\Gr w w':=by
 obtain ⟨i0,hi0,hz0,hz1,hz2⟩:=info_parts infoMv;refine (callsIn_wide (n:=9)).1 ?_;refine callsIn_of_wp_marks Tryz.func318 rfl trivial ?_ rfl;simp only [Tryz.ntmps318,List.size_toArray,List.length_cons,List.length_nil,Nat.reduceAdd,Nat.reduceSub,Array.replicate_succ,Array.replicate_zero,List.push_toArray,List.append_toArray,List.nil_append,List.cons_append];refine wpIn_wide.2 ?_;go_wp2_with fail;have h1:=World.alloc_heap_new w (.cells #[.slice none 0 0] 173);have hg1:Gr w (w.alloc (.cells #[.slice none 0 0] 173)):=(Gr.refl w).alloc _ _;have hs1:(w.alloc (.cells #[.slice none 0 0] 173)).heap.size=w.heap.size+1:=World.size_alloc _ _;have hr1:(w.alloc (.cells #[.slice none 0 0] 173)).ownsRow w.heap.size 94 3 (.slice none 0 0) 0 (rowM []):=⟨rfl,.inl ⟨rfl,rfl⟩⟩;generalize (w.alloc (.cells #[.slice none 0 0] 173))=w1 at h1 hg1 hs1 hr1 ⊢
 refine wpIn_wide.1 (qo (n:=9) (gf:=g) (lb:=lb) rfl heg hit (fun _ h=>h.cells) (fun k hk=>by have:=hCb k hk;omega) (Fr.of_gr hg1) (fun _=>rfl)
  (fun pre V=>(∃ v,V.heap[w.heap.size]?=some (.cells #[v] 173)/\V.ownsRow w.heap.size 94 3 v pre.length (rowM pre))/\Gr w V/\w1.heap.size<=V.heap.size)
  (fun _ _ _=>False)
  ?sI (fun _ _ _ _ h _=>h) ⟨⟨_,h1,hr1⟩,hg1,Nat.le_refl _⟩ ?rnd ?done (fun _ _ _ _ _ _ h _=>h.elim))
 case sI =>
  rintro s A A' ⟨⟨v,a1,a2⟩,a3,a4⟩ f;exact ⟨⟨v,f.same _ _ a1 (.inl (by omega)),owns_fr a2 f (fun k o h=>.inr h)⟩,Below.trans a3 (f.below (n:=w.heap.size) (Below.size a3) (fun k o hk=>.inl (by omega))),Nat.le_trans a4 f.size⟩
 case done =>
  rintro D V hD ⟨⟨v,a1,a2⟩,a3,a4⟩ hK;have c1:=(qc a1).1;go_wp2_with fail;refine ⟨by simp,.inl ⟨_,_,rfl,run_takeDeferred hK,?_⟩⟩;exact ⟨_,results_tmp rfl _ _ _,v,rfl,ownsRow_putObj a2 _ hK rfl,Below.trans a3 (belowK_b (w:=w1) (n₀:=w.heap.size) (by omega) _ D _ _ hD hK rfl rfl)⟩
 case rnd =>
  rintro l1 pre ⟨fr,tt,u⟩ V hbl hx ⟨⟨v,a1,a2⟩,a3,a4⟩ hl;have hl':l1<V.heap.size:=hl.elim fun r hr=>(Array.getElem?_eq_some_iff.1 hr).1
  simp only [encM,mvV];gi_wp2;refine ⟨(Fr.refl _ _).alloc _,?_⟩;intro V2 f2 hI2 hl2;clear a1 a2 a3 a4;obtain ⟨⟨v,a1,a2⟩,a3,a4⟩:=hI2;have kx:V2.heap[V.heap.size]?=some (.cells #[.int .i64 (fr:Int),.int .i64 (tt:Int),.int .u8 (u.toNat:Int)] 94):=f2.same _ _ (World.alloc_heap_new V _) (by omega);generalize V.heap.size=Bx at kx ⊢;obtain ⟨x0,x1,x2⟩:=qj kx;have c1:=(qc a1).1
  have hpl:pre.length+1<=xs.length:=by
   have:=hx.length_le;simpa using this
  have hbx:Boxed V2 w.heap.size 173 v:=a1
  have hcl:∀ j u',[Value.int .i64 (fr:Int),.int .i64 (tt:Int),.int .u8 (u.toNat:Int)][j]?=some u'->(V2.alloc (.cells #[.int .i64 (fr:Int),.int .i64 (tt:Int),.int .u8 (u.toNat:Int)] 94)).cell? ((⟨V2.heap.size,0,none⟩:Addr).add j)=some u':=fun j u' hu=>by
   rw [Addr.add_lit,Nat.zero_add,World.cell?_alloc_at _ _ _ _ rfl,<-Array.getElem?_toList];exact hu
  gi_wp2_with (gi_at_builtin;refine wpListIn_append_own _ rfl _ _ 173 rfl w.heap.size 94 i0 (.agg #[.int .i64 0,.int .i64 0,.int .u8 0]) 3 24 Tryz.underlying173 hi0 hz0 hz1 hz2 rfl (by decide) _ _ _ rfl (a2.alloc _) ⟨V2.heap.size,0,none⟩ 1 1 [.int .i64 (fr:Int),.int .i64 (tt:Int),.int .u8 (u.toNat:Int)] rfl rfl hcl (by simp [Value.oneCell']) (by unfold maxLen;omega) (by omega) (by have:=Below.size a3;simp;omega) ?_;intro v' w5 hown' hgrow _;obtain ⟨g',cap',rfl⟩:=ownsRow_succ hown';obtain ⟨hv1,hv2,hr2,hk2,hb2⟩:=hbx.appended (by decide) a2 (Below.size a3) (Nat.le_refl _) hown' hgrow;have hc1:=hv1.cell;have hf1:=hv1.frozen);refine ⟨⟨hb2.os,hb2.tape,hb2.output,hk2.size,fun k o e q=>?_⟩,⟨_,hv2,?_⟩,Below.trans a3 hb2,Nat.le_trans a4 hk2.size⟩
  ·have hlt:k<V2.heap.size:=(Array.getElem?_eq_some_iff.1 e).1
   have hkb:k≠w.heap.size:=by
    rintro rfl;rcases q with q|q
    ·have:=hCb _ q;omega
    ·omega
   have hko:¬ some k=v.ownBlock:=fun eb=>by
    rcases a2.2 with ⟨rfl,_⟩|⟨g2,cap,cur,rfl,hb,hgb,_⟩
    ·simp [Value.ownBlock] at eb
    ·obtain rfl:k=g2:=by simpa [Value.ownBlock] using eb
     rw [hgb] at e;cases e;rcases q with q|q
     ·have:=hCb _ q;omega
     ·exact q.2 ⟨_,_,rfl⟩
   rw [Below.heap_setCell _ _ _ _ hkb,hgrow.block k (by rw [World.size_alloc];omega) hko,Below.heap_alloc _ _ _ hlt];exact e
  ·rw [rowM_snoc,List.length_append];exact hr2
theorem collect_any {g:Nat} {lb:Array Value} {C:Nat->Prop} {xs:List Mv} {w:World} (hit:It Tryz.prog g lb encM TM C xs w) (heg:∀ args w,(callFunc g args).run Tryz.prog w=.ok (.enter g args) w) (hCb:∀ k,C k->k<w.heap.size) (hlen:xs.length<=1000000) :
  Calls Tryz.prog 287 #[.func (.func g) #[] lb] w fun e w'=>∃ v,e=.returned v/\w'.ownsRow w.heap.size 94 3 v xs.length (rowM xs)/\Gr w w':=by
 have hap:=hide (qve hit heg hCb hlen);go_enter Tryz.func287,Tryz.ntmps287;go_wp2_with (go_at_call 318;refine (qa hap).mono ?_;rintro e w' ⟨v,rfl,hv,hg⟩);go_ret;exact ⟨v,rfl,hv,hg⟩
end Go.Proofs.YtnfakamfmkhlbaaGreatDoor.C
namespace Go.Proofs.YtnfakamfmkhlbaaGreatDoor.C
open Go.ChangeShapes Go.WideShapes Go.ChangeAt Go.RowKit Go.Shelf Go.Sort
open Go.Proofs.YtnfakamfmkhlbaaGreatDoor.P
attribute [local go_sem] qb qd Oper.semAt_some
theorem Gd.grown {w w':World} (h:Gd w w'):∃ q os,w'=grow (w.drewN q) os:=by
 refine ⟨w'.drawn-w.drawn,w'.heap.extract w.heap.size w'.heap.size,?_⟩;have hb:=h.gr
 have hh:w'.heap=w.heap++w'.heap.extract w.heap.size w'.heap.size:=by
  apply Array.ext_getElem?;intro i;by_cases hi:i<w.heap.size
  ·rw [Array.getElem?_append_left hi];exact Below.block hb i hi
  ·rw [Array.getElem?_append_right (by omega),Array.getElem?_extract];by_cases h2:i<w'.heap.size
   ·rw [if_pos (by omega),Nat.add_sub_cancel' (by omega)]
   ·rw [if_neg (by omega)];exact Array.getElem?_eq_none (by omega)
 have h1:=Below.os hb;have h2:=Below.tape hb;have h3:=Below.output hb;have h4:=h.dr;have hd:(w.drewN (w'.drawn-w.drawn)).drawn=w'.drawn:=by show w.drawn+(w'.drawn-w.drawn)=_;omega
 unfold grow;show w'={ heap:=w.heap++_,tape:=w.tape,drawn:=(w.drewN (w'.drawn-w.drawn)).drawn,os:=w.os,output:=w.output };rw [hd,<-h1,<-h2,<-h3,<-hh]
def cmpB (x y:ByteArray):Int:=if Op.bytesLess x.toList y.toList then -1 else if !(Op.bytesLess x.toList y.toList||x.toList==y.toList) then 1 else 0
theorem gtr_run (x y:ByteArray) (W:World):(Op.stringOp .gtr x y).run Tryz.prog W=.ok (.bool !(Op.bytesLess x.toList y.toList||x.toList==y.toList)) W:=rfl
theorem neq_run (x:ByteArray) (W:World):(Op.stringOp .neq x x).run Tryz.prog W=.ok (.bool false) W:=by
 have h:(x.toList==x.toList)=true:=by simp
 show (pure (Value.bool !(x.toList==x.toList)):Sem Value).run Tryz.prog W=_;rw [h];rfl
theorem isNaN_any (x:ByteArray) (w:World):Calls Tryz.prog 289 #[.string x] w fun e w'=>e=.returned (.bool false)/\w'=w:=by
 have f1:=neq_run x;go_enter Tryz.func289,Tryz.ntmps289;go_wp2;go_ret;exact ⟨rfl,rfl⟩
theorem compare_any (x y:ByteArray) (w:World):Calls Tryz.prog 242 #[.string x,.string y] w fun e w'=>e=.returned (.int .i64 (cmpB x y))/\w'=w:=by
 have f2:=gtr_run x y;go_enter Tryz.func242,Tryz.ntmps242;go_wp2_with (go_at_call 289;refine (isNaN_any _ _).mono ?_;rintro e w' ⟨rfl,rfl⟩)
 all_goals
  go_ret;refine ⟨?_,rfl⟩;unfold cmpB;simp_all
def keyV:Value:=.func (.func 100) #[] #[]
theorem cells_in {w w':World} {x y:Array Value} {ty:TypeId} {B:Nat} {v:Value} (hx:x.size=3) (hy:y.size=3) (hB:w.cell? ⟨B,0,none⟩=some v) (g:Gd ((w.alloc (.cells x ty)).alloc (.cells y ty)) w') :
  Gd ((w.alloc (.cells x ty)).alloc (.cells y ty)) w'/\w'.cell? ⟨B,0,none⟩=some v/\w'.cell? ⟨w.heap.size,0,none⟩=some x[0]/\w'.cell? ⟨w.heap.size,1,none⟩=some x[1]/\w'.cell? ⟨w.heap.size,2,none⟩=some x[2]/\w'.cell? ⟨w.heap.size+1,0,none⟩=some y[0]/\w'.cell? ⟨w.heap.size+1,1,none⟩=some y[1]/\w'.cell? ⟨w.heap.size+1,2,none⟩=some y[2]:=by
 have hb:=World.block_lt_of_cell? _ _ hB;have hb:B<w.heap.size:=hb;have s1:((w.alloc (.cells x ty)).alloc (.cells y ty)).heap.size=w.heap.size+2:=by simp
 have h0:w'.heap[B]?=w.heap[B]?:=(Below.block g.gr _ (by omega)).trans (by rw [Below.heap_alloc _ _ _ (by rw [World.size_alloc];omega),Below.heap_alloc _ _ _ hb]);have h1:w'.heap[w.heap.size]?=some (.cells x ty (0,0)):=(Below.block g.gr _ (by omega)).trans (by rw [Below.heap_alloc _ _ _ (by rw [World.size_alloc];omega)];exact World.alloc_heap_new w _);have h2:w'.heap[w.heap.size+1]?=some (.cells y ty (0,0)):=(Below.block g.gr _ (by omega)).trans (by have:=World.alloc_heap_new (w.alloc (.cells x ty)) (.cells y ty);rw [World.size_alloc] at this;exact this);refine ⟨g,?_,?_,?_,?_,?_,?_,?_⟩
 ·rw [<-hB];exact World.cell?_of_block h0
 all_goals first|(simp only [World.cell?];rw [h1];simp [hx];done)|(simp only [World.cell?];rw [h2];simp [hy];done)
theorem inOrder1_any (f t:Nat) (u:UInt8) (f' t':Nat) (u':UInt8) (hf:f<64) (ht:t<64) (hf':f'<64) (ht':t'<64) (B:Nat) (w:World) (hB:w.cell? ⟨B,0,none⟩=some keyV) :
  Calls Tryz.prog 241 #[.agg #[.int .i64 (f:Int),.int .i64 (t:Int),.int .u8 (u.toNat:Int)],.agg #[.int .i64 (f':Int),.int .i64 (t':Int),.int .u8 (u'.toNat:Int)],.pointer (some ⟨B,0,none⟩)] w fun e w'=>e=.returned (.int .i64 (cmpB (str (mvS f t u)) (str (mvS f' t' u'))))/\Gd w w':=by
 obtain ⟨tx,htx⟩:∃ tx:Nat->Nat->UInt8->ByteArray,Hid (∀ f t u,tx f t u=str (mvS f t u)):=⟨fun f t u=>str (mvS f t u),hide (fun _ _ _=>rfl)⟩;have hN:Hid (∀ f t u,f<64->t<64->∀ W,Calls Tryz.prog 100 #[.agg #[.int .i64 ((f:Nat):Int),.int .i64 ((t:Nat):Int),.int .u8 ((u:UInt8).toNat:Int)]] W fun e w'=>e=.returned (.string (tx f t u))/\Gd W w'):=hide (fun f t u hf ht W=>by rw [qa htx];exact moveD_any f t hf ht u W);rw [<-qa htx,<-qa htx];clear htx;have hCm:Hid (∀ x y W,Calls Tryz.prog 242 #[.string x,.string y] W fun e w'=>e=.returned (.int .i64 (cmpB x y))/\w'=W):=hide compare_any;go_enter Tryz.func241,Tryz.ntmps241;go_wp2_with fail;unfold keyV at hB;have hin:=hide (fun w' g=>cells_in (w:=w) (w':=w') (x:=#[.int .i64 (f:Int),.int .i64 (t:Int),.int .u8 (u.toNat:Int)]) (y:=#[.int .i64 (f':Int),.int .i64 (t':Int),.int .u8 (u'.toNat:Int)]) (ty:=94) rfl rfl hB g);have hg0:Hid (Gd w ((w.alloc (.cells #[.int .i64 (f:Int),.int .i64 (t:Int),.int .u8 (u.toNat:Int)] 94)).alloc (.cells #[.int .i64 (f':Int),.int .i64 (t':Int),.int .u8 (u'.toNat:Int)] 94))):=hide (((Gd.refl w).alloc _ _).alloc _ _);simp only [List.getElem_toArray,List.getElem_cons_zero,List.getElem_cons_succ] at hin;generalize ((w.alloc (.cells #[.int .i64 (f:Int),.int .i64 (t:Int),.int .u8 (u.toNat:Int)] 94)).alloc (.cells #[.int .i64 (f':Int),.int .i64 (t':Int),.int .u8 (u'.toNat:Int)] 94))=w1 at hin hg0 ⊢;clear hB;go_region_held3 (fun w'=>Gd w1 w'/\w'.cell? ⟨B,0,none⟩=some (.func (.func 100) #[] #[])/\w'.cell? ⟨w.heap.size,0,none⟩=some (.int .i64 (f:Int))/\w'.cell? ⟨w.heap.size,1,none⟩=some (.int .i64 (t:Int))/\w'.cell? ⟨w.heap.size,2,none⟩=some (.int .u8 (u.toNat:Int))/\w'.cell? ⟨w.heap.size+1,0,none⟩=some (.int .i64 (f':Int))/\w'.cell? ⟨w.heap.size+1,1,none⟩=some (.int .i64 (t':Int))/\w'.cell? ⟨w.heap.size+1,2,none⟩=some (.int .u8 (u'.toNat:Int))) (first|exact qa hin _ (Gd.refl _).drew|exact qa hin _ (by assumption)) (first|(go_at_call 100;refine (qa hN _ _ _ (by omega) (by omega) _).mono ?_;rintro e w' ⟨rfl,hg⟩;have hg2:=Gd.trans (heldD (by assumption)) hg)|(go_at_call 242;refine (qa hCm _ _ _).mono ?_;rintro e w' ⟨rfl,rfl⟩;have hg2:=heldD (by assumption)));rename_i hH;go_wp2_with fail;go_ret;exact ⟨rfl,Gd.trans (qa hg0) hH.1⟩
end Go.Proofs.YtnfakamfmkhlbaaGreatDoor.C
