import Derived.Test.YtnfakamfmkhlbabGreatDoorKb3
import Derived.Laws.IdiomStrings
import Derived.Maps.AppendAt
import Derived.Deep.RegionHeld3
import Derived.Deep.MidRow
import Derived.Test.YtnfakamfmkhlbabGreatDoorKb1
import Derived.Test.YtnfakamfmkhlbabGreatDoorTz
import Derived.RangeFuncNested
import Derived.RangeFuncBound
import Derived.RangeFuncCalls
import Derived.RangeFuncLeaves
import Derived.Shelf.Abstract
import Derived.Shelf.RegionOpen
import Derived.OwnWalkIn
import Derived.TacticsInMore
import Derived.LoopNIn
import Derived.LoopIn
import Derived.Stop.RegionWithIn
set_option maxRecDepth 100000
set_option maxHeartbeats 4000000
set_option linter.unusedSimpArgs false
namespace Go.Proofs.YtnfakamfmkhlbabGreatDoor.C
open Go.ChangeShapes Go.WideShapes Go.ChangeAt Go.RowKit
attribute [local go_sem] setCell_drewN alloc_drewN
theorem foldl_set (off:Nat):∀ (l:List Value) (k:Nat) (cells:Array Value),
  ((l.zipIdx k).foldl (fun cs (p:Value × Nat)=>cs.setIfInBounds (off+p.2) p.1) cells).size=cells.size ∧
  ∀ i,off+k+l.length<=cells.size->((l.zipIdx k).foldl (fun cs (p:Value × Nat)=>cs.setIfInBounds (off+p.2) p.1) cells)[i]?=if off+k<=i/\i<off+k+l.length then l[i-(off+k)]? else cells[i]?
 | [],k,cells=>⟨rfl,fun i _=>by simp;omega⟩
 | v :: l,k,cells=>by
   obtain ⟨h1,h2⟩:=foldl_set off l (k+1) (cells.setIfInBounds (off+k) v);rw [List.zipIdx_cons,List.foldl_cons];refine ⟨by rw [h1];simp,fun i hi=>?_⟩;rw [h2 i (by simp at hi ⊢;omega)];by_cases e:i=off+k
   ·subst e;rw [if_neg (by omega),if_pos ⟨by omega,by simp⟩,Array.getElem?_setIfInBounds,if_pos rfl,if_pos (by simp at hi;omega)];simp
   ·by_cases g:off+k<=i/\i<off+k+(v :: l).length
    ·rw [if_pos (by simp at g ⊢;omega),if_pos g,show i-(off+k)=(i-(off+(k+1)))+1 from by omega];simp
    ·rw [if_neg (by simp at g ⊢;omega),if_neg g,Array.getElem?_setIfInBounds,if_neg (by omega)]
def put (off:Nat) (v cells:Array Value):Array Value:=v.zipIdx.foldl (fun cs (p:Value × Nat)=>cs.setIfInBounds (off+p.2) p.1) cells
theorem put_at (off:Nat) (v cells:Array Value):(put off v cells).size=cells.size/\∀ i,off+v.size<=cells.size->(put off v cells)[i]?=if off<=i/\i<off+v.size then v[i-off]? else cells[i]?:=by
 have h:=foldl_set off v.toList 0 cells
 have e:put off v cells=(v.toList.zipIdx 0).foldl (fun cs (p:Value × Nat)=>cs.setIfInBounds (off+p.2) p.1) cells:=by
  unfold put;rw [<-Array.foldl_toList,Array.toList_zipIdx]
 rw [e];refine ⟨h.1,fun i hi=>?_⟩;rw [h.2 i (by simpa using hi)];simp
theorem fill_one (place:Nat->Option (Nat × Nat)) (cells:Array Value) (i off size:Nat) (v:Value) (rest:List (Nat × Value)) (hp:place i=some (off,size)) (hv:v.cells.size=size) (hb:off+size<=cells.size) :
  Instr.fill place cells ((i,v) :: rest)=Instr.fill place (put off v.cells cells) rest:=by
 conv=>lhs;unfold Instr.fill
 rw [hp];simp only [hv];rw [if_neg (by simp;omega)];rfl
theorem builtP (parts:List (Nat × Value)):Tryz.prog.built 70 parts=Instr.fill (fun i=>(#[(0,64),(64,1),(65,4),(69,1),(70,1),(71,1)]:Array (Nat × Nat))[i]?) Tryz.zeroCells70 parts:=by kernel_rfl
theorem zeroP:Tryz.zeroCells70.size=72:=by kernel_rfl
def posA (A:Array Value) (wh c0 c1 c2 c3:Bool) (b h f:Int):Array Value:=A++#[.bool wh,.bool c0,.bool c1,.bool c2,.bool c3,.int .i64 b,.int .i64 h,.int .i64 f]
theorem built_pos (A:Array Value) (hA:A.size=64) (wh c0 c1 c2 c3:Bool) (b h f:Int) :
  Tryz.prog.built 70 [(0,.agg A),(1,.bool wh),(2,.agg #[.bool c0,.bool c1,.bool c2,.bool c3]),(3,.int .i64 b),(4,.int .i64 h),(5,.int .i64 f)]=some (posA A wh c0 c1 c2 c3 b h f):=by
 rw [builtP];have p0:=put_at 0 A Tryz.zeroCells70;have p1:=put_at 64 #[.bool wh] (put 0 A Tryz.zeroCells70);have p2:=put_at 65 #[.bool c0,.bool c1,.bool c2,.bool c3] (put 64 #[.bool wh] (put 0 A Tryz.zeroCells70));have p3:=put_at 69 #[.int .i64 b] (put 65 #[.bool c0,.bool c1,.bool c2,.bool c3] (put 64 #[.bool wh] (put 0 A Tryz.zeroCells70)));have p4:=put_at 70 #[.int .i64 h] (put 69 #[.int .i64 b] (put 65 #[.bool c0,.bool c1,.bool c2,.bool c3] (put 64 #[.bool wh] (put 0 A Tryz.zeroCells70))));have p5:=put_at 71 #[.int .i64 f] (put 70 #[.int .i64 h] (put 69 #[.int .i64 b] (put 65 #[.bool c0,.bool c1,.bool c2,.bool c3] (put 64 #[.bool wh] (put 0 A Tryz.zeroCells70)))));have z:=zeroP
 rw [fill_one _ _ 0 0 64 _ _ rfl (by simpa [Value.cells] using hA) (by omega),
  fill_one _ _ 1 64 1 _ _ rfl rfl (by simp only [Value.cells];omega),fill_one _ _ 2 65 4 _ _ rfl rfl (by simp only [Value.cells];omega),
  fill_one _ _ 3 69 1 _ _ rfl rfl (by simp only [Value.cells];omega),fill_one _ _ 4 70 1 _ _ rfl rfl (by simp only [Value.cells];omega),fill_one _ _ 5 71 1 _ _ rfl rfl (by simp only [Value.cells];omega)]
 simp only [Instr.fill,Value.cells,Option.some.injEq];apply Array.ext_getElem?;intro i;rw [p5.2 i (by simp;omega),p4.2 i (by simp;omega),p3.2 i (by simp;omega),p2.2 i (by simp;omega),p1.2 i (by simp;omega),p0.2 i (by omega)];unfold posA;rw [Array.getElem?_append,hA];by_cases h0:i<64
 ·rw [if_neg (by omega),if_neg (by omega),if_neg (by omega),if_neg (by omega),if_neg (by omega),if_pos ⟨by omega,by omega⟩,if_pos h0];simp
 ·by_cases h8:i<72
  ·have:i=64\/i=65\/i=66\/i=67\/i=68\/i=69\/i=70\/i=71:=by omega
   rcases this with rfl|rfl|rfl|rfl|rfl|rfl|rfl|rfl<;>simp
  ·rw [if_neg h0,if_neg (by simp;omega),if_neg (by simp;omega),if_neg (by simp;omega),if_neg (by simp;omega),if_neg (by simp;omega),if_neg (by omega),Array.getElem?_eq_none (by omega),Array.getElem?_eq_none (by simp;omega)]
theorem wpList_built {P:Program} {ops:Array Oper} {rest:List Oper} {o:Oper} {a:Act} {w:World} {Q:Exit->Act->World->Prop} (hg:o.guard=none) (t:TypeId) (parts:Array (Nat × Operand)) (ho:o.op=.build t parts) (cells:Array Value)
  (hf:P.built t (parts.map fun (i,x)=>(i,a.eval x)).toList=some cells)
  (h:wpList P ops Q rest (a.put o.dst (.agg cells)) w):wpList P ops Q (o :: rest) a w :=
 wpList_build hg t parts ho (by rw [hf];rfl) (by rw [hf];exact h)
theorem split_7 (s:ByteArray) (hs:s.size<4294967281) (m:Int) (w:World) (hm:w.cell? ⟨4,0,none⟩=some (.int .i64 m)) :
  Calls Tryz.prog 136 #[.string s,.string ⟨#[32]⟩,.int .i64 7] w fun e w'=>e=.returned (.slice (some ⟨w.heap.size,0,none⟩) (wordsS 32 7 s).length (min 7 (s.size+1)))/\w'=w.alloc (.cells (Lib.cellsOf (wordsS 32 7 s) (min 7 (s.size+1))) 9) :=
 Tryz.strings_SplitN s ⟨#[32]⟩ 7 m w hs hm (by decide) (by omega) (by omega)
structure Pos where
 board:List Int
 white:Bool
 castle:Nat->Bool
 behind:Int
 half:Int
 full:Int
def posV (p:Pos):Array Value:=posA (p.board.map (Value.int .u8)).toArray p.white (p.castle 0) (p.castle 1) (p.castle 2) (p.castle 3) p.behind p.half p.full
def sideS (s:ByteArray):Option Bool:=if s.toList=[119] then some true else if s.toList=[98] then some false else none
def six (x0 x1 x2 x3 x4 x5:ByteArray):Option Pos :=
 match boardS x0,sideS x1,castS x2.data.toList,behS x3,clkS x4.data.toList,clkS x5.data.toList with
 | some b,some w,some c,some e,some h,some f=>some ⟨b,w,c,e,h,f⟩
 | _,_,_,_,_,_=>none
def readS (s:ByteArray):Option Pos :=
 match wordsS 32 7 s with
 | [x0,x1,x2,x3,x4,x5]=>six x0 x1 x2 x3 x4 x5
 | _=>none
def ReadEnd (s:ByteArray) (e:Ending):Prop :=
 (∃ p,readS s=some p/\p.board.length=64/\e=.returned (.tuple #[.agg (posV p),.bool true]))\/(readS s=none/\e=.returned (.tuple #[.agg Tryz.zeroCells70,.bool false]))
theorem zeroP_ones:Tryz.zeroCells70.all (·.oneCell')=true:=by decide +kernel
theorem infoP:(Tryz.prog.info? 70).map (·.size)=some 72:=by kernel_rfl
theorem heap2 (w:World) (a b:Obj):((w.alloc a).alloc b).heap[w.heap.size]?=some a/\((w.alloc a).alloc b).heap[w.heap.size+1]?=some b:=⟨heap_alloc2_old w a b,heap_alloc2_new w a b⟩
theorem read_few (s:ByteArray) (hs:s.size<4294967281) (m:Int) (w:World) (hm:w.cell? ⟨4,0,none⟩=some (.int .i64 m)) (hz:4<w.heap.size) (h8:(wordsS 32 7 s).length≠6):Calls Tryz.prog 62 #[.string s] w fun e w'=>ReadEnd s e/\Gr w w':=by
 have hm':=hide hm;clear hm;have hne:(((wordsS 32 7 s).length:Int)==6)=false:=by simp;omega
 have hend:Hid (ReadEnd s (.returned (.tuple #[.agg Tryz.zeroCells70,.bool false]))):=hide (.inr ⟨by
  unfold readS;split
  ·rename_i h;rw [h] at h8;simp at h8
  ·rfl,rfl⟩)
 clear h8;go_enter Tryz.func62,Tryz.ntmps62;go_wp2_with fail;refine (split_7 s hs m _ ?_).mono ?_
 ·rw [World.cell?_alloc_past _ _ _ hz];exact unhide hm'
 rintro e w3 ⟨rfl,hw3⟩;have hg3:Gr w w3:=by rw [hw3];exact ((Gr.refl w).alloc _ _).alloc _ _
 have hA0:Hid (w3.heap[w.heap.size]?=some (.cells Tryz.zeroCells70 70)):=hide (by rw [hw3];exact (heap2 w _ _).1);clear hw3;go_wp2_with (refine wpList_store_row rfl 70 _ _ rfl w.heap.size Tryz.zeroCells70 rfl rfl 70 Tryz.zeroCells70 (unhide hA0) (by rw [zeroP];exact infoP) rfl zeroP_ones ?_);exact bodyPost_ret (v:=.tuple #[.agg Tryz.zeroCells70,.bool false]) (results_cell_tmp Tryz.results62 _ _ w.heap.size 70 _ (0,0) _ rfl (setRow_heap _ _ _ _ _ _ (unhide hA0)) Tryz.underlying70 rfl (by rw [zeroP];exact infoP)) rfl ⟨unhide hend,hg3.setRow _ (Nat.le_refl _) _⟩
theorem BoardEnd.plain {s:ByteArray} {e:Ending} (h:BoardEnd s e):∃ A:Array Value,Ones A/\e=.returned (.tuple #[.agg A,.bool (boardS s).isSome])/\∀ b,boardS s=some b->b.length=64/\A=(b.map (Value.int .u8)).toArray:=by
 rcases h with ⟨b,h1,h2,rfl⟩|⟨h1,A,hA,rfl⟩
 ·refine ⟨(b.map (Value.int .u8)).toArray,⟨by simpa using h2,?_⟩,by rw [h1];rfl,fun b' hb=>by rw [h1] at hb;simp at hb;subst hb;exact ⟨h2,rfl⟩⟩;rw [List.all_toArray,List.all_eq_true];intro v hv;obtain ⟨z,_,rfl⟩:=List.mem_map.mp hv;rfl
 ·exact ⟨A,hA,by rw [h1];rfl,fun b hb=>by rw [h1] at hb;exact absurd hb (by simp)⟩
theorem sideS_is (s:ByteArray):(s.toList==[119]||s.toList==[98])=(sideS s).isSome/\∀ b,sideS s=some b->(s.toList==[119])=b:=by
 unfold sideS;by_cases h1:s.toList=[119]
 ·simp [h1]
 ·by_cases h2:s.toList=[98]
  ·simp [h2]
  ·simp [h1,h2]
theorem six_none {x0 x1 x2 x3 x4 x5:ByteArray} (h:(boardS x0).isSome=false\/(sideS x1).isSome=false\/(castS x2.data.toList).isSome=false\/(behS x3).isSome=false\/(clkS x4.data.toList).isSome=false\/(clkS x5.data.toList).isSome=false):six x0 x1 x2 x3 x4 x5=none:=by
 unfold six;cases h0:boardS x0<;>cases h1:sideS x1<;>cases h2:castS x2.data.toList<;>cases h3:behS x3<;>cases h4:clkS x4.data.toList<;>cases h5:clkS x5.data.toList<;>first|rfl|(rw [h0,h1,h2,h3,h4,h5] at h;simp at h)
def Made (s:ByteArray) (A:Array Value) (ok0:Bool) (wh ok1:Bool) (f:Nat->Bool) (ok2:Bool) (b:Int) (ok3:Bool) (h:Int) (ok4:Bool) (g:Int) (ok5:Bool):Prop :=
 ((ok0=false\/ok1=false\/ok2=false\/ok3=false\/ok4=false\/ok5=false)->ReadEnd s (.returned (.tuple #[.agg Tryz.zeroCells70,.bool false]))) ∧
 (ok0=true->ok1=true->ok2=true->ok3=true->ok4=true->ok5=true->ReadEnd s (.returned (.tuple #[.agg (posA A wh (f 0) (f 1) (f 2) (f 3) b h g),.bool true])))
theorem made_of {s x0 x1 x2 x3 x4 x5:ByteArray} (hx:wordsS 32 7 s=[x0,x1,x2,x3,x4,x5]) {A:Array Value} (hA:∀ b,boardS x0=some b->b.length=64/\A=(b.map (Value.int .u8)).toArray)
  {f:Nat->Bool} (hf:∀ g,castS x2.data.toList=some g->f=g) {b:Int} (hb:∀ n,behS x3=some n->b=n) {h:Int} (hh:∀ n,clkS x4.data.toList=some n->h=(n:Int)) {g:Int} (hg:∀ n,clkS x5.data.toList=some n->g=(n:Int)) :
  Made s A (boardS x0).isSome (x1.toList==[119]) (sideS x1).isSome f (castS x2.data.toList).isSome b (behS x3).isSome h (clkS x4.data.toList).isSome g (clkS x5.data.toList).isSome:=by
 have hr:readS s=six x0 x1 x2 x3 x4 x5:=by unfold readS;rw [hx]
 refine ⟨fun hn=>.inr ⟨by rw [hr];exact six_none hn,rfl⟩,?_⟩;intro k0 k1 k2 k3 k4 k5;obtain ⟨b0,e0⟩:=Option.isSome_iff_exists.mp k0;obtain ⟨b1,e1⟩:=Option.isSome_iff_exists.mp k1;obtain ⟨b2,e2⟩:=Option.isSome_iff_exists.mp k2;obtain ⟨b3,e3⟩:=Option.isSome_iff_exists.mp k3;obtain ⟨b4,e4⟩:=Option.isSome_iff_exists.mp k4;obtain ⟨b5,e5⟩:=Option.isSome_iff_exists.mp k5;refine .inl ⟨⟨b0,b1,b2,b3,b4,b5⟩,?_,(hA b0 e0).1,?_⟩
 ·rw [hr];unfold six;rw [e0,e1,e2,e3,e4,e5]
 ·rw [(hA b0 e0).2,(sideS_is x1).2 b1 e1,hf b2 e2,hb b3 e3,hh b4 e4,hg b5 e5];rfl
def RAt (w:World) (xs:List ByteArray) (bq:Nat) (A:Array Value) (wr:World):Prop :=
 (∀ (j:Nat) (h:j<xs.length),wr.cell? ⟨w.heap.size+1,j,none⟩=some (.string xs[j]))/\wr.heap[w.heap.size]?=some (.cells Tryz.zeroCells70 70)/\wr.heap[bq]?=some (.cells A 67)/\w.heap.size+1<bq/\bq<wr.heap.size/\Gr w wr
theorem RAt.gr {w wr wr':World} {xs:List ByteArray} {bq:Nat} {A:Array Value} (h:RAt w xs bq A wr) (g:Gr wr wr'):RAt w xs bq A wr':=by
 obtain ⟨h1,h2,h3,h4,h5,h6⟩:=h
 exact ⟨fun j hj=>by rw [Below.cell g (p:=⟨w.heap.size+1,j,none⟩) (by show w.heap.size+1<wr.heap.size;omega)];exact h1 j hj,
  by rw [Below.block g _ (by omega)];exact h2,by rw [Below.block g _ h5];exact h3,h4,Nat.lt_of_lt_of_le h5 (Below.size g),h6.trans g⟩
def CAt (bc:Nat) (f:Nat->Bool) (wr:World):Prop:=wr.heap[bc]?=some (.cells #[.bool (f 0),.bool (f 1),.bool (f 2),.bool (f 3)] 68)/\bc<wr.heap.size
theorem CAt.gr {wr wr':World} {bc:Nat} {f:Nat->Bool} (h:CAt bc f wr) (g:Gr wr wr'):CAt bc f wr':=⟨by rw [Below.block g _ h.2];exact h.1,Nat.lt_of_lt_of_le h.2 (Below.size g)⟩
theorem info4:(Tryz.prog.info? 68).map (·.size)=some 4:=by kernel_rfl
theorem posA_ones {A:Array Value} (hA:Ones A) (wh c0 c1 c2 c3:Bool) (b h f:Int):(posA A wh c0 c1 c2 c3 b h f).size=72/\(posA A wh c0 c1 c2 c3 b h f).all (·.oneCell')=true:=by
 unfold posA;refine ⟨by rw [Array.size_append,hA.1];rfl,?_⟩;rw [Array.all_append,hA.2];simp [Value.oneCell']
theorem read_six (s x0 x1 x2 x3 x4 x5:ByteArray) (hs:s.size<4294967281) (m:Int) (w:World) (hm:w.cell? ⟨4,0,none⟩=some (.int .i64 m)) (hz:4<w.heap.size) (hx:wordsS 32 7 s=[x0,x1,x2,x3,x4,x5]):Calls Tryz.prog 62 #[.string s] w fun e w'=>ReadEnd s e/\Gr w w':=by
 have hm':=hide hm;clear hm;have hszs:∀ x∈wordsS 32 7 s,x.size<=s.size:=fun x hx=>splitB_size _ _ _ _ hx
 rw [hx] at hszs;have z0:=hszs x0 (by simp);have z4:=hszs x4 (by simp);have z5:=hszs x5 (by simp);clear hszs;have hx':=hide hx;go_enter Tryz.func62,Tryz.ntmps62;go_wp2_with fail;refine (split_7 s hs m _ ?_).mono ?_
 ·rw [World.cell?_alloc_past _ _ _ hz];exact unhide hm'
 rintro e w3 ⟨rfl,hw3⟩;have hg3:Gr w w3:=by rw [hw3];exact ((Gr.refl w).alloc _ _).alloc _ _
 have hs3:w.heap.size+2<=w3.heap.size:=by rw [hw3];exact Nat.le_of_eq (by rw [World.size_alloc,World.size_alloc])
 have hA0:Hid (w3.heap[w.heap.size]?=some (.cells Tryz.zeroCells70 70)):=hide (by rw [hw3];exact (heap2 w _ _).1);have hA1:Hid (w3.heap[w.heap.size+1]?=some (.cells (Lib.cellsOf [x0,x1,x2,x3,x4,x5] (min 7 (s.size+1))) 9)):=hide (by rw [hw3,<-hx];exact (heap2 w _ _).2);clear hw3;rw [hx];clear hx;generalize min 7 (s.size+1)=N at hA1 ⊢;have hc0:w3.cell? ⟨w.heap.size+1,0,none⟩=some (.string x0):=by rw [cell_of_row _ _ _ _ _ _ (unhide hA1)];exact cellsOf_at _ N 0 (by simp)
 have hc2:w3.cell? ⟨4,0,none⟩=some (.int .i64 m):=(Below.cell hg3 (p:=⟨4,0,none⟩) hz).trans (unhide hm');go_wp2_with fail;refine (board_any x0 (by omega) m _ hc2 (by omega)).mono ?_;rintro e w4 ⟨he,hg4⟩;obtain ⟨A,hOA,rfl,hAb⟩:=he.plain;clear he hc0 hc2;have hs4:w3.heap.size<=w4.heap.size:=Below.size hg4
 have hcs:∀ (j:Nat) (h:j<6),w4.cell? ⟨w.heap.size+1,j,none⟩=some (.string ([x0,x1,x2,x3,x4,x5][j])):=by
  intro j h;rw [Below.cell hg4 (p:=⟨w.heap.size+1,j,none⟩) (by show w.heap.size+1<w3.heap.size;omega),cell_of_row _ _ _ _ _ _ (unhide hA1)];exact cellsOf_at _ N j (by simpa using h)
 have hr4:∀ o,Hid (RAt w [x0,x1,x2,x3,x4,x5] w4.heap.size A ((w4.alloc (.cells o 67)).setRow w4.heap.size A)):=fun o=>hide (by
  have hgg:Gr w4 ((w4.alloc (.cells o 67)).setRow w4.heap.size A):=((Gr.refl w4).alloc _ _).setRow _ (Nat.le_refl _) _;refine ⟨fun j hj=>?_,?_,setRow_heap _ _ _ _ _ _ (heap_alloc_new _ _),by omega,by rw [size_setRow,World.size_alloc];omega,(hg3.trans hg4).trans hgg⟩
  ·rw [Below.cell hgg (p:=⟨w.heap.size+1,j,none⟩) (by show w.heap.size+1<w4.heap.size;omega)];exact hcs j hj
  ·rw [Below.block hgg _ (by omega),Below.block hg4 _ (by omega)];exact unhide hA0)
 have hAb':=hide hAb;have hOA':=hide hOA;clear hcs hA0 hA1 hg3 hg4 hAb hOA hs3;have hc1:∀ o,((w4.alloc (.cells o 67)).setRow w4.heap.size A).cell? ⟨w.heap.size+1,1,none⟩=some (.string x1):=fun o=>(unhide (hr4 o)).1 1 (by simp)
 go_wp2_with (refine wpList_store_row rfl 67 _ _ rfl w4.heap.size A rfl rfl 67 _ (heap_alloc_new _ _) (by rw [(unhide hOA').1];exact info64) (by rw [(unhide hOA').1];rfl) (unhide hOA').2 ?_);refine (side_any x1 _).mono ?_;rintro e w5 ⟨rfl,hw5⟩;have hr5:RAt w [x0,x1,x2,x3,x4,x5] w4.heap.size A w5:=by rw [hw5];exact unhide (hr4 _)
 clear hw5 hc1 hr4;rw [(sideS_is x1).1];generalize w4.heap.size=bq at hr5 ⊢;have hc2:w5.cell? ⟨w.heap.size+1,2,none⟩=some (.string x2):=hr5.1 2 (by simp);have hr5':=hide hr5;clear hr5;go_wp2_with fail;refine (castle_any x2 _).mono ?_;rintro e w6 ⟨⟨f,rfl,hf⟩,hg6⟩;have hf':=hide hf;have hr6:∀ o,Hid (RAt w [x0,x1,x2,x3,x4,x5] bq A (w6.alloc (.cells o 68))):=fun o=>hide ((unhide hr5').gr (Gr.alloc hg6 _ _))
 clear hc2 hr5' hg6 hf;have hc3:∀ o,(w6.alloc (.cells o 68)).cell? ⟨w.heap.size+1,3,none⟩=some (.string x3):=fun o=>(unhide (hr6 o)).1 3 (by simp)
 go_wp2_with fail;refine (behind_any x3 _).mono ?_;rintro e w7 ⟨⟨b,rfl,hb⟩,hg7⟩;have hb':=hide hb;have hr7:=(unhide (hr6 _)).gr hg7;have hq7:CAt w6.heap.size f w7:=CAt.gr ⟨heap_alloc_new _ _,by rw [World.size_alloc];omega⟩ hg7;clear hc3 hr6 hg7 hb;generalize w6.heap.size=bc at hq7 ⊢;have hc4:w7.cell? ⟨w.heap.size+1,4,none⟩=some (.string x4):=hr7.1 4 (by simp);have hr7':=hide hr7;have hq7':=hide hq7;clear hr7 hq7;go_wp2_with fail;refine (clock_any x4 (by unfold maxLen;omega) _).mono ?_;rintro e w8 ⟨⟨h,rfl,hh⟩,hw8⟩;have hh':=hide hh;have hr8:RAt w [x0,x1,x2,x3,x4,x5] bq A w8:=by rw [hw8];exact unhide hr7'
 have hq8:CAt bc f w8:=by rw [hw8];exact unhide hq7'
 have hc5:w8.cell? ⟨w.heap.size+1,5,none⟩=some (.string x5):=hr8.1 5 (by simp);have hr8':=hide hr8;have hq8':=hide hq8;clear hr8 hq8 hr7' hq7' hw8 hc4 hh;go_wp2_with fail;refine (clock_any x5 (by unfold maxLen;omega) _).mono ?_;rintro e w9 ⟨⟨g,rfl,hg⟩,hw9⟩;have hR:Hid (RAt w [x0,x1,x2,x3,x4,x5] bq A w9):=hide (by rw [hw9];exact unhide hr8');have hq:Hid (CAt bc f w9):=hide (by rw [hw9];exact unhide hq8');have hmade:=hide (made_of (unhide hx') (unhide hAb') (unhide hf') (unhide hb') (unhide hh') hg);clear hr8' hq8' hw9 hc5 hg hx' hAb' hf' hb' hh';generalize (boardS x0).isSome=ok0 at hmade ⊢;generalize (x1.toList==[119])=wh at hmade ⊢;generalize (sideS x1).isSome=ok1 at hmade ⊢;generalize (castS x2.data.toList).isSome=ok2 at hmade ⊢;generalize (behS x3).isSome=ok3 at hmade ⊢;generalize (clkS x4.data.toList).isSome=ok4 at hmade ⊢;generalize (clkS x5.data.toList).isSome=ok5 at hmade ⊢;cases ok0
 ·have hend:=hide ((unhide hmade).1 (by simp));clear hmade hq;go_wp2_with (refine wpList_store_row rfl 70 _ _ rfl w.heap.size Tryz.zeroCells70 rfl rfl 70 Tryz.zeroCells70 (unhide hR).2.1 (by rw [zeroP];exact infoP) rfl zeroP_ones ?_);exact bodyPost_ret (v:=.tuple #[.agg Tryz.zeroCells70,.bool false]) (results_cell_tmp Tryz.results62 _ _ w.heap.size 70 _ (0,0) _ rfl (setRow_heap _ _ _ _ _ _ (unhide hR).2.1) Tryz.underlying70 rfl (by rw [zeroP];exact infoP)) rfl ⟨unhide hend,(unhide hR).2.2.2.2.2.setRow _ (Nat.le_refl _) _⟩
 ·cases ok1
  ·have hend:=hide ((unhide hmade).1 (by simp));clear hmade hq;go_wp2_with (refine wpList_store_row rfl 70 _ _ rfl w.heap.size Tryz.zeroCells70 rfl rfl 70 Tryz.zeroCells70 (unhide hR).2.1 (by rw [zeroP];exact infoP) rfl zeroP_ones ?_);exact bodyPost_ret (v:=.tuple #[.agg Tryz.zeroCells70,.bool false]) (results_cell_tmp Tryz.results62 _ _ w.heap.size 70 _ (0,0) _ rfl (setRow_heap _ _ _ _ _ _ (unhide hR).2.1) Tryz.underlying70 rfl (by rw [zeroP];exact infoP)) rfl ⟨unhide hend,(unhide hR).2.2.2.2.2.setRow _ (Nat.le_refl _) _⟩
  ·cases ok2
   ·have hend:=hide ((unhide hmade).1 (by simp));clear hmade hq;go_wp2_with (refine wpList_store_row rfl 70 _ _ rfl w.heap.size Tryz.zeroCells70 rfl rfl 70 Tryz.zeroCells70 (unhide hR).2.1 (by rw [zeroP];exact infoP) rfl zeroP_ones ?_);exact bodyPost_ret (v:=.tuple #[.agg Tryz.zeroCells70,.bool false]) (results_cell_tmp Tryz.results62 _ _ w.heap.size 70 _ (0,0) _ rfl (setRow_heap _ _ _ _ _ _ (unhide hR).2.1) Tryz.underlying70 rfl (by rw [zeroP];exact infoP)) rfl ⟨unhide hend,(unhide hR).2.2.2.2.2.setRow _ (Nat.le_refl _) _⟩
   ·cases ok3
    ·have hend:=hide ((unhide hmade).1 (by simp));clear hmade hq;go_wp2_with (refine wpList_store_row rfl 70 _ _ rfl w.heap.size Tryz.zeroCells70 rfl rfl 70 Tryz.zeroCells70 (unhide hR).2.1 (by rw [zeroP];exact infoP) rfl zeroP_ones ?_);exact bodyPost_ret (v:=.tuple #[.agg Tryz.zeroCells70,.bool false]) (results_cell_tmp Tryz.results62 _ _ w.heap.size 70 _ (0,0) _ rfl (setRow_heap _ _ _ _ _ _ (unhide hR).2.1) Tryz.underlying70 rfl (by rw [zeroP];exact infoP)) rfl ⟨unhide hend,(unhide hR).2.2.2.2.2.setRow _ (Nat.le_refl _) _⟩
    ·cases ok4
     ·have hend:=hide ((unhide hmade).1 (by simp));clear hmade hq;go_wp2_with (refine wpList_store_row rfl 70 _ _ rfl w.heap.size Tryz.zeroCells70 rfl rfl 70 Tryz.zeroCells70 (unhide hR).2.1 (by rw [zeroP];exact infoP) rfl zeroP_ones ?_);exact bodyPost_ret (v:=.tuple #[.agg Tryz.zeroCells70,.bool false]) (results_cell_tmp Tryz.results62 _ _ w.heap.size 70 _ (0,0) _ rfl (setRow_heap _ _ _ _ _ _ (unhide hR).2.1) Tryz.underlying70 rfl (by rw [zeroP];exact infoP)) rfl ⟨unhide hend,(unhide hR).2.2.2.2.2.setRow _ (Nat.le_refl _) _⟩
     ·cases ok5
      ·have hend:=hide ((unhide hmade).1 (by simp));clear hmade hq;go_wp2_with (refine wpList_store_row rfl 70 _ _ rfl w.heap.size Tryz.zeroCells70 rfl rfl 70 Tryz.zeroCells70 (unhide hR).2.1 (by rw [zeroP];exact infoP) rfl zeroP_ones ?_);exact bodyPost_ret (v:=.tuple #[.agg Tryz.zeroCells70,.bool false]) (results_cell_tmp Tryz.results62 _ _ w.heap.size 70 _ (0,0) _ rfl (setRow_heap _ _ _ _ _ _ (unhide hR).2.1) Tryz.underlying70 rfl (by rw [zeroP];exact infoP)) rfl ⟨unhide hend,(unhide hR).2.2.2.2.2.setRow _ (Nat.le_refl _) _⟩
      ·have hend:=hide ((unhide hmade).2 rfl rfl rfl rfl rfl rfl);have hP:=hide (posA_ones (unhide hOA') wh (f 0) (f 1) (f 2) (f 3) b h g);clear hmade;go_wp2_with (first|(refine wpList_load_row rfl 67 _ rfl bq rfl 67 A (0,0) _ (unhide hR).2.2.1 Tryz.underlying67 rfl (by rw [(unhide hOA').1];exact info64) ?_)|(refine wpList_load_row rfl 68 _ rfl bc rfl 68 #[.bool (f 0),.bool (f 1),.bool (f 2),.bool (f 3)] (0,0) _ (unhide hq).1 Tryz.underlying68 rfl info4 ?_)|(refine wpList_built rfl 70 #[(0,.tmp 88),(1,.tmp 89),(2,.tmp 90),(3,.tmp 91),(4,.tmp 92),(5,.tmp 93)] rfl (posA A wh (f 0) (f 1) (f 2) (f 3) b h g) ?_ ?_;focus (simp [Act.eval];exact built_pos A (unhide hOA').1 wh (f 0) (f 1) (f 2) (f 3) b h g))|(refine wpList_store_row rfl 70 _ _ rfl w.heap.size (posA A wh (f 0) (f 1) (f 2) (f 3) b h g) rfl rfl 70 Tryz.zeroCells70 (unhide hR).2.1 (by rw [(unhide hP).1];exact infoP) (by rw [(unhide hP).1,zeroP]) (unhide hP).2 ?_));exact bodyPost_ret (v:=.tuple #[.agg (posA A wh (f 0) (f 1) (f 2) (f 3) b h g),.bool true]) (results_cell_tmp Tryz.results62 _ _ w.heap.size 70 _ (0,0) _ rfl (setRow_heap _ _ _ _ _ _ (unhide hR).2.1) Tryz.underlying70 rfl (by rw [(unhide hP).1];exact infoP)) rfl ⟨unhide hend,(unhide hR).2.2.2.2.2.setRow _ (Nat.le_refl _) _⟩
theorem read_any (s:ByteArray) (hs:s.size<4294967281) (m:Int) (w:World) (hm:w.cell? ⟨4,0,none⟩=some (.int .i64 m)) (hz:4<w.heap.size):Calls Tryz.prog 62 #[.string s] w fun e w'=>ReadEnd s e/\Gr w w':=by
 by_cases h8:(wordsS 32 7 s).length=6
 ·match hx:wordsS 32 7 s,h8 with
  | [x0,x1,x2,x3,x4,x5],_=>exact read_six s x0 x1 x2 x3 x4 x5 hs m w hm hz hx
 ·exact read_few s hs m w hm hz h8
theorem conv_bytes (w:World) (a:Addr) (cap:Nat) (l:List UInt8) (hc:∀ i (h:i<l.length),w.cell? (a.add i)=some (.int .u8 ((l[i]).toNat:Int))) :
  (convert 145 9 (.slice (some a) l.length cap)).run Tryz.prog w=.ok (.string ⟨l.toArray⟩) w :=
 run_convert_bytes_back w 145 9 5 a cap l Tryz.underlying145 Tryz.underlying5 Tryz.underlying9 hc
def nameS (n:Nat):List UInt8:=[UInt8.ofNat (97+n%8),UInt8.ofNat (49+n/8)]
def wbehS (n:Int):List UInt8:=if n=-1 then [45] else nameS n.toNat
def wcS (f:Nat->Bool):Nat->List UInt8
 | 0=>[]
 | i+1=>wcS f i++(if f i then [clc i] else [])
def wcastS (f:Nat->Bool):List UInt8:=if (wcS f 4).isEmpty then [45] else wcS f 4
theorem wcS_step (f:Nat->Bool) (i:Nat):wcS f (i+1)=wcS f i++(if f i then [clc i] else []):=rfl
def gapS (g:Nat):List UInt8:=if g=0 then [] else [UInt8.ofNat (48+g)]
def wrK (z:Nat->UInt8):Nat->List UInt8 × Nat
 | 0=>([],0)
 | k+1=>if z k=46 then ((wrK z k).1,(wrK z k).2+1) else ((wrK z k).1++gapS (wrK z k).2++[z k],0)
def wrankS (z:Nat->UInt8):List UInt8:=(wrK z 8).1++gapS (wrK z 8).2
def wrowS (z:Nat->UInt8) (i:Nat):List UInt8:=wrankS (fun f=>z (8*(7-i)+f))
def wrowsS (z:Nat->UInt8):List ByteArray:=(List.range 8).map (fun i=>⟨(wrowS z i).toArray⟩)
def wboardS (z:Nat->UInt8):List UInt8:=Lib.join ((wrowsS z).map (·.data.toList)) [47]
theorem Gr.setCell {a b:World} (h:Gr a b) {p:Addr} (hp:a.heap.size<=p.block) (v:Value):Gr a (b.setCell p v):=Below.setCell h hp v
def Tab (w : World) : Prop := Lib.TabIs Tryz.prog w "internal/strconv.uint64pow10" .u64 Lib.pow10Tab
theorem pow10_named : ∃ g, Tryz.prog.globalNamed "internal/strconv.uint64pow10" = some g := ⟨8, by kernel_rfl⟩
theorem Tab.gr {w w':World} (h:Tab w) (g:Gr w w'):Tab w':=by
 obtain ⟨i,hi⟩:=pow10_named;unfold Tab Lib.TabIs World.var? at h ⊢;rw [hi] at h ⊢;simp only [Option.bind_some] at h ⊢
 have hlt:i<w.heap.size:=by
  rcases Nat.lt_or_ge i w.heap.size with h'|h'
  ·exact h'
  ·rw [Array.getElem?_eq_none h'] at h;cases h
 rw [Below.block g i hlt];exact h
theorem Gr.grow (w:World) (k:Nat) (os:Array Obj):Gr w (Go.Sort.grow (w.drewN k) os):=by
 refine ⟨rfl,rfl,rfl,?_,fun i hi=>?_⟩
 ·show w.heap.size<=(w.heap++os).size;simp
 ·show (w.heap++os)[i]?=_;rw [Array.getElem?_append,if_pos hi]
def PS (w:World) (A:List Value) (wh c0 c1 c2 c3:Bool) (b h f:Int) (w':World):Prop :=
 w'.rangeAt w.heap.size 0 A/\w'.cell? ⟨w.heap.size,64,none⟩=some (.bool wh)/\w'.cell? ⟨w.heap.size,65,none⟩=some (.bool c0)/\w'.cell? ⟨w.heap.size,66,none⟩=some (.bool c1)/\w'.cell? ⟨w.heap.size,67,none⟩=some (.bool c2)/\w'.cell? ⟨w.heap.size,68,none⟩=some (.bool c3)/\w'.cell? ⟨w.heap.size,69,none⟩=some (.int .i64 b)/\w'.cell? ⟨w.heap.size,70,none⟩=some (.int .i64 h)/\w'.cell? ⟨w.heap.size,71,none⟩=some (.int .i64 f)/\(w.heap.size<w'.heap.size/\Gr w w'/\Tab w')
theorem PS.gr {w:World} {A:List Value} {wh c0 c1 c2 c3:Bool} {b h f:Int} {w1 w2:World} (p:PS w A wh c0 c1 c2 c3 b h f w1) (g:Gr w1 w2):PS w A wh c0 c1 c2 c3 b h f w2:=by
 obtain ⟨p0,p1,p2,p3,p4,p5,p6,p7,p8,hs,hg,ht⟩:=p;have k:∀ o,w2.cell? ⟨w.heap.size,o,none⟩=w1.cell? ⟨w.heap.size,o,none⟩:=fun o=>Below.cell g (p:=⟨w.heap.size,o,none⟩) hs
 exact ⟨fun j v hv=>(k _).trans (p0 j v hv),(k _).trans p1,(k _).trans p2,(k _).trans p3,(k _).trans p4,(k _).trans p5,(k _).trans p6,(k _).trans p7,(k _).trans p8,Nat.lt_of_lt_of_le hs (Below.size g),hg.trans g,ht.gr g⟩
def writeS (z:Nat->UInt8) (wh:Bool) (f:Nat->Bool) (b h g:Int):List UInt8 :=
 Lib.join [wboardS z,[if wh then 119 else 98],wcastS f,wbehS b,Lib.itoa h,Lib.itoa g] [32]
theorem heldL {w1 w2:World} {q:Prop} (h:Gr w1 w2/\q):Gr w1 w2:=h.1
theorem held {w:World} {A:List Value} {wh c0 c1 c2 c3:Bool} {b h f:Int} {w1 w':World} (p:PS w A wh c0 c1 c2 c3 b h f w1) (g:Gr w1 w') :
  Gr w1 w'/\w'.rangeAt w.heap.size 0 A/\w'.cell? ⟨w.heap.size,64,none⟩=some (.bool wh)/\w'.cell? ⟨w.heap.size,65,none⟩=some (.bool c0)/\w'.cell? ⟨w.heap.size,66,none⟩=some (.bool c1)/\w'.cell? ⟨w.heap.size,67,none⟩=some (.bool c2)/\w'.cell? ⟨w.heap.size,68,none⟩=some (.bool c3)/\w'.cell? ⟨w.heap.size,69,none⟩=some (.int .i64 b)/\w'.cell? ⟨w.heap.size,70,none⟩=some (.int .i64 h)/\w'.cell? ⟨w.heap.size,71,none⟩=some (.int .i64 f):=by
 obtain ⟨p0,p1,p2,p3,p4,p5,p6,p7,p8,_⟩:=p.gr g;exact ⟨g,p0,p1,p2,p3,p4,p5,p6,p7,p8⟩
end Go.Proofs.YtnfakamfmkhlbabGreatDoor.C
namespace Go.Proofs.YtnfakamfmkhlbabGreatDoor.C
open Go.ChangeShapes Go.WideShapes Go.ChangeAt Go.RowKit Go.Shelf
open Go.Proofs.YtnfakamfmkhlbabGreatDoor.P
def BTab (w:World):Prop:=TabAt 2 Lib.deBruijn64tab w
theorem BTab.gr {w w':World} (h:BTab w) (g:Gr w w'):BTab w':=fun j hj=>by
 have hc:=h j hj;exact (Below.cell g (World.block_lt_of_cell? w _ hc)).trans hc
theorem BTab.below {n₀:Nat} {w w':World} (h:BTab w) (g:Below n₀ w w') (hn:2<n₀):BTab w':=fun j hj=>(g.cell (p:=⟨_,j,none⟩) hn).trans (h j hj)
theorem tz_any (s:BitVec 64) (t:Nat) (h1:s.getLsbD t=true) (h2:∀ j,j<t->s.getLsbD j=false) (w:World) (hb:BTab w):Calls Tryz.prog 208 #[.int .u64 (U s)] w fun e w'=>e=.returned (.int .i64 t)/\w'=w:=by
 have:=Any7.bits_TrailingZeros64 Tryz.lays7x29 s.toNat s.isLt w (fun _=>hb);rw [ctz_is s t h1 h2] at this;exact this
attribute [local go_sem] Oper.semAt_some
theorem sq1_in (n:Nat) (hn:1<=n) (l Bn n₀:Nat) (_hB:Bn<n₀) (ht0:2<n₀) (s:BitVec 64) (J Jx:List Nat->World->Prop)
  (hY:∀ pre x W,J pre W->pre.length<(sqs s).length->YieldAt Fence.wide (n-1) Tryz.prog l #[.int .i64 ((x:Nat):Int)] W fun e W' =>
   (e=.returned (.bool true)/\J (pre++[x]) W'/\Below n₀ W W')\/(e=.returned (.bool false)/\Jx (pre++[x]) W'))
  (W:World) (hBn:W.cell? ⟨Bn,0,none⟩=some (.int .u64 (U s))) (hT:BTab W) (h0:J [] W) :
  CallsIn Fence.wide n Tryz.prog 207 #[.func (.yield l) #[] #[],.pointer (some ⟨Bn,0,none⟩)] W fun e W'=>(∃ v,e=.returned v) ∧
   ((∃ ys,ys=sqs s/\J ys W')\/(∃ pre,pre <+: sqs s/\Jx pre W')):=by
 refine callsIn_of_wp Tryz.func207 rfl trivial ?_ rfl;simp only [Tryz.ntmps207,List.size_toArray,List.length_cons,List.length_nil,Nat.reduceAdd,Nat.reduceSub,Array.replicate_succ,Array.replicate_zero,List.push_toArray,List.append_toArray,List.nil_append,List.cons_append];gi_wp2;gi_loopw [3] (fun p wr=>∃ (pre:List Nat) (r:BitVec 64),p=.int .u64 (U r)/\sqs s=pre++sqs r/\BTab wr/\J pre wr) (fun p _=>(sqs (BitVec.ofInt 64 (intOf p))).length)
 case atStart=>exact ⟨[],s,rfl,rfl,hT,h0⟩
 case round =>
  obtain ⟨pre,r,rfl,hx,htb,hJs⟩:=hrel;by_cases hr:r=0#64
  ·subst hr;have hz:(U 0#64 != 0)=false:=by decide +kernel
   rw [sqs_zero,List.append_nil] at hx;have hx':=hide hx;clear hx;gi_wp2;go_end0;exact ⟨⟨_,rfl⟩,.inl ⟨pre,(unhide hx').symm,hJs⟩⟩
  ·obtain ⟨t,t1,t2,t3⟩:=low_exists r hr;have hst:=sqs_step r t t1 t2 t3
   have hnz:(U r != 0)=true:=by
    simp only [bne_iff_ne];intro e;exact hr (U_inj (e.trans (by decide +kernel)))
   have htz:=hide (tz_any r t t2 t3);obtain ⟨fn,tmps,assign,body,hy,hR⟩:=hY pre t wr hJs (by rw [hx,hst];simp);have hx':=hide hx;have hst':=hide hst;have htb':=hide htb;clear hx hst htb hr t2 t3;gi_wp2_with (refine ⟨trivial,?_⟩;gi_at_call 208;refine (callsIn_wide.2 (unhide htz _ (unhide htb'))).mono ?_;rintro e w' ⟨rfl,rfl⟩);refine hR.mono ?_;rintro e W3 (⟨rfl,hJ3,hk3⟩|⟨rfl,hJx3⟩)
   ·have e1:IntKind.u64.wrap (U r-1)=U (r-1#64):=by
     rw [show (1:Int)=U 1#64 from by decide +kernel];exact sub_U r 1#64
    have e2:bits .and .u64 (U r) (U (r-1#64))=U (r &&& (r-1#64)):=and_U _ _;gi_wp2;go_roundw
    case rel=>exact ⟨pre++[t],r &&& (r-1#64),rfl,by rw [unhide hx',unhide hst'];simp,(unhide htb').below hk3 ht0,hJ3⟩
    case measure=>simp only [intOf];rw [ofInt_U,ofInt_U,unhide hst'];simp
   ·gi_wp2;refine bodyPost_ret (results_none rfl _ _ _) rfl ?_;exact ⟨⟨_,rfl⟩,.inr ⟨pre++[t],⟨sqs (r &&& (r-1#64)),by rw [unhide hx',unhide hst'];simp⟩,hJx3⟩⟩
theorem sq_stops (n:Nat) (hn:1<=n) (Bn n₀:Nat) (hB:Bn<n₀) (ht0:2<n₀) (s:BitVec 64) (w:World) (hn₀:n₀<=w.heap.size) (hc:w.cell? ⟨Bn,0,none⟩=some (.int .u64 (U s))) (hT:BTab w) :
  SeqStopsK Fence.wide n Tryz.prog 207 #[.pointer (some ⟨Bn,0,none⟩)] (fun x:Nat=>#[Value.int .i64 (x:Int)]) (Below n₀) (fun ys=>ys=sqs s) (fun pre=>pre <+: sqs s) (sqs s).length w:=fun l J Jx W hW _ _ hY h0 =>
 sq1_in n hn l Bn n₀ hB ht0 s J Jx hY W ((hW.cell (p:=⟨Bn,0,none⟩) (Nat.lt_of_lt_of_le hB hn₀)).trans hc) (hT.below hW (Nat.lt_of_lt_of_le ht0 hn₀)) h0
theorem cell_of_box_l {W:World} {B:Nat} {v:Value} {t:TypeId} (h:W.heap[B]?=some (.cells #[v] t (0,0))):W.cell? ⟨B,0,none⟩=some v/\W.frozen? ⟨B,0,none⟩=false:=by
 constructor<;>simp [World.cell?,World.frozen?,h]
theorem cell_new_l (W:World) (v:Value) (t:TypeId):(W.alloc (.cells #[v] t)).cell? ⟨W.heap.size,0,none⟩=some v/\(W.alloc (.cells #[v] t)).frozen? ⟨W.heap.size,0,none⟩=false :=
 cell_of_box_l (World.alloc_heap_new W _)
theorem sqs_len (s:BitVec 64):(sqs s).length<=64:=by
 have:=List.length_filter_le (fun i=>s.getLsbD i) (List.range 64);unfold sqs;simpa using this
theorem squares_any (s:BitVec 64) (w:World):Calls Tryz.prog 132 #[.int .u64 (U s)] w fun e w'=>e=.returned (.func (.func 207) #[] #[.pointer (some ⟨w.heap.size,0,none⟩)])/\w'=w.alloc (.cells #[.int .u64 (U s)] 195):=by
 have hmf:∀ (fn:Fn) (first cap:Array Value) (w:World),(Instr.makeFunc fn first cap).run Tryz.prog w=.ok (.func fn first cap) w:=fun _ _ _ _=>rfl
 go_enter Tryz.func132,Tryz.ntmps132;go_wp2;go_ret;exact ⟨rfl,rfl⟩
theorem one_worth (x:Int) (w:World):Calls Tryz.prog 264 #[.int .i64 x] w fun e w'=>e=.returned (.int .i64 1)/\w'=w:=by
 go_enter Tryz.func264,Tryz.ntmps264;go_wp2;go_ret;exact ⟨rfl,rfl⟩
theorem sum_round {w W:World} {pre:List Nat} {x:Nat} {v:Value} (hc:W.cell? ⟨w.heap.size+1,0,none⟩=some (.int .i64 (pre.length:Nat))) (hf:W.frozen? ⟨w.heap.size+1,0,none⟩=false) (hwo:W.cell? ⟨w.heap.size,0,none⟩=some v) (hB:Below w.heap.size w W) :
  let W':=(W.setCell ⟨w.heap.size+1,0,none⟩ (.int .i64 ((pre.length:Int)+1))).drew
  KeepsOthers W W'/\Below w.heap.size W W'/\(W'.cell? ⟨w.heap.size+1,0,none⟩=some (.int .i64 ((pre++[x]).length:Nat))/\W'.frozen? ⟨w.heap.size+1,0,none⟩=false/\W'.cell? ⟨w.heap.size,0,none⟩=some v)/\Below w.heap.size w W':=by
 intro W';have h1:W'.cell? ⟨w.heap.size+1,0,none⟩=some (.int .i64 ((pre.length:Int)+1)):=World.cell?_setCell_same' W _ _ (by rw [hc];rfl)
 have h2:W'.frozen? ⟨w.heap.size+1,0,none⟩=false:=by
  show (W.setCell ⟨w.heap.size+1,0,none⟩ (.int .i64 ((pre.length:Int)+1))).frozen? ⟨w.heap.size+1,0,none⟩=false;rw [World.frozen?_setCell];exact hf
 have h3:W'.cell? ⟨w.heap.size,0,none⟩=some v:=by
  show (W.setCell ⟨w.heap.size+1,0,none⟩ (.int .i64 ((pre.length:Int)+1))).cell? ⟨w.heap.size,0,none⟩=some v;rw [World.cell?_of_block (w:=W) (Below.heap_setCell W ⟨w.heap.size+1,0,none⟩ _ w.heap.size (by simp))];exact hwo
 refine ⟨(KeepsOthers.setCell W _ _).trans (KeepsOthers.drew _),((Below.refl w.heap.size W).setCell (p:=⟨w.heap.size+1,0,none⟩) (by simp) _).drew,⟨?_,h2,h3⟩,(hB.setCell (p:=⟨w.heap.size+1,0,none⟩) (by simp) _).drew⟩;rw [h1];simp
theorem sum_any (s:BitVec 64) (Bn:Nat) (w:World) (hB:Bn<w.heap.size) (ht0:2<w.heap.size) (hc:w.cell? ⟨Bn,0,none⟩=some (.int .u64 (U s))) (hT:BTab w) :
  Calls Tryz.prog 263 #[.func (.func 207) #[] #[.pointer (some ⟨Bn,0,none⟩)],.func (.func 264) #[] #[]] w fun e w'=>e=.returned (.int .i64 (sqs s).length)/\Gr w w':=by
 refine (callsIn_wide (n:=3)).1 ?_;refine callsIn_of_wp_marks Tryz.func263 rfl trivial ?_ rfl;simp only [Tryz.ntmps263,List.size_toArray,List.length_cons,List.length_nil,Nat.reduceAdd,Nat.reduceSub,Array.replicate_succ,Array.replicate_zero,List.push_toArray,List.append_toArray,List.nil_append,List.cons_append];gi_wp2;have hs:=cell_new_l (w.alloc (.cells #[.func (.func 264) #[] #[]] 276)) (.int .i64 0) 3;have hwo:=(cell_new_l w (.func (.func 264) #[] #[]) 276).1;have hB0:Below w.heap.size w ((w.alloc (.cells #[.func (.func 264) #[] #[]] 276)).alloc (.cells #[.int .i64 0] 3)):=((Below.refl _ w).alloc (Nat.le_refl _) _).alloc (by simp) _
 have hwo2:((w.alloc (.cells #[.func (.func 264) #[] #[]] 276)).alloc (.cells #[.int .i64 0] 3)).cell? ⟨w.heap.size,0,none⟩=some (.func (.func 264) #[] #[]) :=
  (Below.cell (p:=⟨w.heap.size,0,none⟩) ((Below.refl (w.heap.size+1) _).alloc (by simp) _) (Nat.lt_succ_self _)).trans hwo
 rw [World.size_alloc] at hs
 refine wpIn_rangeFunc_ownF rfl (by omega) (gf:=207) (lb:=#[.pointer (some ⟨Bn,0,none⟩)]) rfl trivial (enters_of Tryz.func207 (by kernel_rfl) rfl)
  (sq_stops _ (by omega) Bn w.heap.size hB ht0 s _ (by simp;omega) ((hB0.cell (p:=⟨Bn,0,none⟩) hB).trans hc) (hT.below hB0 ht0)) belowK_t (belowK_b (by simp;omega)) (Below.refl _ _) (fun _=>rfl)
  (fun pre W=>(W.cell? ⟨w.heap.size+1,0,none⟩=some (.int .i64 (pre.length:Nat))/\W.frozen? ⟨w.heap.size+1,0,none⟩=false/\W.cell? ⟨w.heap.size,0,none⟩=some (.func (.func 264) #[] #[]))/\Below w.heap.size w W)
  (fun _ _ _=>False)
  (OwnFrom.and (Own.from (fun s A B row hs hg hr=>⟨cell_kept hs.1 hg hr,(frozen_kept hs.1 hg hr).trans hs.2.1,cell_kept hs.2.2 hg hr⟩) _) (ownFrom_below (Nat.le_refl _) (by simp;omega)))
  (fun _ _ _ _ _ hs _ _=>hs)
  ⟨⟨hs.1,hs.2,hwo2⟩,hB0⟩
  (fun x=>{ tmps:=#[.func (.func 207) #[] #[.pointer (some ⟨Bn,0,none⟩)],.func (.func 264) #[] #[],undef,.pointer (some ⟨w.heap.size,0,none⟩),.int .i64 0,.pointer (some ⟨w.heap.size+1,0,none⟩),.int .i64 (x:Nat),.func (.func 207) #[] #[.pointer (some ⟨Bn,0,none⟩)],.int .i64 (x:Nat),undef,undef,undef,undef,undef,undef],defers:=[] }) ?assign ?body ?done ?stop
 case assign =>
  intro l x W K hK;gi_wp2;simpa using hK
 case body =>
  rintro l pre x W ⟨⟨hc,hf,hwo⟩,hB⟩ hlt;have hp64:pre.length<64:=Nat.lt_of_lt_of_le hlt (sqs_len s);gi_wp2;have hcd:W.drew.cell? ⟨w.heap.size+1,0,none⟩=some (.int .i64 (pre.length:Nat)):=hc;have hfd:W.drew.frozen? ⟨w.heap.size+1,0,none⟩=false:=hf;have hwd:W.drew.cell? ⟨w.heap.size,0,none⟩=some (.func (.func 264) #[] #[]):=hwo;gi_region_with (refine ⟨trivial,?_⟩;gi_at_call 264;refine ((callsIn_wide.2 (one_worth _ _)).inRound l).mono ?_;rintro e w' ⟨rfl,rfl⟩)
  all_goals
   gi_wp2;rw [show IntKind.i64.wrap ((pre.length:Int)+1)=(pre.length:Int)+1 from by rw [IntKind.wrap_i64];omega];exact sum_round hc hf hwo hB
 case done =>
  rintro D ys W hD rfl ⟨⟨hc,_,_⟩,hB⟩ hK;gi_wp2;refine ⟨by simp,.inl ⟨_,_,rfl,run_takeDeferred hK,?_⟩⟩;exact ⟨_,results_tmp rfl _ _ _,rfl,hB.trans (belowK_b (w:=w) (Nat.le_refl _) W D _ _ (by simp at hD;omega) hK rfl rfl)⟩
 case stop =>
  rintro D c pre W _ _ h _;exact h.elim
theorem count_any (s:BitVec 64) (Bn:Nat) (w:World) (hB:Bn<w.heap.size) (ht0:2<w.heap.size) (hc:w.cell? ⟨Bn,0,none⟩=some (.int .u64 (U s))) (hT:BTab w) :
  Calls Tryz.prog 218 #[.func (.func 207) #[] #[.pointer (some ⟨Bn,0,none⟩)]] w fun e w'=>e=.returned (.int .i64 (sqs s).length)/\Gr w w':=by
 go_enter Tryz.func218,Tryz.ntmps218;go_wp2_with (go_at_call 263;refine (sum_any s Bn w hB ht0 hc hT).mono ?_;rintro e w' ⟨rfl,hg⟩);go_ret;exact ⟨rfl,hg⟩
end Go.Proofs.YtnfakamfmkhlbabGreatDoor.C
