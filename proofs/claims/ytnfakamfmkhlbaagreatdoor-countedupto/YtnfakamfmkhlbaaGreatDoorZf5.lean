import Derived.Test.YtnfakamfmkhlbaaGreatDoorZf4
import Derived.Laws.IdiomStrings
set_option maxRecDepth 100000
set_option maxHeartbeats 4000000
set_option linter.unusedSimpArgs false
namespace Go.Proofs.YtnfakamfmkhlbaaGreatDoor.C
open Go.ChangeShapes Go.WideShapes Go.ChangeAt Go.RowKit
attribute [local go_sem] qb qd
theorem foldl_set (off:Nat):∀ (l:List Value) (k:Nat) (cells:Array Value),
  ((l.zipIdx k).foldl (fun cs (p:Value × Nat)=>cs.setIfInBounds (off+p.2) p.1) cells).size=cells.size ∧
  ∀ i,off+k+l.length<=cells.size->((l.zipIdx k).foldl (fun cs (p:Value × Nat)=>cs.setIfInBounds (off+p.2) p.1) cells)[i]?=if off+k<=i/\i<off+k+l.length then l[i-(off+k)]? else cells[i]?
 | [],k,cells=>⟨rfl,fun i _=>by simp;omega⟩
 | v :: l,k,cells=>by
   obtain ⟨h1,h2⟩:=foldl_set off l (k+1) (cells.setIfInBounds (off+k) v);rw [List.zipIdx_cons,List.foldl_cons];refine ⟨by rw [h1];simp,fun i hi=>?_⟩;rw [h2 i (by simp at hi ⊢;omega)];by_cases e:i=off+k
   ·subst e;rw [if_neg (by omega),if_pos ⟨by omega,by simp⟩,Array.getElem?_setIfInBounds,if_pos rfl,if_pos (by simp at hi;omega)];simp
   ·by_cases g:off+k<=i/\i<off+k+(v :: l).length
    ·rw [if_pos (by simp at g ⊢;omega),if_pos g,show i-(off+k)=(i-(off+(k+1)))+1 from by omega];simp
    ·rw [if_neg (by simp at g ⊢;omega),if_neg g,Array.getElem?_setIfInBounds,if_neg (by omega)]
def put (off:Nat) (v cells:Array Value):Array Value:=v.zipIdx.foldl (fun cs (p:Value × Nat)=>cs.setIfInBounds (off+p.2) p.1) cells
theorem xl (off:Nat) (v cells:Array Value):(put off v cells).size=cells.size/\∀ i,off+v.size<=cells.size->(put off v cells)[i]?=if off<=i/\i<off+v.size then v[i-off]? else cells[i]?:=by
 have h:=foldl_set off v.toList 0 cells
 have e:put off v cells=(v.toList.zipIdx 0).foldl (fun cs (p:Value × Nat)=>cs.setIfInBounds (off+p.2) p.1) cells:=by
  unfold put;rw [<-Array.foldl_toList,Array.toList_zipIdx]
 rw [e];refine ⟨h.1,fun i hi=>?_⟩;rw [h.2 i (by simpa using hi)];simp
theorem qr (place:Nat->Option (Nat × Nat)) (cells:Array Value) (i off size:Nat) (v:Value) (rest:List (Nat × Value)) (hp:place i=some (off,size)) (hv:v.cells.size=size) (hb:off+size<=cells.size) :
  Instr.fill place cells ((i,v) :: rest)=Instr.fill place (put off v.cells cells) rest:=by
 conv=>lhs;unfold Instr.fill
 rw [hp];simp only [hv];rw [if_neg (by simp;omega)];rfl
theorem builtP (parts:List (Nat × Value)):Tryz.prog.built 25 parts=Instr.fill (fun i=>(#[(0,64),(64,1),(65,4),(69,1),(70,1),(71,1)]:Array (Nat × Nat))[i]?) Tryz.zeroCells25 parts:=by kernel_rfl
theorem zeroP:Tryz.zeroCells25.size=72:=by kernel_rfl
def posA (A:Array Value) (wh c0 c1 c2 c3:Bool) (b h f:Int):Array Value:=A++#[.bool wh,.bool c0,.bool c1,.bool c2,.bool c3,.int .i64 b,.int .i64 h,.int .i64 f]
theorem built_pos (A:Array Value) (hA:A.size=64) (wh c0 c1 c2 c3:Bool) (b h f:Int) :
  Tryz.prog.built 25 [(0,.agg A),(1,.bool wh),(2,.agg #[.bool c0,.bool c1,.bool c2,.bool c3]),(3,.int .i64 b),(4,.int .i64 h),(5,.int .i64 f)]=some (posA A wh c0 c1 c2 c3 b h f):=by
 rw [builtP];have p0:=xl 0 A Tryz.zeroCells25;have p1:=xl 64 #[.bool wh] (put 0 A Tryz.zeroCells25);have p2:=xl 65 #[.bool c0,.bool c1,.bool c2,.bool c3] (put 64 #[.bool wh] (put 0 A Tryz.zeroCells25));have p3:=xl 69 #[.int .i64 b] (put 65 #[.bool c0,.bool c1,.bool c2,.bool c3] (put 64 #[.bool wh] (put 0 A Tryz.zeroCells25)));have p4:=xl 70 #[.int .i64 h] (put 69 #[.int .i64 b] (put 65 #[.bool c0,.bool c1,.bool c2,.bool c3] (put 64 #[.bool wh] (put 0 A Tryz.zeroCells25))));have p5:=xl 71 #[.int .i64 f] (put 70 #[.int .i64 h] (put 69 #[.int .i64 b] (put 65 #[.bool c0,.bool c1,.bool c2,.bool c3] (put 64 #[.bool wh] (put 0 A Tryz.zeroCells25)))));have z:=zeroP
 rw [qr _ _ 0 0 64 _ _ rfl (by simpa [Value.cells] using hA) (by omega),
  qr _ _ 1 64 1 _ _ rfl rfl (by simp only [Value.cells];omega),qr _ _ 2 65 4 _ _ rfl rfl (by simp only [Value.cells];omega),
  qr _ _ 3 69 1 _ _ rfl rfl (by simp only [Value.cells];omega),qr _ _ 4 70 1 _ _ rfl rfl (by simp only [Value.cells];omega),qr _ _ 5 71 1 _ _ rfl rfl (by simp only [Value.cells];omega)]
 simp only [Instr.fill,Value.cells,Option.some.injEq];apply Array.ext_getElem?;intro i;rw [p5.2 i (by simp;omega),p4.2 i (by simp;omega),p3.2 i (by simp;omega),p2.2 i (by simp;omega),p1.2 i (by simp;omega),p0.2 i (by omega)];unfold posA;rw [Array.getElem?_append,hA];by_cases h0:i<64
 ·rw [if_neg (by omega),if_neg (by omega),if_neg (by omega),if_neg (by omega),if_neg (by omega),if_pos ⟨by omega,by omega⟩,if_pos h0];simp
 ·by_cases h8:i<72
  ·have:i=64\/i=65\/i=66\/i=67\/i=68\/i=69\/i=70\/i=71:=by omega
   rcases this with rfl|rfl|rfl|rfl|rfl|rfl|rfl|rfl<;>simp
  ·rw [if_neg h0,if_neg (by simp;omega),if_neg (by simp;omega),if_neg (by simp;omega),if_neg (by simp;omega),if_neg (by simp;omega),if_neg (by omega),Array.getElem?_eq_none (by omega),Array.getElem?_eq_none (by simp;omega)]
theorem jf {P:Program} {ops:Array Oper} {rest:List Oper} {o:Oper} {a:Act} {w:World} {Q:Exit->Act->World->Prop} (hg:o.guard=none) (t:TypeId) (parts:Array (Nat × Operand)) (ho:o.op=.build t parts) (cells:Array Value)
  (hf:P.built t (parts.map fun (i,x)=>(i,a.eval x)).toList=some cells)
  (h:wpList P ops Q rest (a.put o.dst (.agg cells)) w):wpList P ops Q (o :: rest) a w :=
 wpList_build hg t parts ho (by rw [hf];rfl) (by rw [hf];exact h)
theorem split_7 (s:ByteArray) (hs:s.size<4294967281) (m:Int) (w:World) (hm:w.cell? ⟨4,0,none⟩=some (.int .i64 m)) :
  Calls Tryz.prog 67 #[.string s,.string ⟨#[32]⟩,.int .i64 7] w fun e w'=>e=.returned (.slice (some ⟨w.heap.size,0,none⟩) (wordsS 32 7 s).length (min 7 (s.size+1)))/\w'=w.alloc (.cells (Lib.cellsOf (wordsS 32 7 s) (min 7 (s.size+1))) 9) :=
 Tryz.strings_SplitN s ⟨#[32]⟩ 7 m w hs hm (by decide) (by omega) (by omega)
structure Pos where
 board:List Int
 white:Bool
 castle:Nat->Bool
 behind:Int
 half:Int
 full:Int
def posV (p:Pos):Array Value:=posA (p.board.map (Value.int .u8)).toArray p.white (p.castle 0) (p.castle 1) (p.castle 2) (p.castle 3) p.behind p.half p.full
def sideS (s:ByteArray):Option Bool:=if s.toList=[119] then some true else if s.toList=[98] then some false else none
def six (x0 x1 x2 x3 x4 x5:ByteArray):Option Pos :=
 match boardS x0,sideS x1,castS x2.data.toList,behS x3,clkS x4.data.toList,clkS x5.data.toList with
 | some b,some w,some c,some e,some h,some f=>some ⟨b,w,c,e,h,f⟩
 | _,_,_,_,_,_=>none
def readS (s:ByteArray):Option Pos :=
 match wordsS 32 7 s with
 | [x0,x1,x2,x3,x4,x5]=>six x0 x1 x2 x3 x4 x5
 | _=>none
def ReadEnd (s:ByteArray) (e:Ending):Prop :=
 (∃ p,readS s=some p/\p.board.length=64/\e=.returned (.tuple #[.agg (posV p),.bool true]))\/(readS s=none/\e=.returned (.tuple #[.agg Tryz.zeroCells25,.bool false]))
theorem zeroP_ones:Tryz.zeroCells25.all (·.oneCell')=true:=by decide +kernel
theorem infoP:(Tryz.prog.info? 25).map (·.size)=some 72:=by kernel_rfl
theorem heap2 (w:World) (a b:Obj):((w.alloc a).alloc b).heap[w.heap.size]?=some a/\((w.alloc a).alloc b).heap[w.heap.size+1]?=some b:=⟨heap_alloc2_old w a b,heap_alloc2_new w a b⟩
theorem read_few (s:ByteArray) (hs:s.size<4294967281) (m:Int) (w:World) (hm:w.cell? ⟨4,0,none⟩=some (.int .i64 m)) (hz:4<w.heap.size) (h8:(wordsS 32 7 s).length≠6):Calls Tryz.prog 36 #[.string s] w fun e w'=>ReadEnd s e/\Gr w w':=by
 have hm':=hide hm;clear hm;have hne:(((wordsS 32 7 s).length:Int)==6)=false:=by simp;omega
 have hend:Hid (ReadEnd s (.returned (.tuple #[.agg Tryz.zeroCells25,.bool false]))):=hide (.inr ⟨by
  unfold readS;split
  ·rename_i h;rw [h] at h8;simp at h8
  ·rfl,rfl⟩)
 clear h8;go_enter Tryz.func36,Tryz.ntmps36;go_wp2_with fail;refine (split_7 s hs m _ ?_).mono ?_
 ·rw [World.cell?_alloc_past _ _ _ hz];exact qa hm'
 rintro e w3 ⟨rfl,hw3⟩;have hg3:Gr w w3:=by rw [hw3];exact ((Gr.refl w).alloc _ _).alloc _ _
 have hA0:Hid (w3.heap[w.heap.size]?=some (.cells Tryz.zeroCells25 25)):=hide (by rw [hw3];exact (heap2 w _ _).1);clear hw3;go_wp2_with (refine wpList_store_row rfl 25 _ _ rfl w.heap.size Tryz.zeroCells25 rfl rfl 25 Tryz.zeroCells25 (qa hA0) (by rw [zeroP];exact infoP) rfl zeroP_ones ?_);exact bodyPost_ret (v:=.tuple #[.agg Tryz.zeroCells25,.bool false]) (qe Tryz.results36 _ _ w.heap.size 25 _ (0,0) _ rfl (setRow_heap _ _ _ _ _ _ (qa hA0)) Tryz.underlying25 rfl (by rw [zeroP];exact infoP)) rfl ⟨qa hend,hg3.setRow _ (Nat.le_refl _) _⟩
theorem BoardEnd.plain {s:ByteArray} {e:Ending} (h:BoardEnd s e):∃ A:Array Value,Ones A/\e=.returned (.tuple #[.agg A,.bool (boardS s).isSome])/\∀ b,boardS s=some b->b.length=64/\A=(b.map (Value.int .u8)).toArray:=by
 rcases h with ⟨b,h1,h2,rfl⟩|⟨h1,A,hA,rfl⟩
 ·refine ⟨(b.map (Value.int .u8)).toArray,⟨by simpa using h2,?_⟩,by rw [h1];rfl,fun b' hb=>by rw [h1] at hb;simp at hb;subst hb;exact ⟨h2,rfl⟩⟩;rw [List.all_toArray,List.all_eq_true];intro v hv;obtain ⟨z,_,rfl⟩:=List.mem_map.mp hv;rfl
 ·exact ⟨A,hA,by rw [h1];rfl,fun b hb=>by rw [h1] at hb;exact absurd hb (by simp)⟩
theorem sideS_is (s:ByteArray):(s.toList==[119]||s.toList==[98])=(sideS s).isSome/\∀ b,sideS s=some b->(s.toList==[119])=b:=by
 unfold sideS;by_cases h1:s.toList=[119]
 ·simp [h1]
 ·by_cases h2:s.toList=[98]
  ·simp [h2]
  ·simp [h1,h2]
theorem six_none {x0 x1 x2 x3 x4 x5:ByteArray} (h:(boardS x0).isSome=false\/(sideS x1).isSome=false\/(castS x2.data.toList).isSome=false\/(behS x3).isSome=false\/(clkS x4.data.toList).isSome=false\/(clkS x5.data.toList).isSome=false):six x0 x1 x2 x3 x4 x5=none:=by
 unfold six;cases h0:boardS x0<;>cases h1:sideS x1<;>cases h2:castS x2.data.toList<;>cases h3:behS x3<;>cases h4:clkS x4.data.toList<;>cases h5:clkS x5.data.toList<;>first|rfl|(rw [h0,h1,h2,h3,h4,h5] at h;simp at h)
def Made (s:ByteArray) (A:Array Value) (ok0:Bool) (wh ok1:Bool) (f:Nat->Bool) (ok2:Bool) (b:Int) (ok3:Bool) (h:Int) (ok4:Bool) (g:Int) (ok5:Bool):Prop :=
 ((ok0=false\/ok1=false\/ok2=false\/ok3=false\/ok4=false\/ok5=false)->ReadEnd s (.returned (.tuple #[.agg Tryz.zeroCells25,.bool false]))) ∧
 (ok0=true->ok1=true->ok2=true->ok3=true->ok4=true->ok5=true->ReadEnd s (.returned (.tuple #[.agg (posA A wh (f 0) (f 1) (f 2) (f 3) b h g),.bool true])))
theorem made_of {s x0 x1 x2 x3 x4 x5:ByteArray} (hx:wordsS 32 7 s=[x0,x1,x2,x3,x4,x5]) {A:Array Value} (hA:∀ b,boardS x0=some b->b.length=64/\A=(b.map (Value.int .u8)).toArray)
  {f:Nat->Bool} (hf:∀ g,castS x2.data.toList=some g->f=g) {b:Int} (hb:∀ n,behS x3=some n->b=n) {h:Int} (hh:∀ n,clkS x4.data.toList=some n->h=(n:Int)) {g:Int} (hg:∀ n,clkS x5.data.toList=some n->g=(n:Int)) :
  Made s A (boardS x0).isSome (x1.toList==[119]) (sideS x1).isSome f (castS x2.data.toList).isSome b (behS x3).isSome h (clkS x4.data.toList).isSome g (clkS x5.data.toList).isSome:=by
 have hr:readS s=six x0 x1 x2 x3 x4 x5:=by unfold readS;rw [hx]
 refine ⟨fun hn=>.inr ⟨by rw [hr];exact six_none hn,rfl⟩,?_⟩;intro k0 k1 k2 k3 k4 k5;obtain ⟨b0,e0⟩:=Option.isSome_iff_exists.mp k0;obtain ⟨b1,e1⟩:=Option.isSome_iff_exists.mp k1;obtain ⟨b2,e2⟩:=Option.isSome_iff_exists.mp k2;obtain ⟨b3,e3⟩:=Option.isSome_iff_exists.mp k3;obtain ⟨b4,e4⟩:=Option.isSome_iff_exists.mp k4;obtain ⟨b5,e5⟩:=Option.isSome_iff_exists.mp k5;refine .inl ⟨⟨b0,b1,b2,b3,b4,b5⟩,?_,(hA b0 e0).1,?_⟩
 ·rw [hr];unfold six;rw [e0,e1,e2,e3,e4,e5]
 ·rw [(hA b0 e0).2,(sideS_is x1).2 b1 e1,hf b2 e2,hb b3 e3,hh b4 e4,hg b5 e5];rfl
def RAt (w:World) (xs:List ByteArray) (bq:Nat) (A:Array Value) (wr:World):Prop :=
 (∀ (j:Nat) (h:j<xs.length),wr.cell? ⟨w.heap.size+1,j,none⟩=some (.string xs[j]))/\wr.heap[w.heap.size]?=some (.cells Tryz.zeroCells25 25)/\wr.heap[bq]?=some (.cells A 22)/\w.heap.size+1<bq/\bq<wr.heap.size/\Gr w wr
theorem RAt.gr {w wr wr':World} {xs:List ByteArray} {bq:Nat} {A:Array Value} (h:RAt w xs bq A wr) (g:Gr wr wr'):RAt w xs bq A wr':=by
 obtain ⟨h1,h2,h3,h4,h5,h6⟩:=h
 exact ⟨fun j hj=>by rw [Below.cell g (p:=⟨w.heap.size+1,j,none⟩) (by show w.heap.size+1<wr.heap.size;omega)];exact h1 j hj,
  by rw [Below.block g _ (by omega)];exact h2,by rw [Below.block g _ h5];exact h3,h4,Nat.lt_of_lt_of_le h5 (Below.size g),h6.trans g⟩
def CAt (bc:Nat) (f:Nat->Bool) (wr:World):Prop:=wr.heap[bc]?=some (.cells #[.bool (f 0),.bool (f 1),.bool (f 2),.bool (f 3)] 23)/\bc<wr.heap.size
theorem CAt.gr {wr wr':World} {bc:Nat} {f:Nat->Bool} (h:CAt bc f wr) (g:Gr wr wr'):CAt bc f wr':=⟨by rw [Below.block g _ h.2];exact h.1,Nat.lt_of_lt_of_le h.2 (Below.size g)⟩
theorem info4:(Tryz.prog.info? 23).map (·.size)=some 4:=by kernel_rfl
theorem qjb {A:Array Value} (hA:Ones A) (wh c0 c1 c2 c3:Bool) (b h f:Int):(posA A wh c0 c1 c2 c3 b h f).size=72/\(posA A wh c0 c1 c2 c3 b h f).all (·.oneCell')=true:=by
 unfold posA;refine ⟨by rw [Array.size_append,hA.1];rfl,?_⟩;rw [Array.all_append,hA.2];simp [Value.oneCell']
theorem read_six (s x0 x1 x2 x3 x4 x5:ByteArray) (hs:s.size<4294967281) (m:Int) (w:World) (hm:w.cell? ⟨4,0,none⟩=some (.int .i64 m)) (hz:4<w.heap.size) (hx:wordsS 32 7 s=[x0,x1,x2,x3,x4,x5]):Calls Tryz.prog 36 #[.string s] w fun e w'=>ReadEnd s e/\Gr w w':=by
 have hm':=hide hm;clear hm;have hszs:∀ x∈wordsS 32 7 s,x.size<=s.size:=fun x hx=>qqd _ _ _ _ hx
 rw [hx] at hszs;have z0:=hszs x0 (by simp);have z4:=hszs x4 (by simp);have z5:=hszs x5 (by simp);clear hszs;have hx':=hide hx;go_enter Tryz.func36,Tryz.ntmps36;go_wp2_with fail;refine (split_7 s hs m _ ?_).mono ?_
 ·rw [World.cell?_alloc_past _ _ _ hz];exact qa hm'
 rintro e w3 ⟨rfl,hw3⟩;have hg3:Gr w w3:=by rw [hw3];exact ((Gr.refl w).alloc _ _).alloc _ _
 have hs3:w.heap.size+2<=w3.heap.size:=by rw [hw3];exact Nat.le_of_eq (by rw [World.size_alloc,World.size_alloc])
 have hA0:Hid (w3.heap[w.heap.size]?=some (.cells Tryz.zeroCells25 25)):=hide (by rw [hw3];exact (heap2 w _ _).1);have hA1:Hid (w3.heap[w.heap.size+1]?=some (.cells (Lib.cellsOf [x0,x1,x2,x3,x4,x5] (min 7 (s.size+1))) 9)):=hide (by rw [hw3,<-hx];exact (heap2 w _ _).2);clear hw3;rw [hx];clear hx;generalize min 7 (s.size+1)=N at hA1 ⊢;have hc0:w3.cell? ⟨w.heap.size+1,0,none⟩=some (.string x0):=by rw [cell_of_row _ _ _ _ _ _ (qa hA1)];exact qxd _ N 0 (by simp)
 have hc2:w3.cell? ⟨4,0,none⟩=some (.int .i64 m):=(Below.cell hg3 (p:=⟨4,0,none⟩) hz).trans (qa hm');go_wp2_with fail;refine (board_any x0 (by omega) m _ hc2 (by omega)).mono ?_;rintro e w4 ⟨he,hg4⟩;obtain ⟨A,hOA,rfl,hAb⟩:=he.plain;clear he hc0 hc2;have hs4:w3.heap.size<=w4.heap.size:=Below.size hg4
 have hcs:∀ (j:Nat) (h:j<6),w4.cell? ⟨w.heap.size+1,j,none⟩=some (.string ([x0,x1,x2,x3,x4,x5][j])):=by
  intro j h;rw [Below.cell hg4 (p:=⟨w.heap.size+1,j,none⟩) (by show w.heap.size+1<w3.heap.size;omega),cell_of_row _ _ _ _ _ _ (qa hA1)];exact qxd _ N j (by simpa using h)
 have hr4:∀ o,Hid (RAt w [x0,x1,x2,x3,x4,x5] w4.heap.size A ((w4.alloc (.cells o 22)).setRow w4.heap.size A)):=fun o=>hide (by
  have hgg:Gr w4 ((w4.alloc (.cells o 22)).setRow w4.heap.size A):=((Gr.refl w4).alloc _ _).setRow _ (Nat.le_refl _) _;refine ⟨fun j hj=>?_,?_,setRow_heap _ _ _ _ _ _ (heap_alloc_new _ _),by omega,by rw [size_setRow,World.size_alloc];omega,(hg3.trans hg4).trans hgg⟩
  ·rw [Below.cell hgg (p:=⟨w.heap.size+1,j,none⟩) (by show w.heap.size+1<w4.heap.size;omega)];exact hcs j hj
  ·rw [Below.block hgg _ (by omega),Below.block hg4 _ (by omega)];exact qa hA0)
 have hAb':=hide hAb;have hOA':=hide hOA;clear hcs hA0 hA1 hg3 hg4 hAb hOA hs3;have hc1:∀ o,((w4.alloc (.cells o 22)).setRow w4.heap.size A).cell? ⟨w.heap.size+1,1,none⟩=some (.string x1):=fun o=>(qa (hr4 o)).1 1 (by simp)
 go_wp2_with (refine wpList_store_row rfl 22 _ _ rfl w4.heap.size A rfl rfl 22 _ (heap_alloc_new _ _) (by rw [(qa hOA').1];exact info64) (by rw [(qa hOA').1];rfl) (qa hOA').2 ?_);refine (side_any x1 _).mono ?_;rintro e w5 ⟨rfl,hw5⟩;have hr5:RAt w [x0,x1,x2,x3,x4,x5] w4.heap.size A w5:=by rw [hw5];exact qa (hr4 _)
 clear hw5 hc1 hr4;rw [(sideS_is x1).1];generalize w4.heap.size=bq at hr5 ⊢;have hc2:w5.cell? ⟨w.heap.size+1,2,none⟩=some (.string x2):=hr5.1 2 (by simp);have hr5':=hide hr5;clear hr5;go_wp2_with fail;refine (castle_any x2 _).mono ?_;rintro e w6 ⟨⟨f,rfl,hf⟩,hg6⟩;have hf':=hide hf;have hr6:∀ o,Hid (RAt w [x0,x1,x2,x3,x4,x5] bq A (w6.alloc (.cells o 23))):=fun o=>hide ((qa hr5').gr (Gr.alloc hg6 _ _))
 clear hc2 hr5' hg6 hf;have hc3:∀ o,(w6.alloc (.cells o 23)).cell? ⟨w.heap.size+1,3,none⟩=some (.string x3):=fun o=>(qa (hr6 o)).1 3 (by simp)
 go_wp2_with fail;refine (behind_any x3 _).mono ?_;rintro e w7 ⟨⟨b,rfl,hb⟩,hg7⟩;have hb':=hide hb;have hr7:=(qa (hr6 _)).gr hg7;have hq7:CAt w6.heap.size f w7:=CAt.gr ⟨heap_alloc_new _ _,by rw [World.size_alloc];omega⟩ hg7;clear hc3 hr6 hg7 hb;generalize w6.heap.size=bc at hq7 ⊢;have hc4:w7.cell? ⟨w.heap.size+1,4,none⟩=some (.string x4):=hr7.1 4 (by simp);have hr7':=hide hr7;have hq7':=hide hq7;clear hr7 hq7;go_wp2_with fail;refine (clock_any x4 (by unfold maxLen;omega) _).mono ?_;rintro e w8 ⟨⟨h,rfl,hh⟩,hw8⟩;have hh':=hide hh;have hr8:RAt w [x0,x1,x2,x3,x4,x5] bq A w8:=by rw [hw8];exact qa hr7'
 have hq8:CAt bc f w8:=by rw [hw8];exact qa hq7'
 have hc5:w8.cell? ⟨w.heap.size+1,5,none⟩=some (.string x5):=hr8.1 5 (by simp);have hr8':=hide hr8;have hq8':=hide hq8;clear hr8 hq8 hr7' hq7' hw8 hc4 hh;go_wp2_with fail;refine (clock_any x5 (by unfold maxLen;omega) _).mono ?_;rintro e w9 ⟨⟨g,rfl,hg⟩,hw9⟩;have hR:Hid (RAt w [x0,x1,x2,x3,x4,x5] bq A w9):=hide (by rw [hw9];exact qa hr8');have hq:Hid (CAt bc f w9):=hide (by rw [hw9];exact qa hq8');have hmade:=hide (made_of (qa hx') (qa hAb') (qa hf') (qa hb') (qa hh') hg);clear hr8' hq8' hw9 hc5 hg hx' hAb' hf' hb' hh';generalize (boardS x0).isSome=ok0 at hmade ⊢;generalize (x1.toList==[119])=wh at hmade ⊢;generalize (sideS x1).isSome=ok1 at hmade ⊢;generalize (castS x2.data.toList).isSome=ok2 at hmade ⊢;generalize (behS x3).isSome=ok3 at hmade ⊢;generalize (clkS x4.data.toList).isSome=ok4 at hmade ⊢;generalize (clkS x5.data.toList).isSome=ok5 at hmade ⊢;cases ok0
 ·have hend:=hide ((qa hmade).1 (by simp));clear hmade hq;go_wp2_with (refine wpList_store_row rfl 25 _ _ rfl w.heap.size Tryz.zeroCells25 rfl rfl 25 Tryz.zeroCells25 (qa hR).2.1 (by rw [zeroP];exact infoP) rfl zeroP_ones ?_);exact bodyPost_ret (v:=.tuple #[.agg Tryz.zeroCells25,.bool false]) (qe Tryz.results36 _ _ w.heap.size 25 _ (0,0) _ rfl (setRow_heap _ _ _ _ _ _ (qa hR).2.1) Tryz.underlying25 rfl (by rw [zeroP];exact infoP)) rfl ⟨qa hend,(qa hR).2.2.2.2.2.setRow _ (Nat.le_refl _) _⟩
 ·cases ok1
  ·have hend:=hide ((qa hmade).1 (by simp));clear hmade hq;go_wp2_with (refine wpList_store_row rfl 25 _ _ rfl w.heap.size Tryz.zeroCells25 rfl rfl 25 Tryz.zeroCells25 (qa hR).2.1 (by rw [zeroP];exact infoP) rfl zeroP_ones ?_);exact bodyPost_ret (v:=.tuple #[.agg Tryz.zeroCells25,.bool false]) (qe Tryz.results36 _ _ w.heap.size 25 _ (0,0) _ rfl (setRow_heap _ _ _ _ _ _ (qa hR).2.1) Tryz.underlying25 rfl (by rw [zeroP];exact infoP)) rfl ⟨qa hend,(qa hR).2.2.2.2.2.setRow _ (Nat.le_refl _) _⟩
  ·cases ok2
   ·have hend:=hide ((qa hmade).1 (by simp));clear hmade hq;go_wp2_with (refine wpList_store_row rfl 25 _ _ rfl w.heap.size Tryz.zeroCells25 rfl rfl 25 Tryz.zeroCells25 (qa hR).2.1 (by rw [zeroP];exact infoP) rfl zeroP_ones ?_);exact bodyPost_ret (v:=.tuple #[.agg Tryz.zeroCells25,.bool false]) (qe Tryz.results36 _ _ w.heap.size 25 _ (0,0) _ rfl (setRow_heap _ _ _ _ _ _ (qa hR).2.1) Tryz.underlying25 rfl (by rw [zeroP];exact infoP)) rfl ⟨qa hend,(qa hR).2.2.2.2.2.setRow _ (Nat.le_refl _) _⟩
   ·cases ok3
    ·have hend:=hide ((qa hmade).1 (by simp));clear hmade hq;go_wp2_with (refine wpList_store_row rfl 25 _ _ rfl w.heap.size Tryz.zeroCells25 rfl rfl 25 Tryz.zeroCells25 (qa hR).2.1 (by rw [zeroP];exact infoP) rfl zeroP_ones ?_);exact bodyPost_ret (v:=.tuple #[.agg Tryz.zeroCells25,.bool false]) (qe Tryz.results36 _ _ w.heap.size 25 _ (0,0) _ rfl (setRow_heap _ _ _ _ _ _ (qa hR).2.1) Tryz.underlying25 rfl (by rw [zeroP];exact infoP)) rfl ⟨qa hend,(qa hR).2.2.2.2.2.setRow _ (Nat.le_refl _) _⟩
    ·cases ok4
     ·have hend:=hide ((qa hmade).1 (by simp));clear hmade hq;go_wp2_with (refine wpList_store_row rfl 25 _ _ rfl w.heap.size Tryz.zeroCells25 rfl rfl 25 Tryz.zeroCells25 (qa hR).2.1 (by rw [zeroP];exact infoP) rfl zeroP_ones ?_);exact bodyPost_ret (v:=.tuple #[.agg Tryz.zeroCells25,.bool false]) (qe Tryz.results36 _ _ w.heap.size 25 _ (0,0) _ rfl (setRow_heap _ _ _ _ _ _ (qa hR).2.1) Tryz.underlying25 rfl (by rw [zeroP];exact infoP)) rfl ⟨qa hend,(qa hR).2.2.2.2.2.setRow _ (Nat.le_refl _) _⟩
     ·cases ok5
      ·have hend:=hide ((qa hmade).1 (by simp));clear hmade hq;go_wp2_with (refine wpList_store_row rfl 25 _ _ rfl w.heap.size Tryz.zeroCells25 rfl rfl 25 Tryz.zeroCells25 (qa hR).2.1 (by rw [zeroP];exact infoP) rfl zeroP_ones ?_);exact bodyPost_ret (v:=.tuple #[.agg Tryz.zeroCells25,.bool false]) (qe Tryz.results36 _ _ w.heap.size 25 _ (0,0) _ rfl (setRow_heap _ _ _ _ _ _ (qa hR).2.1) Tryz.underlying25 rfl (by rw [zeroP];exact infoP)) rfl ⟨qa hend,(qa hR).2.2.2.2.2.setRow _ (Nat.le_refl _) _⟩
      ·have hend:=hide ((qa hmade).2 rfl rfl rfl rfl rfl rfl);have hP:=hide (qjb (qa hOA') wh (f 0) (f 1) (f 2) (f 3) b h g);clear hmade;go_wp2_with (first|(refine wpList_load_row rfl 22 _ rfl bq rfl 22 A (0,0) _ (qa hR).2.2.1 Tryz.underlying22 rfl (by rw [(qa hOA').1];exact info64) ?_)|(refine wpList_load_row rfl 23 _ rfl bc rfl 23 #[.bool (f 0),.bool (f 1),.bool (f 2),.bool (f 3)] (0,0) _ (qa hq).1 Tryz.underlying23 rfl info4 ?_)|(refine jf rfl 25 #[(0,.tmp 88),(1,.tmp 89),(2,.tmp 90),(3,.tmp 91),(4,.tmp 92),(5,.tmp 93)] rfl (posA A wh (f 0) (f 1) (f 2) (f 3) b h g) ?_ ?_;focus (simp [Act.eval];exact built_pos A (qa hOA').1 wh (f 0) (f 1) (f 2) (f 3) b h g))|(refine wpList_store_row rfl 25 _ _ rfl w.heap.size (posA A wh (f 0) (f 1) (f 2) (f 3) b h g) rfl rfl 25 Tryz.zeroCells25 (qa hR).2.1 (by rw [(qa hP).1];exact infoP) (by rw [(qa hP).1,zeroP]) (qa hP).2 ?_));exact bodyPost_ret (v:=.tuple #[.agg (posA A wh (f 0) (f 1) (f 2) (f 3) b h g),.bool true]) (qe Tryz.results36 _ _ w.heap.size 25 _ (0,0) _ rfl (setRow_heap _ _ _ _ _ _ (qa hR).2.1) Tryz.underlying25 rfl (by rw [(qa hP).1];exact infoP)) rfl ⟨qa hend,(qa hR).2.2.2.2.2.setRow _ (Nat.le_refl _) _⟩
theorem read_any (s:ByteArray) (hs:s.size<4294967281) (m:Int) (w:World) (hm:w.cell? ⟨4,0,none⟩=some (.int .i64 m)) (hz:4<w.heap.size):Calls Tryz.prog 36 #[.string s] w fun e w'=>ReadEnd s e/\Gr w w':=by
 by_cases h8:(wordsS 32 7 s).length=6
 ·match hx:wordsS 32 7 s,h8 with
  | [x0,x1,x2,x3,x4,x5],_=>exact read_six s x0 x1 x2 x3 x4 x5 hs m w hm hz hx
 ·exact read_few s hs m w hm hz h8
theorem ret_str {a b:ByteArray} (h:a=b):Ending.returned (.string a)=.returned (.string b):=by rw [h]
theorem wside_any (b:Bool) (w:World):Calls Tryz.prog 81 #[.bool b] w fun e w'=>e=.returned (.string ⟨#[if b then 119 else 98]⟩)/\w'=w:=by
 cases b
 ·go_enter Tryz.func81,Tryz.ntmps81;go_wp2;go_ret;exact ⟨rfl,rfl⟩
 ·go_enter Tryz.func81,Tryz.ntmps81;go_wp2;go_ret;exact ⟨rfl,rfl⟩
theorem zy (w:World) (a:Addr) (cap:Nat) (l:List UInt8) (hc:∀ i (h:i<l.length),w.cell? (a.add i)=some (.int .u8 ((l[i]).toNat:Int))) :
  (convert 101 9 (.slice (some a) l.length cap)).run Tryz.prog w=.ok (.string ⟨l.toArray⟩) w :=
 run_convert_bytes_back w 101 9 5 a cap l Tryz.underlying101 Tryz.underlying5 Tryz.underlying9 hc
def nameS (n:Nat):List UInt8:=[UInt8.ofNat (97+n%8),UInt8.ofNat (49+n/8)]
theorem name_any (n:Nat) (h:n<64) (w:World):Calls Tryz.prog 151 #[.int .i64 n] w fun e w'=>e=.returned (.string ⟨(nameS n).toArray⟩)/\Gr w w':=by
 have e1:((UInt8.ofNat (97+n%8)).toNat:Int)=97+(n:Int)%8:=by simp;omega
 have e2:((UInt8.ofNat (49+n/8)).toNat:Int)=49+(n:Int)/8:=by simp;omega
 have hcv:=zy (w.alloc (.cells #[.int .u8 (97+(n:Int)%8),.int .u8 (49+(n:Int)/8)] 5)) ⟨w.heap.size,0,none⟩ 2 (nameS n) (by
  intro i hi;rw [Addr.add_lit,Nat.zero_add,World.cell?_alloc_at _ _ _ _ rfl];have:i=0\/i=1:=by simp [nameS] at hi;omega
  rcases this with rfl|rfl
  ·show some (Value.int .u8 (97+(n:Int)%8))=some (.int .u8 ((UInt8.ofNat (97+n%8)).toNat:Int));rw [e1]
  ·show some (Value.int .u8 (49+(n:Int)/8))=some (.int .u8 ((UInt8.ofNat (49+n/8)).toNat:Int));rw [e2])
 have hcv':(convert 101 9 (.slice (some ⟨w.heap.size,0,none⟩) 2 2)).run Tryz.prog (w.alloc (.cells #[.int .u8 (97+(n:Int)%8),.int .u8 (49+(n:Int)/8)] 5))=.ok (.string ⟨(nameS n).toArray⟩) (w.alloc (.cells #[.int .u8 (97+(n:Int)%8),.int .u8 (49+(n:Int)/8)] 5)):=hcv;clear hcv e1 e2;go_enter Tryz.func151,Tryz.ntmps151;go_wp2;go_ret;exact ⟨rfl,(Gr.refl _).alloc _ _⟩
def wbehS (n:Int):List UInt8:=if n=-1 then [45] else nameS n.toNat
theorem wbehind_any (n:Int) (h:n=-1\/(0<=n/\n<64)) (w:World):Calls Tryz.prog 83 #[.int .i64 n] w fun e w'=>e=.returned (.string ⟨(wbehS n).toArray⟩)/\Gr w w':=by
 by_cases h1:n=-1
 ·subst h1;go_enter Tryz.func83,Tryz.ntmps83;go_wp2;go_ret;exact ⟨rfl,Gr.refl _⟩
 ·obtain ⟨k,rfl⟩:=Int.eq_ofNat_of_zero_le (show 0<=n by omega);have hk:k<64:=by omega
  have e:wbehS (k:Int)=nameS k:=by unfold wbehS;rw [if_neg h1];simp
  have hne:((k:Int)==-1)=false:=by simp
  rw [e];clear h1 h e;go_enter Tryz.func83,Tryz.ntmps83;go_wp2_with (go_at_call 151;refine (name_any k hk _).mono ?_;rintro e w' ⟨rfl,hg⟩);go_ret;exact ⟨rfl,hg⟩
def wcS (f:Nat->Bool):Nat->List UInt8
 | 0=>[]
 | i+1=>wcS f i++(if f i then [clc i] else [])
def wcastS (f:Nat->Bool):List UInt8:=if (wcS f 4).isEmpty then [45] else wcS f 4
theorem xq (f:Nat->Bool) (i:Nat):wcS f (i+1)=wcS f i++(if f i then [clc i] else []):=rfl
theorem bytes_app (a b:ByteArray):(a++b).data.toList=a.data.toList++b.data.toList:=by simp
theorem wcastle_any (f:Nat->Bool) (w:World):Calls Tryz.prog 82 #[.agg #[.bool (f 0),.bool (f 1),.bool (f 2),.bool (f 3)]] w fun e w'=>e=.returned (.string ⟨(wcastS f).toArray⟩)/\Gr w w':=by
 obtain ⟨b0,hb0⟩:∃ b,Hid (f 0=b):=⟨_,rfl⟩;obtain ⟨b1,hb1⟩:∃ b,Hid (f 1=b):=⟨_,rfl⟩;obtain ⟨b2,hb2⟩:∃ b,Hid (f 2=b):=⟨_,rfl⟩;obtain ⟨b3,hb3⟩:∃ b,Hid (f 3=b):=⟨_,rfl⟩;rw [qa hb0,qa hb1,qa hb2,qa hb3];have i0:∀ w,(Instr.index 23 (.agg #[.bool b0,.bool b1,.bool b2,.bool b3]) (.int .i64 0)).run Tryz.prog w=.ok (.bool b0) w:=fun _=>by kernel_rfl
 have i1:∀ w,(Instr.index 23 (.agg #[.bool b0,.bool b1,.bool b2,.bool b3]) (.int .i64 1)).run Tryz.prog w=.ok (.bool b1) w:=fun _=>by kernel_rfl
 have i2:∀ w,(Instr.index 23 (.agg #[.bool b0,.bool b1,.bool b2,.bool b3]) (.int .i64 2)).run Tryz.prog w=.ok (.bool b2) w:=fun _=>by kernel_rfl
 have i3:∀ w,(Instr.index 23 (.agg #[.bool b0,.bool b1,.bool b2,.bool b3]) (.int .i64 3)).run Tryz.prog w=.ok (.bool b3) w:=fun _=>by kernel_rfl
 go_enter Tryz.func82,Tryz.ntmps82;go_wp2;go_loopg [3,7] 4 (fun g t n wr=>∃ i:Nat,i+g=4/\n=.int .i64 i/\(∃ q:ByteArray,t=.string q/\q.data.toList=wcS f i/\q.size<=i)/\wr=w.alloc (.cells #[.bool b0,.bool b1,.bool b2,.bool b3] 23))
 case atStart=>exact ⟨0,rfl,rfl,⟨_,rfl,rfl,Nat.le_refl _⟩,rfl⟩
 case round =>
  obtain ⟨i,k1,rfl,⟨q,rfl,hq0,hqs⟩,rfl⟩:=hrel;have hq:=hide hq0;clear hq0;by_cases hlt:i<4
  ·have hi:i=0\/i=1\/i=2\/i=3:=by omega
   rcases hi with rfl|rfl|rfl|rfl
   ·cases b0
    ·have hst:Hid (wcS f 1=wcS f 0):=hide (by rw [xq,qa hb0];simp);go_wp2;go_roundg (gk-1)
     case measure=>omega
     case rel=>exact ⟨1,by omega,rfl,⟨q,rfl,by rw [qa hst];exact qa hq,by omega⟩,rfl⟩
    ·have hst:Hid (wcS f 1=wcS f 0++[clc 0]):=hide (by rw [xq,qa hb0];simp);go_wp2;go_roundg (gk-1)
     case measure=>omega
     case rel =>
      refine ⟨1,by omega,rfl,⟨_,rfl,?_,?_⟩,rfl⟩
      ·rw [qa hst,bytes_app,qa hq];rfl
      ·rw [ByteArray.size_append];have:(ByteArray.extract ⟨#[75,81,107,113]⟩ 0 1).size=1:=rfl;omega
   ·cases b1
    ·have hst:Hid (wcS f 2=wcS f 1):=hide (by rw [xq,qa hb1];simp);go_wp2;go_roundg (gk-1)
     case measure=>omega
     case rel=>exact ⟨2,by omega,rfl,⟨q,rfl,by rw [qa hst];exact qa hq,by omega⟩,rfl⟩
    ·have hst:Hid (wcS f 2=wcS f 1++[clc 1]):=hide (by rw [xq,qa hb1];simp);go_wp2;go_roundg (gk-1)
     case measure=>omega
     case rel =>
      refine ⟨2,by omega,rfl,⟨_,rfl,?_,?_⟩,rfl⟩
      ·rw [qa hst,bytes_app,qa hq];rfl
      ·rw [ByteArray.size_append];have:(ByteArray.extract ⟨#[75,81,107,113]⟩ 1 2).size=1:=rfl;omega
   ·cases b2
    ·have hst:Hid (wcS f 3=wcS f 2):=hide (by rw [xq,qa hb2];simp);go_wp2;go_roundg (gk-1)
     case measure=>omega
     case rel=>exact ⟨3,by omega,rfl,⟨q,rfl,by rw [qa hst];exact qa hq,by omega⟩,rfl⟩
    ·have hst:Hid (wcS f 3=wcS f 2++[clc 2]):=hide (by rw [xq,qa hb2];simp);go_wp2;go_roundg (gk-1)
     case measure=>omega
     case rel =>
      refine ⟨3,by omega,rfl,⟨_,rfl,?_,?_⟩,rfl⟩
      ·rw [qa hst,bytes_app,qa hq];rfl
      ·rw [ByteArray.size_append];have:(ByteArray.extract ⟨#[75,81,107,113]⟩ 2 3).size=1:=rfl;omega
   ·cases b3
    ·have hst:Hid (wcS f 4=wcS f 3):=hide (by rw [xq,qa hb3];simp);go_wp2;go_roundg (gk-1)
     case measure=>omega
     case rel=>exact ⟨4,by omega,rfl,⟨q,rfl,by rw [qa hst];exact qa hq,by omega⟩,rfl⟩
    ·have hst:Hid (wcS f 4=wcS f 3++[clc 3]):=hide (by rw [xq,qa hb3];simp);go_wp2;go_roundg (gk-1)
     case measure=>omega
     case rel =>
      refine ⟨4,by omega,rfl,⟨_,rfl,?_,?_⟩,rfl⟩
      ·rw [qa hst,bytes_app,qa hq];rfl
      ·rw [ByteArray.size_append];have:(ByteArray.extract ⟨#[75,81,107,113]⟩ 3 4).size=1:=rfl;omega
  ·have ei:i=4:=by omega
   subst ei;have hem:q.toList.isEmpty=(wcS f 4).isEmpty:=by rw [Lib.toList_data,qa hq]
   cases hb:(wcS f 4).isEmpty
   ·rw [hb] at hem
    have hqq:Hid (q=⟨(wcastS f).toArray⟩):=hide (by
     unfold wcastS;rw [hb];have:=qa hq;cases q with|mk d=>simp at this ⊢;rw [<-this])
    clear hb;go_wp2;go_ret;exact ⟨ret_str (qa hqq),(Gr.refl _).alloc _ _⟩
   ·rw [hb] at hem;have hqq:Hid (wcastS f=[45]):=hide (by unfold wcastS;rw [hb];rfl);clear hb;go_wp2;go_ret;exact ⟨ret_str (by rw [qa hqq]),(Gr.refl _).alloc _ _⟩
end Go.Proofs.YtnfakamfmkhlbaaGreatDoor.C
