import Derived.Test.YtnfakamfmkhlbabGreatDoorUm3
import Derived.Laws.IdiomStrings
import Derived.Maps.AppendAt
import Derived.Deep.RegionHeld3
import Derived.Deep.MidRow
import Derived.Test.YtnfakamfmkhlbabGreatDoorUm1
import Derived.Test.YtnfakamfmkhlbabGreatDoorTz
import Derived.RangeFuncNested
import Derived.RangeFuncBound
import Derived.RangeFuncCalls
import Derived.RangeFuncLeaves
import Derived.Shelf.Abstract
import Derived.Shelf.RegionOpen
import Derived.OwnWalkIn
import Derived.TacticsInMore
import Derived.LoopNIn
import Derived.LoopIn
import Derived.Stop.RegionWithIn
set_option maxRecDepth 100000
set_option maxHeartbeats 4000000
set_option linter.unusedSimpArgs false
namespace Go.Proofs.YtnfakamfmkhlbabGreatDoor.C
open Go.ChangeShapes Go.WideShapes Go.ChangeAt Go.RowKit Go.Shelf Go.Proofs.YtnfakamfmkhlbabGreatDoor.P
section
attribute [local go_sem] qd qe
theorem gX(off:Nat):∀(l:List Value)(k:Nat)(cells:Array Value),
  ((l.zipIdx k).foldl (fun cs (p:Value × Nat)=>cs.setIfInBounds (off+p.2) p.1) cells).size=cells.size ∧
  ∀i,off+k+l.length<=cells.size->((l.zipIdx k).foldl (fun cs (p:Value × Nat)=>cs.setIfInBounds (off+p.2) p.1) cells)[i]?=if off+k<=i/\i<off+k+l.length then l[i-(off+k)]? else cells[i]?
 | [],k,cells=>⟨rfl,fun i _=>by simp;omega⟩
 | v :: l,k,cells=>by
   obtain⟨h1,h2⟩:=gX off l (k+1) (cells.setIfInBounds (off+k) v);rw[List.zipIdx_cons,List.foldl_cons];refine⟨by rw[h1];simp,fun i hi=>?_⟩;rw[h2 i (by simp at hi ⊢;omega)];by_cases e:i=off+k
   ·subst e;rw[qF (by omega),qI ⟨by omega,by simp⟩,Array.getElem?_setIfInBounds,qI rfl,qI (by simp at hi;omega)];simp
   ·by_cases g:off+k<=i/\i<off+k+(v :: l).length
    ·rw[qI (by simp at g ⊢;omega),qI g,show i-(off+k)=(i-(off+(k+1)))+1 from by omega];simp
    ·rw[qF (by simp at g ⊢;omega),qF g,Array.getElem?_setIfInBounds,qF (by omega)]
def put(off:Nat)(v cells:Array Value):Array Value:=v.zipIdx.foldl (fun cs (p:Value × Nat)=>cs.setIfInBounds (off+p.2) p.1) cells
theorem zo(off:Nat)(v cells:Array Value):(put off v cells).size=cells.size/\∀i,off+v.size<=cells.size->(put off v cells)[i]?=if off<=i/\i<off+v.size then v[i-off]? else cells[i]?:=by
 have h:=gX off v.toList 0 cells
 have e:put off v cells=(v.toList.zipIdx 0).foldl (fun cs (p:Value × Nat)=>cs.setIfInBounds (off+p.2) p.1) cells:=by
  unfold put;rw[<-Array.foldl_toList,Array.toList_zipIdx]
 rw[e];refine⟨h.1,fun i hi=>?_⟩;rw[h.2 i (by simpa using hi)];simp
theorem xv(place:Nat->Option (Nat × Nat))(cells:Array Value)(i off size:Nat)(v:Value)(rest:List (Nat × Value))(hp:place i=some (off,size))(hv:v.cells.size=size)(hb:off+size<=cells.size) :
  Instr.fill place cells ((i,v) :: rest)=Instr.fill place (put off v.cells cells) rest:=by
 conv=>lhs;unfold Instr.fill
 rw[hp];simp only[hv];rw[qF (by simp;omega)];rfl
theorem wD(parts:List (Nat × Value)):Tryz.prog.built 70 parts=Instr.fill (fun i=>(#[(0,64),(64,1),(65,4),(69,1),(70,1),(71,1)]:Array (Nat × Nat))[i]?) Tryz.zeroCells70 parts:=by kernel_rfl
theorem xF:Tryz.zeroCells70.size=72:=by kernel_rfl
def kU(A:Array Value)(wh c0 c1 c2 c3:Bool)(b h f:Int):Array Value:=A++#[.bool wh,.bool c0,.bool c1,.bool c2,.bool c3,.int .i64 b,.int .i64 h,.int .i64 f]
theorem gj(A:Array Value)(hA:A.size=64)(wh c0 c1 c2 c3:Bool)(b h f:Int) :
  Tryz.prog.built 70 [(0,.agg A),(1,.bool wh),(2,.agg #[.bool c0,.bool c1,.bool c2,.bool c3]),(3,.int .i64 b),(4,.int .i64 h),(5,.int .i64 f)]=some (kU A wh c0 c1 c2 c3 b h f):=by
 rw[wD];have p0:=zo 0 A Tryz.zeroCells70;have p1:=zo 64 #[.bool wh] (put 0 A Tryz.zeroCells70);have p2:=zo 65 #[.bool c0,.bool c1,.bool c2,.bool c3] (put 64 #[.bool wh] (put 0 A Tryz.zeroCells70));have p3:=zo 69 #[.int .i64 b] (put 65 #[.bool c0,.bool c1,.bool c2,.bool c3] (put 64 #[.bool wh] (put 0 A Tryz.zeroCells70)));have p4:=zo 70 #[.int .i64 h] (put 69 #[.int .i64 b] (put 65 #[.bool c0,.bool c1,.bool c2,.bool c3] (put 64 #[.bool wh] (put 0 A Tryz.zeroCells70))));have p5:=zo 71 #[.int .i64 f] (put 70 #[.int .i64 h] (put 69 #[.int .i64 b] (put 65 #[.bool c0,.bool c1,.bool c2,.bool c3] (put 64 #[.bool wh] (put 0 A Tryz.zeroCells70)))));have z:=xF
 rw[xv _ _ 0 0 64 _ _ rfl (by simpa[Value.cells]using hA) (by omega),
  xv _ _ 1 64 1 _ _ rfl rfl (by simp only[Value.cells];omega),xv _ _ 2 65 4 _ _ rfl rfl (by simp only[Value.cells];omega),
  xv _ _ 3 69 1 _ _ rfl rfl (by simp only[Value.cells];omega),xv _ _ 4 70 1 _ _ rfl rfl (by simp only[Value.cells];omega),xv _ _ 5 71 1 _ _ rfl rfl (by simp only[Value.cells];omega)]
 simp only[Instr.fill,Value.cells,Option.some.injEq];apply Array.ext_getElem?;intro i;rw[p5.2 i (by simp;omega),p4.2 i (by simp;omega),p3.2 i (by simp;omega),p2.2 i (by simp;omega),p1.2 i (by simp;omega),p0.2 i (by omega)];unfold kU;rw[Array.getElem?_append,hA];by_cases h0:i<64
 ·rw[qF (by omega),qF (by omega),qF (by omega),qF (by omega),qF (by omega),qI ⟨by omega,by omega⟩,qI h0];simp
 ·by_cases h8:i<72
  ·have:i=64\/i=65\/i=66\/i=67\/i=68\/i=69\/i=70\/i=71:=by omega
   rcases this with rfl|rfl|rfl|rfl|rfl|rfl|rfl|rfl<;>simp
  ·rw[qF h0,qF (by simp;omega),qF (by simp;omega),qF (by simp;omega),qF (by simp;omega),qF (by simp;omega),qF (by omega),Array.getElem?_eq_none (by omega),Array.getElem?_eq_none (by simp;omega)]
theorem qqq{P:Program}{ops:Array Oper}{rest:List Oper}{o:Oper}{a:Act}{w:World}{Q:Exit->Act->World->Prop}(hg:o.guard=none)(t:TypeId)(parts:Array (Nat × Operand))(ho:o.op=.build t parts)(cells:Array Value)
  (hf:P.built t (parts.map fun(i,x)=>(i,a.eval x)).toList=some cells)
  (h:wpList P ops Q rest (a.put o.dst (.agg cells)) w):wpList P ops Q (o :: rest) a w :=
 wpList_build hg t parts ho (by rw[hf];rfl) (by rw[hf];exact h)
theorem iZ(s:ByteArray)(hs:s.size<4294967281)(m:Int)(w:World)(hm:w.cell? ⟨4,0,none⟩=some (.int .i64 m)) :
  Calls Tryz.prog 136 #[.string s,.string ⟨#[32]⟩,.int .i64 7] w fun e w'=>e=.returned (.slice (some ⟨w.heap.size,0,none⟩) (xL 32 7 s).length (min 7 (s.size+1)))/\w'=w.alloc (.cells (Lib.cellsOf (xL 32 7 s) (min 7 (s.size+1))) 9) :=
 Tryz.strings_SplitN s ⟨#[32]⟩ 7 m w hs hm (by decide) (by omega) (by omega)
structure pH where
 board:List Int
 white:Bool
 castle:Nat->Bool
 behind:Int
 half:Int
 full:Int
def jV(p:pH):Array Value:=kU (p.board.map (Value.int .u8)).toArray p.white (p.castle 0) (p.castle 1) (p.castle 2) (p.castle 3) p.behind p.half p.full
def kO(s:ByteArray):Option Bool:=if s.toList=[119]then some true else if s.toList=[98]then some false else none
def Ac(x0 x1 x2 x3 x4 x5:ByteArray):Option pH :=
 match j7 x0,kO x1,vS x2.data.toList,v8 x3,vR x4.data.toList,vR x5.data.toList with
 | some b,some w,some c,some e,some h,some f=>some ⟨b,w,c,e,h,f⟩
 | _,_,_,_,_,_=>none
def xG(s:ByteArray):Option pH :=
 match xL 32 7 s with
 | [x0,x1,x2,x3,x4,x5]=>Ac x0 x1 x2 x3 x4 x5
 | _=>none
def kS(s:ByteArray)(e:Ending):Prop :=
 (∃p,xG s=some p/\p.board.length=64/\e=.returned (.tuple #[.agg (jV p),.bool true]))\/(xG s=none/\e=.returned (.tuple #[.agg Tryz.zeroCells70,.bool false]))
theorem xH:Tryz.zeroCells70.all (·.oneCell')=true:=by decide +kernel
theorem q9:(Tryz.prog.info? 70).map (·.size)=some 72:=by kernel_rfl
theorem s6(w:World)(a b:Obj):((w.alloc a).alloc b).heap[w.heap.size]?=some a/\((w.alloc a).alloc b).heap[w.heap.size+1]?=some b:=⟨heap_alloc2_old w a b,heap_alloc2_new w a b⟩
theorem rX(s:ByteArray)(hs:s.size<4294967281)(m:Int)(w:World)(hm:w.cell? ⟨4,0,none⟩=some (.int .i64 m))(hz:4<w.heap.size)(h8:(xL 32 7 s).length≠6):Calls Tryz.prog 62 #[.string s] w fun e w'=>kS s e/\Gr w w':=by
 have hm':=qC hm;clear hm;have hne:(((xL 32 7 s).length:Int)==6)=false:=by simp;omega
 have hend:Hid (kS s (.returned (.tuple #[.agg Tryz.zeroCells70,.bool false]))):=qC (.inr ⟨by
  unfold xG;split
  ·rename_i h;rw[h]at h8;simp at h8
  ·rfl,rfl⟩)
 clear h8;go_enter Tryz.func62,Tryz.ntmps62;go_wp2_with fail;refine(iZ s hs m _ ?_).mono ?_
 ·rw[World.cell?_alloc_past _ _ _ hz];exact qa hm'
 rintro e w3 ⟨rfl,hw3⟩;have hg3:Gr w w3:=by rw[hw3];exact((Gr.refl w).alloc _ _).alloc _ _
 have hA0:Hid (w3.heap[w.heap.size]?=some (.cells Tryz.zeroCells70 70)):=qC (by rw[hw3];exact(s6 w _ _).1);clear hw3;go_wp2_with(refine wpList_store_row rfl 70 _ _ rfl w.heap.size Tryz.zeroCells70 rfl rfl 70 Tryz.zeroCells70 (qa hA0) (by rw[xF];exact q9) rfl xH ?_);exact bodyPost_ret (v:=.tuple #[.agg Tryz.zeroCells70,.bool false]) (qj Tryz.results62 _ _ w.heap.size 70 _ (0,0) _ rfl (setRow_heap _ _ _ _ _ _ (qa hA0)) Tryz.underlying70 rfl (by rw[xF];exact q9)) rfl ⟨qa hend,hg3.setRow _ (qL _) _⟩
theorem vm.plain{s:ByteArray}{e:Ending}(h:vm s e):∃A:Array Value,iL A/\e=.returned (.tuple #[.agg A,.bool (j7 s).isSome])/\∀b,j7 s=some b->b.length=64/\A=(b.map (Value.int .u8)).toArray:=by
 rcases h with⟨b,h1,h2,rfl⟩|⟨h1,A,hA,rfl⟩
 ·refine⟨(b.map (Value.int .u8)).toArray,⟨by simpa using h2,?_⟩,by rw[h1];rfl,fun b' hb=>by rw[h1]at hb;simp at hb;subst hb;exact⟨h2,rfl⟩⟩;rw[List.all_toArray,qW];intro v hv;obtain⟨z,_,rfl⟩:=List.mem_map.mp hv;rfl
 ·exact⟨A,hA,by rw[h1];rfl,fun b hb=>by rw[h1]at hb;exact absurd hb (by simp)⟩
theorem Fu(s:ByteArray):(s.toList==[119]||s.toList==[98])=(kO s).isSome/\∀b,kO s=some b->(s.toList==[119])=b:=by
 unfold kO;by_cases h1:s.toList=[119]
 ·simp[h1]
 ·by_cases h2:s.toList=[98]
  ·simp[h2]
  ·simp[h1,h2]
theorem jr{x0 x1 x2 x3 x4 x5:ByteArray}(h:(j7 x0).isSome=false\/(kO x1).isSome=false\/(vS x2.data.toList).isSome=false\/(v8 x3).isSome=false\/(vR x4.data.toList).isSome=false\/(vR x5.data.toList).isSome=false):Ac x0 x1 x2 x3 x4 x5=none:=by
 unfold Ac;cases h0:j7 x0<;>cases h1:kO x1<;>cases h2:vS x2.data.toList<;>cases h3:v8 x3<;>cases h4:vR x4.data.toList<;>cases h5:vR x5.data.toList<;>first|rfl|(rw[h0,h1,h2,h3,h4,h5]at h;simp at h)
def Made(s:ByteArray)(A:Array Value)(ok0:Bool)(wh ok1:Bool)(f:Nat->Bool)(ok2:Bool)(b:Int)(ok3:Bool)(h:Int)(ok4:Bool)(g:Int)(ok5:Bool):Prop :=
 ((ok0=false\/ok1=false\/ok2=false\/ok3=false\/ok4=false\/ok5=false)->kS s (.returned (.tuple #[.agg Tryz.zeroCells70,.bool false]))) ∧
 (ok0=true->ok1=true->ok2=true->ok3=true->ok4=true->ok5=true->kS s (.returned (.tuple #[.agg (kU A wh (f 0) (f 1) (f 2) (f 3) b h g),.bool true])))
theorem BV{s x0 x1 x2 x3 x4 x5:ByteArray}(hx:xL 32 7 s=[x0,x1,x2,x3,x4,x5]){A:Array Value}(hA:∀b,j7 x0=some b->b.length=64/\A=(b.map (Value.int .u8)).toArray)
  {f:Nat->Bool} (hf:∀g,vS x2.data.toList=some g->f=g) {b:Int} (hb:∀n,v8 x3=some n->b=n) {h:Int} (hh:∀n,vR x4.data.toList=some n->h=(n:Int)) {g:Int} (hg:∀n,vR x5.data.toList=some n->g=(n:Int)) :
  Made s A (j7 x0).isSome (x1.toList==[119]) (kO x1).isSome f (vS x2.data.toList).isSome b (v8 x3).isSome h (vR x4.data.toList).isSome g (vR x5.data.toList).isSome:=by
 have hr:xG s=Ac x0 x1 x2 x3 x4 x5:=by unfold xG;rw[hx]
 refine⟨fun hn=>.inr ⟨by rw[hr];exact jr hn,rfl⟩,?_⟩;intro k0 k1 k2 k3 k4 k5;obtain⟨b0,e0⟩:=Option.isSome_iff_exists.mp k0;obtain⟨b1,e1⟩:=Option.isSome_iff_exists.mp k1;obtain⟨b2,e2⟩:=Option.isSome_iff_exists.mp k2;obtain⟨b3,e3⟩:=Option.isSome_iff_exists.mp k3;obtain⟨b4,e4⟩:=Option.isSome_iff_exists.mp k4;obtain⟨b5,e5⟩:=Option.isSome_iff_exists.mp k5;refine .inl ⟨⟨b0,b1,b2,b3,b4,b5⟩,?_,(hA b0 e0).1,?_⟩
 ·rw[hr];unfold Ac;rw[e0,e1,e2,e3,e4,e5]
 ·rw[(hA b0 e0).2,(Fu x1).2 b1 e1,hf b2 e2,hb b3 e3,hh b4 e4,hg b5 e5];rfl
def DP(w:World)(xs:List ByteArray)(bq:Nat)(A:Array Value)(wr:World):Prop :=
 (∀(j:Nat)(h:j<xs.length),wr.cell? ⟨w.heap.size+1,j,none⟩=some (.string xs[j]))/\wr.heap[w.heap.size]?=some (.cells Tryz.zeroCells70 70)/\wr.heap[bq]?=some (.cells A 67)/\w.heap.size+1<bq/\bq<wr.heap.size/\Gr w wr
theorem DP.gr{w wr wr':World}{xs:List ByteArray}{bq:Nat}{A:Array Value}(h:DP w xs bq A wr)(g:Gr wr wr'):DP w xs bq A wr':=by
 obtain⟨h1,h2,h3,h4,h5,h6⟩:=h
 exact⟨fun j hj=>by rw[Below.cell g (p:=⟨w.heap.size+1,j,none⟩) (by show w.heap.size+1<wr.heap.size;omega)];exact h1 j hj,
  by rw[Below.block g _ (by omega)];exact h2,by rw[Below.block g _ h5];exact h3,h4,qN h5 (Below.size g),h6.trans g⟩
def E3(bc:Nat)(f:Nat->Bool)(wr:World):Prop:=wr.heap[bc]?=some (.cells #[.bool (f 0),.bool (f 1),.bool (f 2),.bool (f 3)] 68)/\bc<wr.heap.size
theorem E3.gr{wr wr':World}{bc:Nat}{f:Nat->Bool}(h:E3 bc f wr)(g:Gr wr wr'):E3 bc f wr':=⟨by rw[Below.block g _ h.2];exact h.1,qN h.2 (Below.size g)⟩
theorem G3:(Tryz.prog.info? 68).map (·.size)=some 4:=by kernel_rfl
theorem qzd{A:Array Value}(hA:iL A)(wh c0 c1 c2 c3:Bool)(b h f:Int):(kU A wh c0 c1 c2 c3 b h f).size=72/\(kU A wh c0 c1 c2 c3 b h f).all (·.oneCell')=true:=by
 unfold kU;refine⟨by rw[Array.size_append,hA.1];rfl,?_⟩;rw[Array.all_append,hA.2];simp[Value.oneCell']
theorem rU(s x0 x1 x2 x3 x4 x5:ByteArray)(hs:s.size<4294967281)(m:Int)(w:World)(hm:w.cell? ⟨4,0,none⟩=some (.int .i64 m))(hz:4<w.heap.size)(hx:xL 32 7 s=[x0,x1,x2,x3,x4,x5]):Calls Tryz.prog 62 #[.string s] w fun e w'=>kS s e/\Gr w w':=by
 have hm':=qC hm;clear hm;have hszs:∀x∈xL 32 7 s,x.size<=s.size:=fun x hx=>zc _ _ _ _ hx
 rw[hx]at hszs;have z0:=hszs x0 (by simp);have z4:=hszs x4 (by simp);have z5:=hszs x5 (by simp);clear hszs;have hx':=qC hx;go_enter Tryz.func62,Tryz.ntmps62;go_wp2_with fail;refine(iZ s hs m _ ?_).mono ?_
 ·rw[World.cell?_alloc_past _ _ _ hz];exact qa hm'
 rintro e w3 ⟨rfl,hw3⟩;have hg3:Gr w w3:=by rw[hw3];exact((Gr.refl w).alloc _ _).alloc _ _
 have hs3:w.heap.size+2<=w3.heap.size:=by rw[hw3];exact Nat.le_of_eq (by rw[World.size_alloc,World.size_alloc])
 have hA0:Hid (w3.heap[w.heap.size]?=some (.cells Tryz.zeroCells70 70)):=qC (by rw[hw3];exact(s6 w _ _).1);have hA1:Hid (w3.heap[w.heap.size+1]?=some (.cells (Lib.cellsOf [x0,x1,x2,x3,x4,x5] (min 7 (s.size+1))) 9)):=qC (by rw[hw3,<-hx];exact(s6 w _ _).2);clear hw3;rw[hx];clear hx;generalize min 7 (s.size+1)=N at hA1 ⊢;have hc0:w3.cell? ⟨w.heap.size+1,0,none⟩=some (.string x0):=by rw[cell_of_row _ _ _ _ _ _ (qa hA1)];exact qjn _ N 0 (by simp)
 have hc2:w3.cell? ⟨4,0,none⟩=some (.int .i64 m):=(Below.cell hg3 (p:=⟨4,0,none⟩) hz).trans (qa hm');go_wp2_with fail;refine(nQ x0 (by omega) m _ hc2 (by omega)).mono ?_;rintro e w4 ⟨he,hg4⟩;obtain⟨A,hOA,rfl,hAb⟩:=he.plain;clear he hc0 hc2;have hs4:w3.heap.size<=w4.heap.size:=Below.size hg4
 have hcs:∀(j:Nat)(h:j<6),w4.cell? ⟨w.heap.size+1,j,none⟩=some (.string ([x0,x1,x2,x3,x4,x5][j])):=by
  intro j h;rw[Below.cell hg4 (p:=⟨w.heap.size+1,j,none⟩) (by show w.heap.size+1<w3.heap.size;omega),cell_of_row _ _ _ _ _ _ (qa hA1)];exact qjn _ N j (by simpa using h)
 have hr4:∀o,Hid (DP w [x0,x1,x2,x3,x4,x5] w4.heap.size A ((w4.alloc (.cells o 67)).setRow w4.heap.size A)):=fun o=>qC (by
  have hgg:Gr w4 ((w4.alloc (.cells o 67)).setRow w4.heap.size A):=((Gr.refl w4).alloc _ _).setRow _ (qL _) _;refine⟨fun j hj=>?_,?_,setRow_heap _ _ _ _ _ _ (heap_alloc_new _ _),by omega,by rw[size_setRow,World.size_alloc];omega,(hg3.trans hg4).trans hgg⟩
  ·rw[Below.cell hgg (p:=⟨w.heap.size+1,j,none⟩) (by show w.heap.size+1<w4.heap.size;omega)];exact hcs j hj
  ·rw[Below.block hgg _ (by omega),Below.block hg4 _ (by omega)];exact qa hA0)
 have hAb':=qC hAb;have hOA':=qC hOA;clear hcs hA0 hA1 hg3 hg4 hAb hOA hs3;have hc1:∀o,((w4.alloc (.cells o 67)).setRow w4.heap.size A).cell? ⟨w.heap.size+1,1,none⟩=some (.string x1):=fun o=>(qa (hr4 o)).1 1 (by simp)
 go_wp2_with(refine wpList_store_row rfl 67 _ _ rfl w4.heap.size A rfl rfl 67 _ (heap_alloc_new _ _) (by rw[(qa hOA').1];exact x7) (by rw[(qa hOA').1];rfl) (qa hOA').2 ?_);refine(rD x1 _).mono ?_;rintro e w5 ⟨rfl,hw5⟩;have hr5:DP w [x0,x1,x2,x3,x4,x5] w4.heap.size A w5:=by rw[hw5];exact qa (hr4 _)
 clear hw5 hc1 hr4;rw[(Fu x1).1];generalize w4.heap.size=bq at hr5 ⊢;have hc2:w5.cell? ⟨w.heap.size+1,2,none⟩=some (.string x2):=hr5.1 2 (by simp);have hr5':=qC hr5;clear hr5;go_wp2_with fail;refine(fq x2 _).mono ?_;rintro e w6 ⟨⟨f,rfl,hf⟩,hg6⟩;have hf':=qC hf;have hr6:∀o,Hid (DP w [x0,x1,x2,x3,x4,x5] bq A (w6.alloc (.cells o 68))):=fun o=>qC ((qa hr5').gr (Gr.alloc hg6 _ _))
 clear hc2 hr5' hg6 hf;have hc3:∀o,(w6.alloc (.cells o 68)).cell? ⟨w.heap.size+1,3,none⟩=some (.string x3):=fun o=>(qa (hr6 o)).1 3 (by simp)
 go_wp2_with fail;refine(hO x3 _).mono ?_;rintro e w7 ⟨⟨b,rfl,hb⟩,hg7⟩;have hb':=qC hb;have hr7:=(qa (hr6 _)).gr hg7;have hq7:E3 w6.heap.size f w7:=E3.gr ⟨heap_alloc_new _ _,by rw[World.size_alloc];omega⟩ hg7;clear hc3 hr6 hg7 hb;generalize w6.heap.size=bc at hq7 ⊢;have hc4:w7.cell? ⟨w.heap.size+1,4,none⟩=some (.string x4):=hr7.1 4 (by simp);have hr7':=qC hr7;have hq7':=qC hq7;clear hr7 hq7;go_wp2_with fail;refine(gc x4 (by unfold maxLen;omega) _).mono ?_;rintro e w8 ⟨⟨h,rfl,hh⟩,hw8⟩;have hh':=qC hh;have hr8:DP w [x0,x1,x2,x3,x4,x5] bq A w8:=by rw[hw8];exact qa hr7'
 have hq8:E3 bc f w8:=by rw[hw8];exact qa hq7'
 have hc5:w8.cell? ⟨w.heap.size+1,5,none⟩=some (.string x5):=hr8.1 5 (by simp);have hr8':=qC hr8;have hq8':=qC hq8;clear hr8 hq8 hr7' hq7' hw8 hc4 hh;go_wp2_with fail;refine(gc x5 (by unfold maxLen;omega) _).mono ?_;rintro e w9 ⟨⟨g,rfl,hg⟩,hw9⟩;have hR:Hid (DP w [x0,x1,x2,x3,x4,x5] bq A w9):=qC (by rw[hw9];exact qa hr8');have hq:Hid (E3 bc f w9):=qC (by rw[hw9];exact qa hq8');have hmade:=qC (BV (qa hx') (qa hAb') (qa hf') (qa hb') (qa hh') hg);clear hr8' hq8' hw9 hc5 hg hx' hAb' hf' hb' hh';generalize (j7 x0).isSome=ok0 at hmade ⊢;generalize (x1.toList==[119])=wh at hmade ⊢;generalize (kO x1).isSome=ok1 at hmade ⊢;generalize (vS x2.data.toList).isSome=ok2 at hmade ⊢;generalize (v8 x3).isSome=ok3 at hmade ⊢;generalize (vR x4.data.toList).isSome=ok4 at hmade ⊢;generalize (vR x5.data.toList).isSome=ok5 at hmade ⊢;cases ok0
 ·have hend:=qC ((qa hmade).1 (by simp));clear hmade hq;go_wp2_with(refine wpList_store_row rfl 70 _ _ rfl w.heap.size Tryz.zeroCells70 rfl rfl 70 Tryz.zeroCells70 (qa hR).2.1 (by rw[xF];exact q9) rfl xH ?_);exact bodyPost_ret (v:=.tuple #[.agg Tryz.zeroCells70,.bool false]) (qj Tryz.results62 _ _ w.heap.size 70 _ (0,0) _ rfl (setRow_heap _ _ _ _ _ _ (qa hR).2.1) Tryz.underlying70 rfl (by rw[xF];exact q9)) rfl ⟨qa hend,(qa hR).2.2.2.2.2.setRow _ (qL _) _⟩
 ·cases ok1
  ·have hend:=qC ((qa hmade).1 (by simp));clear hmade hq;go_wp2_with(refine wpList_store_row rfl 70 _ _ rfl w.heap.size Tryz.zeroCells70 rfl rfl 70 Tryz.zeroCells70 (qa hR).2.1 (by rw[xF];exact q9) rfl xH ?_);exact bodyPost_ret (v:=.tuple #[.agg Tryz.zeroCells70,.bool false]) (qj Tryz.results62 _ _ w.heap.size 70 _ (0,0) _ rfl (setRow_heap _ _ _ _ _ _ (qa hR).2.1) Tryz.underlying70 rfl (by rw[xF];exact q9)) rfl ⟨qa hend,(qa hR).2.2.2.2.2.setRow _ (qL _) _⟩
  ·cases ok2
   ·have hend:=qC ((qa hmade).1 (by simp));clear hmade hq;go_wp2_with(refine wpList_store_row rfl 70 _ _ rfl w.heap.size Tryz.zeroCells70 rfl rfl 70 Tryz.zeroCells70 (qa hR).2.1 (by rw[xF];exact q9) rfl xH ?_);exact bodyPost_ret (v:=.tuple #[.agg Tryz.zeroCells70,.bool false]) (qj Tryz.results62 _ _ w.heap.size 70 _ (0,0) _ rfl (setRow_heap _ _ _ _ _ _ (qa hR).2.1) Tryz.underlying70 rfl (by rw[xF];exact q9)) rfl ⟨qa hend,(qa hR).2.2.2.2.2.setRow _ (qL _) _⟩
   ·cases ok3
    ·have hend:=qC ((qa hmade).1 (by simp));clear hmade hq;go_wp2_with(refine wpList_store_row rfl 70 _ _ rfl w.heap.size Tryz.zeroCells70 rfl rfl 70 Tryz.zeroCells70 (qa hR).2.1 (by rw[xF];exact q9) rfl xH ?_);exact bodyPost_ret (v:=.tuple #[.agg Tryz.zeroCells70,.bool false]) (qj Tryz.results62 _ _ w.heap.size 70 _ (0,0) _ rfl (setRow_heap _ _ _ _ _ _ (qa hR).2.1) Tryz.underlying70 rfl (by rw[xF];exact q9)) rfl ⟨qa hend,(qa hR).2.2.2.2.2.setRow _ (qL _) _⟩
    ·cases ok4
     ·have hend:=qC ((qa hmade).1 (by simp));clear hmade hq;go_wp2_with(refine wpList_store_row rfl 70 _ _ rfl w.heap.size Tryz.zeroCells70 rfl rfl 70 Tryz.zeroCells70 (qa hR).2.1 (by rw[xF];exact q9) rfl xH ?_);exact bodyPost_ret (v:=.tuple #[.agg Tryz.zeroCells70,.bool false]) (qj Tryz.results62 _ _ w.heap.size 70 _ (0,0) _ rfl (setRow_heap _ _ _ _ _ _ (qa hR).2.1) Tryz.underlying70 rfl (by rw[xF];exact q9)) rfl ⟨qa hend,(qa hR).2.2.2.2.2.setRow _ (qL _) _⟩
     ·cases ok5
      ·have hend:=qC ((qa hmade).1 (by simp));clear hmade hq;go_wp2_with(refine wpList_store_row rfl 70 _ _ rfl w.heap.size Tryz.zeroCells70 rfl rfl 70 Tryz.zeroCells70 (qa hR).2.1 (by rw[xF];exact q9) rfl xH ?_);exact bodyPost_ret (v:=.tuple #[.agg Tryz.zeroCells70,.bool false]) (qj Tryz.results62 _ _ w.heap.size 70 _ (0,0) _ rfl (setRow_heap _ _ _ _ _ _ (qa hR).2.1) Tryz.underlying70 rfl (by rw[xF];exact q9)) rfl ⟨qa hend,(qa hR).2.2.2.2.2.setRow _ (qL _) _⟩
      ·have hend:=qC ((qa hmade).2 rfl rfl rfl rfl rfl rfl);have hP:=qC (qzd (qa hOA') wh (f 0) (f 1) (f 2) (f 3) b h g);clear hmade;go_wp2_with(first|(refine wpList_load_row rfl 67 _ rfl bq rfl 67 A (0,0) _ (qa hR).2.2.1 Tryz.underlying67 rfl (by rw[(qa hOA').1];exact x7) ?_)|(refine wpList_load_row rfl 68 _ rfl bc rfl 68 #[.bool (f 0),.bool (f 1),.bool (f 2),.bool (f 3)] (0,0) _ (qa hq).1 Tryz.underlying68 rfl G3 ?_)|(refine qqq rfl 70 #[(0,.tmp 88),(1,.tmp 89),(2,.tmp 90),(3,.tmp 91),(4,.tmp 92),(5,.tmp 93)] rfl (kU A wh (f 0) (f 1) (f 2) (f 3) b h g) ?_ ?_;focus (simp[Act.eval];exact gj A (qa hOA').1 wh (f 0) (f 1) (f 2) (f 3) b h g))|(refine wpList_store_row rfl 70 _ _ rfl w.heap.size (kU A wh (f 0) (f 1) (f 2) (f 3) b h g) rfl rfl 70 Tryz.zeroCells70 (qa hR).2.1 (by rw[(qa hP).1];exact q9) (by rw[(qa hP).1,xF]) (qa hP).2 ?_));exact bodyPost_ret (v:=.tuple #[.agg (kU A wh (f 0) (f 1) (f 2) (f 3) b h g),.bool true]) (qj Tryz.results62 _ _ w.heap.size 70 _ (0,0) _ rfl (setRow_heap _ _ _ _ _ _ (qa hR).2.1) Tryz.underlying70 rfl (by rw[(qa hP).1];exact q9)) rfl ⟨qa hend,(qa hR).2.2.2.2.2.setRow _ (qL _) _⟩
theorem rY(s:ByteArray)(hs:s.size<4294967281)(m:Int)(w:World)(hm:w.cell? ⟨4,0,none⟩=some (.int .i64 m))(hz:4<w.heap.size):Calls Tryz.prog 62 #[.string s] w fun e w'=>kS s e/\Gr w w':=by
 by_cases h8:(xL 32 7 s).length=6
 ·match hx:xL 32 7 s,h8 with
  | [x0,x1,x2,x3,x4,x5],_=>exact rU s x0 x1 x2 x3 x4 x5 hs m w hm hz hx
 ·exact rX s hs m w hm hz h8
theorem qq4(w:World)(a:Addr)(cap:Nat)(l:List UInt8)(hc:∀i (h:i<l.length),w.cell? (a.add i)=some (.int .u8 ((l[i]).toNat:Int))) :
  (convert 145 9 (.slice (some a) l.length cap)).run Tryz.prog w=.ok (.string ⟨l.toArray⟩) w :=
 run_convert_bytes_back w 145 9 5 a cap l Tryz.underlying145 Tryz.underlying5 Tryz.underlying9 hc
def xQ(n:Nat):List UInt8:=[UInt8.ofNat (97+n%8),UInt8.ofNat (49+n/8)]
def oO(n:Int):List UInt8:=if n=-1 then[45]else xQ n.toNat
def E5(f:Nat->Bool):Nat->List UInt8
 | 0=>[]
 | i+1=>E5 f i++(if f i then[vn i]else[])
def eE(f:Nat->Bool):List UInt8:=if(E5 f 4).isEmpty then[45]else E5 f 4
theorem oN(f:Nat->Bool)(i:Nat):E5 f (i+1)=E5 f i++(if f i then[vn i]else[]):=rfl
def ur(g:Nat):List UInt8:=if g=0 then[]else[UInt8.ofNat (48+g)]
def DV(z:Nat->UInt8):Nat->List UInt8 × Nat
 | 0=>([],0)
 | k+1=>if z k=46 then((DV z k).1,(DV z k).2+1)else((DV z k).1++ur (DV z k).2++[z k],0)
def oJ(z:Nat->UInt8):List UInt8:=(DV z 8).1++ur (DV z 8).2
def oH(z:Nat->UInt8)(i:Nat):List UInt8:=oJ (fun f=>z (8*(7-i)+f))
def eB(z:Nat->UInt8):List ByteArray:=(List.range 8).map (fun i=>⟨(oH z i).toArray⟩)
def dA(z:Nat->UInt8):List UInt8:=Lib.join ((eB z).map (·.data.toList)) [47]
theorem Gr.setCell{a b:World}(h:Gr a b){p:Addr}(hp:a.heap.size<=p.block)(v:Value):Gr a (b.setCell p v):=Below.setCell h hp v
def HG (w : World) : Prop := Lib.TabIs Tryz.prog w "internal/strconv.uint64pow10" .u64 Lib.pow10Tab
theorem bX : ∃ g, Tryz.prog.globalNamed "internal/strconv.uint64pow10" = some g := ⟨8, by kernel_rfl⟩
theorem HG.gr{w w':World}(h:HG w)(g:Gr w w'):HG w':=by
 obtain⟨i,hi⟩:=bX;unfold HG Lib.TabIs World.var? at h ⊢;rw[hi]at h ⊢;simp only[Option.bind_some]at h ⊢
 have hlt:i<w.heap.size:=by
  rcases Nat.lt_or_ge i w.heap.size with h'|h'
  ·exact h'
  ·rw[Array.getElem?_eq_none h']at h;cases h
 rw[Below.block g i hlt];exact h
theorem Gr.grow(w:World)(k:Nat)(os:Array Obj):Gr w (Go.Sort.grow (w.drewN k) os):=by
 refine⟨rfl,rfl,rfl,?_,fun i hi=>?_⟩
 ·show w.heap.size<=(w.heap++os).size;simp
 ·show(w.heap++os)[i]?=_;rw[Array.getElem?_append,qI hi]
def PS(w:World)(A:List Value)(wh c0 c1 c2 c3:Bool)(b h f:Int)(w':World):Prop :=
 w'.rangeAt w.heap.size 0 A/\w'.cell? ⟨w.heap.size,64,none⟩=some (.bool wh)/\w'.cell? ⟨w.heap.size,65,none⟩=some (.bool c0)/\w'.cell? ⟨w.heap.size,66,none⟩=some (.bool c1)/\w'.cell? ⟨w.heap.size,67,none⟩=some (.bool c2)/\w'.cell? ⟨w.heap.size,68,none⟩=some (.bool c3)/\w'.cell? ⟨w.heap.size,69,none⟩=some (.int .i64 b)/\w'.cell? ⟨w.heap.size,70,none⟩=some (.int .i64 h)/\w'.cell? ⟨w.heap.size,71,none⟩=some (.int .i64 f)/\(w.heap.size<w'.heap.size/\Gr w w'/\HG w')
theorem PS.gr{w:World}{A:List Value}{wh c0 c1 c2 c3:Bool}{b h f:Int}{w1 w2:World}(p:PS w A wh c0 c1 c2 c3 b h f w1)(g:Gr w1 w2):PS w A wh c0 c1 c2 c3 b h f w2:=by
 obtain⟨p0,p1,p2,p3,p4,p5,p6,p7,p8,hs,hg,ht⟩:=p;have k:∀o,w2.cell? ⟨w.heap.size,o,none⟩=w1.cell? ⟨w.heap.size,o,none⟩:=fun o=>Below.cell g (p:=⟨w.heap.size,o,none⟩) hs
 exact⟨fun j v hv=>(k _).trans (p0 j v hv),(k _).trans p1,(k _).trans p2,(k _).trans p3,(k _).trans p4,(k _).trans p5,(k _).trans p6,(k _).trans p7,(k _).trans p8,qN hs (Below.size g),hg.trans g,ht.gr g⟩
def oI(z:Nat->UInt8)(wh:Bool)(f:Nat->Bool)(b h g:Int):List UInt8 :=
 Lib.join [dA z,[if wh then 119 else 98],eE f,oO b,Lib.itoa h,Lib.itoa g] [32]
theorem vy{w1 w2:World}{q:Prop}(h:Gr w1 w2/\q):Gr w1 w2:=h.1
theorem held{w:World}{A:List Value}{wh c0 c1 c2 c3:Bool}{b h f:Int}{w1 w':World}(p:PS w A wh c0 c1 c2 c3 b h f w1)(g:Gr w1 w') :
  Gr w1 w'/\w'.rangeAt w.heap.size 0 A/\w'.cell? ⟨w.heap.size,64,none⟩=some (.bool wh)/\w'.cell? ⟨w.heap.size,65,none⟩=some (.bool c0)/\w'.cell? ⟨w.heap.size,66,none⟩=some (.bool c1)/\w'.cell? ⟨w.heap.size,67,none⟩=some (.bool c2)/\w'.cell? ⟨w.heap.size,68,none⟩=some (.bool c3)/\w'.cell? ⟨w.heap.size,69,none⟩=some (.int .i64 b)/\w'.cell? ⟨w.heap.size,70,none⟩=some (.int .i64 h)/\w'.cell? ⟨w.heap.size,71,none⟩=some (.int .i64 f):=by
 obtain⟨p0,p1,p2,p3,p4,p5,p6,p7,p8,_⟩:=p.gr g;exact⟨g,p0,p1,p2,p3,p4,p5,p6,p7,p8⟩
end
section
def kL(w:World):Prop:=TabAt 2 Lib.deBruijn64tab w
theorem kL.gr{w w':World}(h:kL w)(g:Gr w w'):kL w':=fun j hj=>by
 have hc:=h j hj;exact(Below.cell g (World.block_lt_of_cell? w _ hc)).trans hc
theorem kL.below{n₀:Nat}{w w':World}(h:kL w)(g:Below n₀ w w')(hn:2<n₀):kL w':=fun j hj=>(g.cell (p:=⟨_,j,none⟩) hn).trans (h j hj)
theorem eI(s:BitVec 64)(t:Nat)(h1:s.getLsbD t=true)(h2:∀j,j<t->s.getLsbD j=false)(w:World)(hb:kL w):Calls Tryz.prog 208 #[.int .u64 (U s)] w fun e w'=>e=.returned (.int .i64 t)/\w'=w:=by
 have:=Any7.bits_TrailingZeros64 Tryz.lays7x29 s.toNat s.isLt w (fun _=>hb);rw[Em s t h1 h2]at this;exact this
attribute [local go_sem] Oper.semAt_some
theorem Dc(n:Nat)(hn:1<=n)(l Bn n₀:Nat)(_hB:Bn<n₀)(ht0:2<n₀)(s:BitVec 64)(J Jx:List Nat->World->Prop)
  (hY:∀pre x W,J pre W->pre.length<(vD s).length->YieldAt Fence.wide (n-1) Tryz.prog l #[.int .i64 ((x:Nat):Int)] W fun e W' =>
   (e=.returned (.bool true)/\J (pre++[x]) W'/\Below n₀ W W')\/(e=.returned (.bool false)/\Jx (pre++[x]) W'))
  (W:World) (hBn:W.cell? ⟨Bn,0,none⟩=some (.int .u64 (U s))) (hT:kL W) (h0:J [] W) :
  CallsIn Fence.wide n Tryz.prog 207 #[.func (.yield l) #[] #[],.pointer (some ⟨Bn,0,none⟩)] W fun e W'=>(∃v,e=.returned v) ∧
   ((∃ys,ys=vD s/\J ys W')\/(∃pre,pre <+: vD s/\Jx pre W')):=by
 refine callsIn_of_wp Tryz.func207 rfl trivial ?_ rfl;simp only[Tryz.ntmps207,List.size_toArray,List.length_cons,List.length_nil,Nat.reduceAdd,Nat.reduceSub,Array.replicate_succ,Array.replicate_zero,List.push_toArray,List.append_toArray,List.nil_append,List.cons_append];gi_wp2;gi_loopw [3] (fun p wr=>∃(pre:List Nat)(r:BitVec 64),p=.int .u64 (U r)/\vD s=pre++vD r/\kL wr/\J pre wr) (fun p _=>(vD (BitVec.ofInt 64 (intOf p))).length)
 case atStart=>exact⟨[],s,rfl,rfl,hT,h0⟩
 case round =>
  obtain⟨pre,r,rfl,hx,htb,hJs⟩:=hrel;by_cases hr:r=0#64
  ·subst hr;have hz:(U 0#64 != 0)=false:=by decide +kernel
   rw[qv8,List.append_nil]at hx;have hx':=qC hx;clear hx;gi_wp2;go_end0;exact⟨⟨_,rfl⟩,.inl ⟨pre,(qa hx').symm,hJs⟩⟩
  ·obtain⟨t,t1,t2,t3⟩:=qji r hr;have hst:=qv9 r t t1 t2 t3
   have hnz:(U r != 0)=true:=by
    simp only[qU];intro e;exact hr (pE (e.trans (by decide +kernel)))
   have htz:=qC (eI r t t2 t3);obtain⟨fn,tmps,assign,body,hy,hR⟩:=hY pre t wr hJs (by rw[hx,hst];simp);have hx':=qC hx;have hst':=qC hst;have htb':=qC htb;clear hx hst htb hr t2 t3;gi_wp2_with (refine⟨trivial,?_⟩;gi_at_call 208;refine(callsIn_wide.2 (qa htz _ (qa htb'))).mono ?_;rintro e w' ⟨rfl,rfl⟩);refine hR.mono ?_;rintro e W3 (⟨rfl,hJ3,hk3⟩|⟨rfl,hJx3⟩)
   ·have e1:IntKind.u64.wrap (U r-1)=U (r-1#64):=by
     rw[show(1:Int)=U 1#64 from by decide +kernel];exact bJ r 1#64
    have e2:bits .and .u64 (U r) (U (r-1#64))=U (r &&& (r-1#64)):=im _ _;gi_wp2;go_roundw
    case rel=>exact⟨pre++[t],r &&& (r-1#64),rfl,by rw[qa hx',qa hst'];simp,(qa htb').below hk3 ht0,hJ3⟩
    case measure=>simp only[intOf];rw[jh,jh,qa hst'];simp
   ·gi_wp2;refine bodyPost_ret (results_none rfl _ _ _) rfl ?_;exact⟨⟨_,rfl⟩,.inr ⟨pre++[t],⟨vD (r &&& (r-1#64)),by rw[qa hx',qa hst'];simp⟩,hJx3⟩⟩
theorem oz(n:Nat)(hn:1<=n)(Bn n₀:Nat)(hB:Bn<n₀)(ht0:2<n₀)(s:BitVec 64)(w:World)(hn₀:n₀<=w.heap.size)(hc:w.cell? ⟨Bn,0,none⟩=some (.int .u64 (U s)))(hT:kL w) :
  SeqStopsK Fence.wide n Tryz.prog 207 #[.pointer (some ⟨Bn,0,none⟩)] (fun x:Nat=>#[Value.int .i64 (x:Int)]) (Below n₀) (fun ys=>ys=vD s) (fun pre=>pre <+: vD s) (vD s).length w:=fun l J Jx W hW _ _ hY h0 =>
 Dc n hn l Bn n₀ hB ht0 s J Jx hY W ((hW.cell (p:=⟨Bn,0,none⟩) (qN hB hn₀)).trans hc) (hT.below hW (qN ht0 hn₀)) h0
theorem qi{W:World}{B:Nat}{v:Value}{t:TypeId}(h:W.heap[B]?=some (.cells #[v] t (0,0))):W.cell? ⟨B,0,none⟩=some v/\W.frozen? ⟨B,0,none⟩=false:=by
 constructor<;>simp[World.cell?,World.frozen?,h]
theorem qq5(W:World)(v:Value)(t:TypeId):(W.alloc (.cells #[v] t)).cell? ⟨W.heap.size,0,none⟩=some v/\(W.alloc (.cells #[v] t)).frozen? ⟨W.heap.size,0,none⟩=false :=
 qi (World.alloc_heap_new W _)
theorem dI(s:BitVec 64):(vD s).length<=64:=by
 have:=List.length_filter_le (fun i=>s.getLsbD i) (List.range 64);unfold vD;simpa using this
theorem xn(s:BitVec 64)(w:World):Calls Tryz.prog 132 #[.int .u64 (U s)] w fun e w'=>e=.returned (.func (.func 207) #[] #[.pointer (some ⟨w.heap.size,0,none⟩)])/\w'=w.alloc (.cells #[.int .u64 (U s)] 195):=by
 have hmf:∀(fn:Fn)(first cap:Array Value)(w:World),(Instr.makeFunc fn first cap).run Tryz.prog w=.ok (.func fn first cap) w:=fun _ _ _ _=>rfl
 go_enter Tryz.func132,Tryz.ntmps132;go_wp2;go_ret;exact⟨rfl,rfl⟩
theorem mT(x:Int)(w:World):Calls Tryz.prog 264 #[.int .i64 x] w fun e w'=>e=.returned (.int .i64 1)/\w'=w:=by
 go_enter Tryz.func264,Tryz.ntmps264;go_wp2;go_ret;exact⟨rfl,rfl⟩
theorem l6{w W:World}{pre:List Nat}{x:Nat}{v:Value}(hc:W.cell? ⟨w.heap.size+1,0,none⟩=some (.int .i64 (pre.length:Nat)))(hf:W.frozen? ⟨w.heap.size+1,0,none⟩=false)(hwo:W.cell? ⟨w.heap.size,0,none⟩=some v)(hB:Below w.heap.size w W) :
  let W':=(W.setCell ⟨w.heap.size+1,0,none⟩ (.int .i64 ((pre.length:Int)+1))).drew
  KeepsOthers W W'/\Below w.heap.size W W'/\(W'.cell? ⟨w.heap.size+1,0,none⟩=some (.int .i64 ((pre++[x]).length:Nat))/\W'.frozen? ⟨w.heap.size+1,0,none⟩=false/\W'.cell? ⟨w.heap.size,0,none⟩=some v)/\Below w.heap.size w W':=by
 intro W';have h1:W'.cell? ⟨w.heap.size+1,0,none⟩=some (.int .i64 ((pre.length:Int)+1)):=World.cell?_setCell_same' W _ _ (by rw[hc];rfl)
 have h2:W'.frozen? ⟨w.heap.size+1,0,none⟩=false:=by
  show(W.setCell ⟨w.heap.size+1,0,none⟩ (.int .i64 ((pre.length:Int)+1))).frozen? ⟨w.heap.size+1,0,none⟩=false;rw[World.frozen?_setCell];exact hf
 have h3:W'.cell? ⟨w.heap.size,0,none⟩=some v:=by
  show(W.setCell ⟨w.heap.size+1,0,none⟩ (.int .i64 ((pre.length:Int)+1))).cell? ⟨w.heap.size,0,none⟩=some v;rw[World.cell?_of_block (w:=W) (Below.heap_setCell W ⟨w.heap.size+1,0,none⟩ _ w.heap.size (by simp))];exact hwo
 refine⟨(KeepsOthers.setCell W _ _).trans (KeepsOthers.drew _),((Below.refl w.heap.size W).setCell (p:=⟨w.heap.size+1,0,none⟩) (by simp) _).drew,⟨?_,h2,h3⟩,(hB.setCell (p:=⟨w.heap.size+1,0,none⟩) (by simp) _).drew⟩;rw[h1];simp
theorem Aa(s:BitVec 64)(Bn:Nat)(w:World)(hB:Bn<w.heap.size)(ht0:2<w.heap.size)(hc:w.cell? ⟨Bn,0,none⟩=some (.int .u64 (U s)))(hT:kL w) :
  Calls Tryz.prog 263 #[.func (.func 207) #[] #[.pointer (some ⟨Bn,0,none⟩)],.func (.func 264) #[] #[]] w fun e w'=>e=.returned (.int .i64 (vD s).length)/\Gr w w':=by
 refine(callsIn_wide (n:=3)).1 ?_;refine callsIn_of_wp_marks Tryz.func263 rfl trivial ?_ rfl;simp only[Tryz.ntmps263,List.size_toArray,List.length_cons,List.length_nil,Nat.reduceAdd,Nat.reduceSub,Array.replicate_succ,Array.replicate_zero,List.push_toArray,List.append_toArray,List.nil_append,List.cons_append];gi_wp2;have hs:=qq5 (w.alloc (.cells #[.func (.func 264) #[] #[]] 276)) (.int .i64 0) 3;have hwo:=(qq5 w (.func (.func 264) #[] #[]) 276).1;have hB0:Below w.heap.size w ((w.alloc (.cells #[.func (.func 264) #[] #[]] 276)).alloc (.cells #[.int .i64 0] 3)):=((Below.refl _ w).alloc (qL _) _).alloc (by simp) _
 have hwo2:((w.alloc (.cells #[.func (.func 264) #[] #[]] 276)).alloc (.cells #[.int .i64 0] 3)).cell? ⟨w.heap.size,0,none⟩=some (.func (.func 264) #[] #[]) :=
  (Below.cell (p:=⟨w.heap.size,0,none⟩) ((Below.refl (w.heap.size+1) _).alloc (by simp) _) (Nat.lt_succ_self _)).trans hwo
 rw[World.size_alloc]at hs
 refine wpIn_rangeFunc_ownF rfl (by omega) (gf:=207) (lb:=#[.pointer (some ⟨Bn,0,none⟩)]) rfl trivial (enters_of Tryz.func207 (by kernel_rfl) rfl)
  (oz _ (by omega) Bn w.heap.size hB ht0 s _ (by simp;omega) ((hB0.cell (p:=⟨Bn,0,none⟩) hB).trans hc) (hT.below hB0 ht0)) belowK_t (belowK_b (by simp;omega)) (Below.refl _ _) (fun _=>rfl)
  (fun pre W=>(W.cell? ⟨w.heap.size+1,0,none⟩=some (.int .i64 (pre.length:Nat))/\W.frozen? ⟨w.heap.size+1,0,none⟩=false/\W.cell? ⟨w.heap.size,0,none⟩=some (.func (.func 264) #[] #[]))/\Below w.heap.size w W)
  (fun _ _ _=>False)
  (OwnFrom.and (Own.from (fun s A B row hs hg hr=>⟨cell_kept hs.1 hg hr,(frozen_kept hs.1 hg hr).trans hs.2.1,cell_kept hs.2.2 hg hr⟩) _) (ownFrom_below (qL _) (by simp;omega)))
  (fun _ _ _ _ _ hs _ _=>hs)
  ⟨⟨hs.1,hs.2,hwo2⟩,hB0⟩
  (fun x=>{ tmps:=#[.func (.func 207) #[] #[.pointer (some ⟨Bn,0,none⟩)],.func (.func 264) #[] #[],undef,.pointer (some ⟨w.heap.size,0,none⟩),.int .i64 0,.pointer (some ⟨w.heap.size+1,0,none⟩),.int .i64 (x:Nat),.func (.func 207) #[] #[.pointer (some ⟨Bn,0,none⟩)],.int .i64 (x:Nat),undef,undef,undef,undef,undef,undef],defers:=[] }) ?assign ?body ?done ?stop
 case assign =>
  intro l x W K hK;gi_wp2;simpa using hK
 case body =>
  rintro l pre x W ⟨⟨hc,hf,hwo⟩,hB⟩ hlt;have hp64:pre.length<64:=qN hlt (dI s);gi_wp2;have hcd:W.drew.cell? ⟨w.heap.size+1,0,none⟩=some (.int .i64 (pre.length:Nat)):=hc;have hfd:W.drew.frozen? ⟨w.heap.size+1,0,none⟩=false:=hf;have hwd:W.drew.cell? ⟨w.heap.size,0,none⟩=some (.func (.func 264) #[] #[]):=hwo;gi_region_with (refine⟨trivial,?_⟩;gi_at_call 264;refine((callsIn_wide.2 (mT _ _)).inRound l).mono ?_;rintro e w' ⟨rfl,rfl⟩)
  all_goals
   gi_wp2;rw[show IntKind.i64.wrap ((pre.length:Int)+1)=(pre.length:Int)+1 from by rw[IntKind.wrap_i64];omega];exact l6 hc hf hwo hB
 case done =>
  rintro D ys W hD rfl ⟨⟨hc,_,_⟩,hB⟩ hK;gi_wp2;refine⟨by simp,.inl ⟨_,_,rfl,run_takeDeferred hK,?_⟩⟩;exact⟨_,results_tmp rfl _ _ _,rfl,hB.trans (belowK_b (w:=w) (qL _) W D _ _ (by simp at hD;omega) hK rfl rfl)⟩
 case stop =>
  rintro D c pre W _ _ h _;exact h.elim
theorem m9(s:BitVec 64)(Bn:Nat)(w:World)(hB:Bn<w.heap.size)(ht0:2<w.heap.size)(hc:w.cell? ⟨Bn,0,none⟩=some (.int .u64 (U s)))(hT:kL w) :
  Calls Tryz.prog 218 #[.func (.func 207) #[] #[.pointer (some ⟨Bn,0,none⟩)]] w fun e w'=>e=.returned (.int .i64 (vD s).length)/\Gr w w':=by
 go_enter Tryz.func218,Tryz.ntmps218;go_wp2_with(go_at_call 263;refine(Aa s Bn w hB ht0 hc hT).mono ?_;rintro e w' ⟨rfl,hg⟩);go_ret;exact⟨rfl,hg⟩
end
end Go.Proofs.YtnfakamfmkhlbabGreatDoor.C
