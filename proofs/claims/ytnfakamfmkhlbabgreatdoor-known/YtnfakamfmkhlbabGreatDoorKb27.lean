import Derived.Test.YtnfakamfmkhlbabGreatDoorKb26
import Derived.Test.YtnfakamfmkhlbabGreatDoorKb24
import Derived.Test.YtnfakamfmkhlbabGreatDoorKb13
import Derived.Test.YtnfakamfmkhlbabGreatDoorKz2
import Derived.Test.YtnfakamfmkhlbabGreatDoorKz3
set_option maxRecDepth 100000
set_option maxHeartbeats 4000000
set_option linter.unusedSimpArgs false
namespace Go.Proofs.YtnfakamfmkhlbabGreatDoor.C
open Go.ChangeShapes Go.WideShapes Go.ChangeAt Go.RowKit Go.Shelf
open Go.Proofs.YtnfakamfmkhlbabGreatDoor.P
attribute [local go_sem] setCell_drewN alloc_drewN Oper.semAt_some
theorem builtQ (parts:List (Nat × Value)):Tryz.prog.built 117 parts=Instr.fill (fun i=>(#[(0,72),(72,1),(73,1)]:Array (Nat × Nat))[i]?) Tryz.zeroCells117 parts:=by kernel_rfl
theorem zeroQ:Tryz.zeroCells117.size=74:=by kernel_rfl
theorem infoQ:(Tryz.prog.info? 117).map (·.size)=some 74:=by kernel_rfl
def qA (A:Array Value) (d n:Int):Array Value:=A++#[.int .i64 d,.int .i64 n]
theorem qA_size {A:Array Value} (h:A.size=72) (d n:Int):(qA A d n).size=74:=by unfold qA;simp [h]
theorem qA_ones {A:Array Value} (h:A.all (·.oneCell')=true) (d n:Int):(qA A d n).all (·.oneCell')=true:=by
 unfold qA;rw [Array.all_append,h];simp [Value.oneCell']
theorem built_q (A:Array Value) (hA:A.size=72) (d n:Int):Tryz.prog.built 117 [(0,.agg A),(1,.int .i64 d),(2,.int .i64 n)]=some (qA A d n):=by
 rw [builtQ];have p0:=put_at 0 A Tryz.zeroCells117;have p1:=put_at 72 #[.int .i64 d] (put 0 A Tryz.zeroCells117);have p2:=put_at 73 #[.int .i64 n] (put 72 #[.int .i64 d] (put 0 A Tryz.zeroCells117));have z:=zeroQ
 rw [fill_one _ _ 0 0 72 _ _ rfl (by simpa [Value.cells] using hA) (by omega),
  fill_one _ _ 1 72 1 _ _ rfl rfl (by simp only [Value.cells];omega),fill_one _ _ 2 73 1 _ _ rfl rfl (by simp only [Value.cells];omega)]
 simp only [Instr.fill,Value.cells,Option.some.injEq];apply Array.ext_getElem?;intro i;rw [p2.2 i (by simp;omega),p1.2 i (by simp;omega),p0.2 i (by omega)];unfold qA;rw [Array.getElem?_append,hA];by_cases h0:i<72
 ·rw [if_neg (by simp;omega),if_neg (by simp;omega),if_pos ⟨by omega,by omega⟩,if_pos h0];simp
 ·by_cases h8:i<74
  ·have:i=72\/i=73:=by omega
   rcases this with rfl|rfl<;>simp
  ·rw [if_neg (by simp;omega),if_neg (by simp;omega),if_neg (by omega),if_neg h0,Array.getElem?_eq_none (by omega),Array.getElem?_eq_none (by simp;omega)]
theorem row_clk0 {z:Nat->UInt8} {wh:Bool} {fc:Nat->Bool} {b h g:Int} {PA:Array Value} (r:Row z wh fc b h g PA):Row z wh fc b 0 0 ((PA.setIfInBounds 70 (.int .i64 0)).setIfInBounds 71 (.int .i64 0)):=by
 have hs:=r.size
 have at':∀ i,i≠70->i≠71->((PA.setIfInBounds 70 (.int .i64 0)).setIfInBounds 71 (.int .i64 0))[i]?=PA[i]?:=fun i h0 h1=>by
  rw [Array.getElem?_setIfInBounds_ne (by omega),Array.getElem?_setIfInBounds_ne (by omega)]
 exact ⟨by simp [hs],fun i hi=>by rw [at' i (by omega) (by omega)];exact r.sq i hi,by rw [at' 64 (by omega) (by omega)];exact r.wh,fun i hi=>by rw [at' _ (by omega) (by omega)];exact r.c i hi,by rw [at' 69 (by omega) (by omega)];exact r.b,
  by rw [Array.getElem?_setIfInBounds_ne (by omega),Array.getElem?_setIfInBounds_self_of_lt (by omega)],by rw [Array.getElem?_setIfInBounds_self_of_lt (by simp;omega)]⟩
theorem ask_any {z:Nat->UInt8} {wh:Bool} {fc:Nat->Bool} {b h g:Int} {PA:Array Value} (r:Row z wh fc b h g PA) (d n:Int) (w:World) :
  Calls Tryz.prog 45 #[.agg PA,.int .i64 d,.int .i64 n] w fun e w'=>∃ QA,e=.returned (.agg (qA QA d n))/\Row z wh fc b 0 0 QA/\Gr w w':=by
 obtain ⟨x1,x2⟩:=heapTwo w (.cells PA 70) (.cells Tryz.zeroCells117 117);have hg0:Gr w ((w.alloc (.cells PA 70)).alloc (.cells Tryz.zeroCells117 117)):=((Gr.refl w).alloc _ _).alloc _ _;have hr':=hide r;have hz:=r.size;clear r;go_enter Tryz.func45,Tryz.ntmps45;go_upto_region 1 with fail;generalize ((w.alloc (.cells PA 70)).alloc (.cells Tryz.zeroCells117 117))=w0 at x1 x2 hg0 ⊢;have c70:w0.cell? ⟨w.heap.size,70,none⟩=some (.int .i64 h):=by rw [cells_at x1];exact (unhide hr').h
 have c71:w0.cell? ⟨w.heap.size,71,none⟩=some (.int .i64 g):=by rw [cells_at x1];exact (unhide hr').g
 have f70:w0.frozen? ⟨w.heap.size,70,none⟩=false:=row_open x1;have f71:w0.frozen? ⟨w.heap.size,71,none⟩=false:=row_open x1;have hg2:Gr w ((w0.setCell ⟨w.heap.size,70,none⟩ (.int .i64 0)).setCell ⟨w.heap.size,71,none⟩ (.int .i64 0)):=Below.setCell (Below.setCell hg0 (Nat.le_refl _) _) (Nat.le_refl _) _;have y1:((w0.setCell ⟨w.heap.size,70,none⟩ (.int .i64 0)).setCell ⟨w.heap.size,71,none⟩ (.int .i64 0)).heap[w.heap.size]?=some (.cells ((PA.setIfInBounds 70 (.int .i64 0)).setIfInBounds 71 (.int .i64 0)) 70):=set_row3 (set_row3 x1)
 have y2:((w0.setCell ⟨w.heap.size,70,none⟩ (.int .i64 0)).setCell ⟨w.heap.size,71,none⟩ (.int .i64 0)).heap[w.heap.size+1]?=some (.cells Tryz.zeroCells117 117):=by
  rw [Below.heap_setCell _ _ _ _ (by simp),Below.heap_setCell _ _ _ _ (by simp)];exact x2
 go_upto_region 2 with fail;generalize ((w0.setCell ⟨w.heap.size,70,none⟩ (.int .i64 0)).setCell ⟨w.heap.size,71,none⟩ (.int .i64 0))=w2 at y1 y2 hg2 ⊢;have hr2:Hid (Row z wh fc b 0 0 ((PA.setIfInBounds 70 (.int .i64 0)).setIfInBounds 71 (.int .i64 0))):=hide (row_clk0 (unhide hr'));generalize (PA.setIfInBounds 70 (.int .i64 0)).setIfInBounds 71 (.int .i64 0)=QA at y1 hr2;have hq:=(unhide hr2).size;have ho:=hide (row_ones (unhide hr2));clear c70 c71 f70 f71 x1 x2 hg0 hr' hz
 go_wp2_with (first
  | (refine wpList_load_row rfl 70 _ rfl w.heap.size rfl 70 QA (0,0) _ (by with_reducible exact y1) Tryz.underlying70 rfl (by rw [hq];exact infoP) ?_)
  | (refine wpList_built rfl 117 #[(0,.tmp 9),(1,.tmp 10),(2,.tmp 11)] rfl (qA QA d n) ?_ ?_;focus (first|(go_simp;exact built_q QA hq d n)|(simp;exact built_q QA hq d n)))
  | (refine wpList_store_row rfl 117 _ _ rfl (w.heap.size+1) (qA QA d n) rfl rfl 117 Tryz.zeroCells117 (by with_reducible exact y2) (by rw [qA_size hq];exact infoQ) (by rw [qA_size hq];exact zeroQ) (qA_ones (unhide ho) d n) ?_))
 exact bodyPost_ret (v:=.agg (qA QA d n)) (results_cell_row Tryz.results45 _ _ (w.heap.size+1) 117 _ (0,0) _ rfl (setRow_heap _ _ _ _ _ _ y2) Tryz.underlying117 rfl (by rw [qA_size hq];exact infoQ)) rfl ⟨QA,rfl,unhide hr2,hg2.setRow _ (by omega) _⟩
def svN (g n:Nat):Value:=.slice (some ⟨g,0,none⟩) n n
structure MemI (g n:Nat) (I:World->Prop):Prop where
 st:∀ A A',I A->Fr (fun k _=>k=g) A A'->I A'
 ob:∀ A,I A->∃ S fr,A.heap[g]?=some (.cells S 168 fr)
 rc:∀ {z:Nat->UInt8} {wh:Bool} {fc:Nat->Bool} {b h gg:Int} {QA:Array Value},Ok z wh fc b h gg->Row z wh fc b 0 0 QA->∀ d:Nat,1<=d->d<=3->∀ (way:Int) (W:World),I W →
  Calls Tryz.prog 46 #[.agg #[svN g n],.agg (qA QA (d:Int) way)] W fun e w'=>(e=.returned (.tuple #[.int .u64 0,.bool false])\/e=.returned (.tuple #[.int .u64 ((pathsN d z wh fc b:Nat):Int),.bool true]))/\Gr W w'
 rm:∀ {z:Nat->UInt8} {wh:Bool} {fc:Nat->Bool} {b h gg:Int} {QA:Array Value},Ok z wh fc b h gg->Row z wh fc b 0 0 QA->∀ d:Nat,1<=d->d<=3->∀ (way:Int) (W:World),I W →
  Calls Tryz.prog 48 #[.agg #[svN g n],.agg (qA QA (d:Int) way),.int .u64 ((pathsN d z wh fc b:Nat):Int)] W fun e w'=>(∃ v,e=.returned v)/\Fx g W w'/\I w'
theorem recall0_any (g:Nat) (Q:Array Value) (w:World):Calls Tryz.prog 46 #[.agg #[svN g 0],.agg Q] w fun e w'=>e=.returned (.tuple #[.int .u64 0,.bool false])/\Gr w w':=by
 unfold svN;go_enter Tryz.func46,Tryz.ntmps46;go_wp2_with fail;go_ret2;exact ⟨rfl,((Gr.refl w).alloc _ _).alloc _ _⟩
theorem remember0_any (g:Nat) (Q:Array Value) (v:Int) (w:World):Calls Tryz.prog 48 #[.agg #[svN g 0],.agg Q,.int .u64 v] w fun e w'=>(∃ v,e=.returned v)/\Gr w w':=by
 unfold svN;go_enter Tryz.func48,Tryz.ntmps48;go_wp2_with fail;go_end0;exact ⟨⟨_,rfl⟩,((Gr.refl w).alloc _ _).alloc _ _⟩
theorem mem0 (g:Nat):MemI g 0 (fun A=>∃ S fr,A.heap[g]?=some (.cells S 168 fr)) where
 st:=fun A A' h f=>by obtain ⟨S,fr,h⟩:=h;exact ⟨S,fr,f.same _ _ h rfl⟩
 ob:=fun A h=>h
 rc:=by
  intro z wh fc b h gg QA o r d h1 h2 way W hW;exact (recall0_any g _ W).mono fun e w' h=>⟨.inl h.1,h.2⟩
 rm:=by
  intro z wh fc b h gg QA o r d h1 h2 way W hW;obtain ⟨S,fr,hS⟩:=hW;exact (remember0_any g _ _ W).mono fun e w' k=>⟨k.1,Fx.of k.2,S,fr,(Below.block k.2 _ (Array.getElem?_eq_some_iff.1 hS).1).trans hS⟩
def ctrA (ga gm:Nat) (wn:Int) (g n:Nat):Array Value:=#[.func (.func ga) #[] #[],.func (.func gm) #[] #[],.int .i64 wn,svN g n]
theorem infoCr:(Tryz.prog.info? 78).map (·.size)=some 4:=by kernel_rfl
def PathsC (g n:Nat) (I:World->Prop) (ga gm:Nat) (wn:Int) (d:Nat):Prop :=
 ∀ {z:Nat->UInt8} {wh:Bool} {fc:Nat->Bool} {b h gg:Int} {PA:Array Value},Ok z wh fc b h gg->Row z wh fc b h gg PA->∀ W:World,I W->Wt W →
  Calls Tryz.prog 25 #[.agg (ctrA ga gm wn g n),.agg PA,.int .i64 (d:Int)] W fun e w'=>e=.returned (.int .u64 ((pathsN d z wh fc b:Nat):Int))/\Fx g W w'/\I w'
def SumC (g n:Nat) (I:World->Prop) (ga gm:Nat) (wn:Int) (d:Nat):Prop :=
 ∀ {z:Nat->UInt8} {wh:Bool} {fc:Nat->Bool} {b h gg:Int} {PA:Array Value},Ok z wh fc b h gg->Row z wh fc b h gg PA->∀ W:World,I W->Wt W →
  Calls Tryz.prog 47 #[.agg (ctrA ga gm wn g n),.agg PA,.int .i64 (d:Int)] W fun e w'=>e=.returned (.int .u64 ((pathsN d z wh fc b:Nat):Int))/\Fx g W w'/\I w'
structure Cw (g n:Nat) (I:World->Prop) (ga gm:Nat) (wn:Int) (PA:Array Value) (d:Nat) (b1 b2 b3:Nat) (W:World):Prop where
 c:W.heap[b1]?=some (.cells (ctrA ga gm wn g n) 78)
 p:W.heap[b2]?=some (.cells PA 70)
 d:W.heap[b3]?=some (.cells #[.int .i64 (d:Int)] 3)
 wt:Wt W
 i:I W
theorem Cw.fx {g n:Nat} {I:World->Prop} {ga gm:Nat} {wn:Int} {PA:Array Value} {d b1 b2 b3:Nat} {W W':World} (h:Cw g n I ga gm wn PA d b1 b2 b3 W) (a:Away g) (f:Fx g W W') (h1:b1≠g) (h2:b2≠g) (h3:b3≠g) (hi:I W'):Cw g n I ga gm wn PA d b1 b2 b3 W' :=
 ⟨f.at h.c h1,f.at h.p h2,f.at h.d h3,h.wt.fx a f,hi⟩
theorem Cw.low {g n:Nat} {I:World->Prop} {ga gm:Nat} {wn:Int} {PA:Array Value} {d b1 b2 b3:Nat} {W W':World} {N:Nat} (h:Cw g n I ga gm wn PA d b1 b2 b3 W) (f:Fr (fun k _=>k<N) W W') (h1:b1<N) (h2:b2<N) (h3:b3<N) (ht:Wt W') (hi:I W'):Cw g n I ga gm wn PA d b1 b2 b3 W' :=
 ⟨f.same _ _ h.c h1,f.same _ _ h.p h2,f.same _ _ h.d h3,ht,hi⟩
structure Cm (g n:Nat) (I:World->Prop) (ga gm:Nat) (wn:Int) (PA:Array Value) (d:Nat) (b1 b2 b3:Nat) (V:World) (f t:Nat) (u:UInt8) (W:World):Prop where
 cw:Cw g n I ga gm wn PA d b1 b2 b3 W
 m:W.heap[V.heap.size]?=some (.cells #[.int .i64 (f:Int),.int .i64 (t:Int),.int .u8 (u.toNat:Int)] 87)
 fx:Fx g V W
theorem sum1_any {g n:Nat} {I:World->Prop} {ga gm:Nat} {wn:Int} {d:Nat} (hd:d<=3) (mi:MemI g n I) (aw:Away g) (ih:PathsC g n I ga gm wn d) {z:Nat->UInt8} {wh:Bool} {fc:Nat->Bool} {b h gg:Int} {PA:Array Value} (o:Ok z wh fc b h gg) (r:Row z wh fc b h gg PA)
  (b1 b2 b3:Nat) (h1:b1≠g) (h2:b2≠g) (h3:b3≠g) (f t:Nat) (u:UInt8) (hx:(f,t,u)∈movS z wh fc b) (V:World) (hc:Cw g n I ga gm wn PA (d+1) b1 b2 b3 V) :
  Calls Tryz.prog 96 #[.agg #[.int .i64 (f:Int),.int .i64 (t:Int),.int .u8 (u.toNat:Int)],.pointer (some ⟨b1,0,none⟩),.pointer (some ⟨b2,0,none⟩),.pointer (some ⟨b3,0,none⟩)] V fun e V'=>e=.returned (.int .u64 ((pathsN d (plZ z b (f,t,u)) (!wh) (cfA fc f t 4) (behA z f t):Nat):Int))/\Fx g V V'/\I V':=by
 have hz:=r.size;obtain ⟨c0,c1,c2,c3⟩:=o.clk;obtain ⟨hf,ht,hu,k1,k2⟩:=o.mv hx;have haf:Hid (∀ W,Homes W->Calls Tryz.prog 50 #[.agg PA,.agg #[.int .i64 (f:Int),.int .i64 (t:Int),.int .u8 (u.toNat:Int)]] W fun e w'=>∃ Q,e=.returned (.agg Q)/\Row (plZ z b (f,t,u)) (!wh) (cfA fc f t 4) (behA z f t) (halA z f t h) (fulA wh gg) Q/\Gr W w'):=hide fun W hH=>afterP_any r f t u hf ht k1 k2 c0 c1 c2 c3 W hH
 have hpa:Hid (∀ Q,Row (plZ z b (f,t,u)) (!wh) (cfA fc f t 4) (behA z f t) (halA z f t h) (fulA wh gg) Q->∀ W,I W->Wt W->Calls Tryz.prog 25 #[.agg (ctrA ga gm wn g n),.agg Q,.int .i64 (d:Int)] W fun e w'=>e=.returned (.int .u64 ((pathsN d (plZ z b (f,t,u)) (!wh) (cfA fc f t 4) (behA z f t):Nat):Int))/\Fx g W w'/\I w'):=hide fun Q hq W hi hw=>ih (o.next hx) hq W hi hw
 obtain ⟨S0,fr0,hob⟩:=mi.ob V hc.i;have hgl:g<V.heap.size:=(Array.getElem?_eq_some_iff.1 hob).1;have hnext:Hid (∀ W W',Cm g n I ga gm wn PA (d+1) b1 b2 b3 V f t u W->Fx g W W'->I W'->Cm g n I ga gm wn PA (d+1) b1 b2 b3 V f t u W'):=hide fun W W' k fx hi=>⟨k.cw.fx aw fx h1 h2 h3 hi,fx.at k.m (by omega),Fx.trans k.fx fx⟩
 have hst:Hid (∀ W W',I W->Gr W W'->I W'):=hide fun W W' hi k=>mi.st W W' hi (Fr.of_gr k)
 have hS0:Cm g n I ga gm wn PA (d+1) b1 b2 b3 V f t u (V.alloc (.cells #[.int .i64 (f:Int),.int .i64 (t:Int),.int .u8 (u.toNat:Int)] 87)).drew:=by
  have gr:Gr V (V.alloc (.cells #[.int .i64 (f:Int),.int .i64 (t:Int),.int .u8 (u.toNat:Int)] 87)).drew:=((Gr.refl V).alloc _ _).drew;exact ⟨hc.fx aw (Fx.of gr) h1 h2 h3 (unhide hst _ _ hc.i gr),heap_alloc_new V _,Fx.of gr⟩
 have ed:IntKind.i64.wrap (((d+1:Nat):Int)-1)=(d:Int):=by rw [IntKind.wrap_i64];omega
 have edd:IntKind.i64.wrap (d:Int)=(d:Int):=by rw [IntKind.wrap_i64];omega
 generalize pathsN d (plZ z b (f,t,u)) (!wh) (cfA fc f t 4) (behA z f t)=R at hpa ⊢;clear o r hx ih hc hob hgl c0 c1 c2 c3 hf ht hu k1 k2 mi;go_enter Tryz.func96,Tryz.ntmps96;go_upto_region 1 with fail;refine wp_region_held_drew (S:=Cm g n I ga gm wn PA (d+1) b1 b2 b3 V f t u) (by kernel_rfl) hS0 (fun hHeld=>?_);clear hS0
 refine wpAnyH_take (i:=0) (v:=.agg (ctrA ga gm wn g n)) rfl (by kernel_rfl) (by kernel_rfl) (by kernel_rfl) (fun _ _ _ h=>h) (Or.inl ⟨by rfl,fun w' hw=>(by
  have e0:w'.cell? ⟨b1,0,none⟩=some (.func (.func ga) #[] #[]):=by rw [cells_at hw.cw.c];rfl
  have e1:w'.cell? ⟨b1,1,none⟩=some (.func (.func gm) #[] #[]):=by rw [cells_at hw.cw.c];rfl
  have e2:w'.cell? ⟨b1,2,none⟩=some (.int .i64 wn):=by rw [cells_at hw.cw.c];rfl
  have e3:w'.cell? ⟨b1,3,none⟩=some (svN g n):=by rw [cells_at hw.cw.c];rfl
  go_simp;rfl)⟩) hHeld ?_
 simp only [C.py];refine C.ty 1 (.agg PA) rfl (y_pos hz (by rfl) _ rfl b2 rfl (fun _ h=>rowAt_of h.cw.p)) hHeld ?_
 refine wpAnyH_take (i:=2) (v:=.agg #[.int .i64 (f:Int),.int .i64 (t:Int),.int .u8 (u.toNat:Int)]) rfl (by kernel_rfl) (by kernel_rfl) (by kernel_rfl) (fun _ _ _ h=>h) (Or.inl ⟨by rfl,fun w' hw=>(by
  obtain ⟨e0,e1,e2⟩:=mv_cells hw.m;go_simp;try rfl)⟩) hHeld ?_
 simp only [C.py]
 refine wpAnyH_take (i:=4) (v:=.int .i64 ((d+1:Nat):Int)) rfl (by kernel_rfl) (by kernel_rfl) (by kernel_rfl) (fun _ _ _ h=>h) (Or.inl ⟨by rfl,fun w' hw=>(by
  have e0:=(cell_of_box_l hw.cw.d).1;go_simp;try rfl)⟩) hHeld ?_
 simp only [C.py];refine C.ty 5 (.int .i64 (d:Int)) rfl (Or.inl ⟨by rfl,fun w' hw=>(by go_simp;first|done|exact ed|exact edd)⟩) hHeld ?_;refine C.rd 3 fun K hK=>?_
 go_simp;refine (unhide haf _ hHeld.cw.wt.hom).mono ?_;rintro e wa ⟨Q,rfl,hq,hga⟩;refine hK.out _ _ (unhide hnext _ _ hHeld (Fx.of hga) (unhide hst _ _ hHeld.cw.i hga)) (fun hHeld=>?_);clear hK K hga
 try simp only [C.py]
 refine C.rd 6 fun K hK=>?_
 go_simp;refine (unhide hpa Q hq _ hHeld.cw.i hHeld.cw.wt).mono ?_;rintro e wb ⟨rfl,hgb,hib⟩;refine hK.out _ _ (unhide hnext _ _ hHeld hgb hib) (fun hHeld=>?_);clear hK K hgb
 try simp only [C.py]
 refine C.rd 7 fun K hK=>?_
 go_simp;refine hK.out _ _ hHeld (fun hHeld=>?_);clear hK K
 try simp only [C.py]
 refine wpAnyH_done (by kernel_rfl) ?_ _;go_wp2_with fail;go_ret;exact ⟨rfl,hHeld.fx,hib⟩
theorem sumC_any {g n:Nat} {I:World->Prop} {ga gm gi:Nat} {wn:Int} (mi:MemI g n I) (aw:Away g) (wy:WayN wn ga gm gi) (d:Nat) (hd:d+1<=3) (ih:PathsC g n I ga gm wn d):SumC g n I ga gm wn (d+1):=by
 intro z wh fc b h gg PA o r w hi hw;have hz:=r.size;obtain ⟨S0,fr0,hob⟩:=mi.ob w hi;have hgl:g<w.heap.size:=(Array.getElem?_eq_some_iff.1 hob).1;obtain ⟨x1,x2,x3,x4⟩:=heapThree w (.cells (ctrA ga gm wn g n) 78) (.cells PA 70) (.cells #[.int .i64 ((d+1:Nat):Int)] 3);have hg0:Gr w (((w.alloc (.cells (ctrA ga gm wn g n) 78)).alloc (.cells PA 70)).alloc (.cells #[.int .i64 ((d+1:Nat):Int)] 3)):=(((Gr.refl w).alloc _ _).alloc _ _).alloc _ _;obtain ⟨R,hR⟩:∃ R,Hid (R=pathsN (d+1) z wh fc b):=⟨_,hide rfl⟩;rw [<-unhide hR];go_enter Tryz.func47,Tryz.ntmps47;go_upto_region 1 with fail;show Code.wp _ _ _ _ (((w.alloc (.cells (ctrA ga gm wn g n) 78)).alloc (.cells PA 70)).alloc (.cells #[.int .i64 ((d+1:Nat):Int)] 3));generalize (((w.alloc (.cells (ctrA ga gm wn g n) 78)).alloc (.cells PA 70)).alloc (.cells #[.int .i64 ((d+1:Nat):Int)] 3))=w0 at x1 x2 x3 x4 hg0 ⊢;have hi0:I w0:=mi.st _ _ hi (Fr.of_gr hg0);have hw0:=hw.gr hg0;have hcw0:Cw g n I ga gm wn PA (d+1) w.heap.size (w.heap.size+1) (w.heap.size+2) w0:=⟨x1,x2,x3,hw0,hi0⟩;obtain ⟨xs,hpm,mk⟩:=wy.mk' r o w0 hw0;have em:=mk.em;have hgo:=hide mk.go;have c1:w0.cell? ⟨w.heap.size,1,none⟩=some (.func (.func gm) #[] #[]):=by rw [cells_at x1];rfl
 have c3:=(cell_of_box_l x3).1;by_cases h0:d=0
 ·subst h0;have hcnt:Hid (∀ lb C W,NoSlot C W->It Tryz.prog gi lb encM (fun _=>False) C xs W->Calls Tryz.prog 94 #[.func (.func gi) #[] lb] W fun e w'=>e=.returned (.int .i64 ((xs.length:Nat):Int))/\Gr W w'):=hide fun lb C W h1 h2=>countM_any h2 mk.ei (fun k hk=>(h1 k hk).1) (by have:=hpm.length_eq;have:=movS_len z wh fc b;omega)
  have hl:R=xs.length:=by rw [unhide hR,show 0+1=1 from rfl,paths_one,hpm.length_eq]
  have hl6:xs.length<=1000000:=by rw [hpm.length_eq];exact movS_len z wh fc b
  have ew:IntKind.u64.wrap ((xs.length:Nat):Int)=((xs.length:Nat):Int):=by rw [IntKind.wrap_u64];omega
  have e1:(((0+1:Nat):Int)==1)=true:=by decide
  have hfin:Hid (∀ W,Gr w0 W->Fx g w W/\I W):=hide fun W k=>⟨Fx.of (Gr.trans hg0 k),mi.st _ _ hi0 (Fr.of_gr k)⟩
  subst hl;clear ih hob o r hcw0 hw0 hi0 mi aw mk hpm hi hw hR
  go_wp2_with (first
   | (refine wpList_load_row rfl 70 _ rfl (w.heap.size+1) rfl 70 PA (0,0) _ (by with_reducible exact x2) Tryz.underlying70 rfl (by rw [hz];exact infoP) ?_)
   | (go_at_fn gm;refine (unhide hgo).mono ?_;rintro e w1 ⟨lb,C,rfl,hg1,hns,hit⟩)
   | (go_at_call 94;refine (unhide hcnt _ _ _ hns hit).mono ?_;rintro e w2 ⟨rfl,hg2⟩))
  go_ret;exact ⟨rfl,unhide hfin _ (Gr.trans hg1 hg2)⟩
 ·have e1:(((d+1:Nat):Int)==1)=false:=by rw [beq_eq_false_iff_ne];omega
  have hsum:Hid (∀ lb C W,Gr w0 W->NoSlot C W->It Tryz.prog gi lb encM (fun _=>False) C xs W->Calls Tryz.prog 95 #[.func (.func gi) #[] lb,.func (.func 96) #[] #[.pointer (some ⟨w.heap.size,0,none⟩),.pointer (some ⟨w.heap.size+1,0,none⟩),.pointer (some ⟨w.heap.size+2,0,none⟩)]] W fun e w'=>e=.returned (.int .u64 ((R:Nat):Int))/\Fx g w w'/\I w'):=hide fun lb C W hgW hns hit=>by
   have hiW:I W:=mi.st _ _ hi0 (Fr.of_gr hgW);have hcW:=hcw0.fx aw (Fx.of hgW) (by omega) (by omega) (by omega) hiW;obtain ⟨S1,fr1,hob1⟩:=mi.ob W hiW;have hsz:=Below.size hgW
   have:=sumU_any hit mk.ei (fun k hk=>(hns k hk).1) g (hns.not aw hob1) (by omega) w.heap.size (w.heap.size+1) (w.heap.size+2) (fun x=>pathsN d (plZ z b x) (!wh) (cfA fc x.1 x.2.1 4) (behA z x.1 x.2.1)) (Cw g n I ga gm wn PA (d+1) w.heap.size (w.heap.size+1) (w.heap.size+2))
    (fun A A' hA f=>hA.low f (by omega) (by omega) (by omega) (hA.wt.low hcW.wt f) (mi.st _ _ hA.i (f.mono fun k _ _ hk=>by omega))) hcW
    (fun f t u hx V hV=>(sum1_any (by omega) mi aw ih o r w.heap.size (w.heap.size+1) (w.heap.size+2) (by omega) (by omega) (by omega) f t u (hpm.mem_iff.1 hx) V hV).mono fun e V' k=>?_) (by rw [paths_perm hpm d];exact paths_lt hd z wh fc b)
   ·refine this.mono ?_;rintro e w' ⟨rfl,k1,k2⟩;exact ⟨by rw [paths_perm hpm d,unhide hR],Fx.trans (Fx.of (Gr.trans hg0 hgW)) k1,k2.i⟩
   ·exact ⟨k.1,k.2.1,hV.fx aw k.2.1 (by omega) (by omega) (by omega) k.2.2⟩
  clear ih hob o r hcw0 hw0 hi0 mi aw mk hpm hi hw hR
  go_wp2_with (first
   | (refine wpList_load_row rfl 70 _ rfl (w.heap.size+1) rfl 70 PA (0,0) _ (by with_reducible exact x2) Tryz.underlying70 rfl (by rw [hz];exact infoP) ?_)
   | (go_at_fn gm;refine (unhide hgo).mono ?_;rintro e w1 ⟨lb,C,rfl,hg1,hns,hit⟩)
   | (go_at_call 95;refine (unhide hsum _ _ _ hg1 hns hit).mono ?_;rintro e w2 ⟨rfl,hg2⟩))
  go_ret;exact ⟨rfl,hg2⟩
structure Pw (g n:Nat) (I:World->Prop) (ga gm:Nat) (wn:Int) (PA Q:Array Value) (b1 b2 b3:Nat) (w W:World):Prop where
 c:W.heap[b1]?=some (.cells (ctrA ga gm wn g n) 78)
 p:W.heap[b2]?=some (.cells PA 70)
 q:W.heap[b3]?=some (.cells Q 117)
 wt:Wt W
 i:I W
 fx:Fx g w W
theorem Pw.next {g n:Nat} {I:World->Prop} {ga gm:Nat} {wn:Int} {PA Q:Array Value} {b1 b2 b3:Nat} {w W W':World} (h:Pw g n I ga gm wn PA Q b1 b2 b3 w W) (a:Away g) (f:Fx g W W') (h1:b1≠g) (h2:b2≠g) (h3:b3≠g) (hi:I W'):Pw g n I ga gm wn PA Q b1 b2 b3 w W' :=
 ⟨f.at h.c h1,f.at h.p h2,f.at h.q h3,h.wt.fx a f,hi,Fx.trans h.fx f⟩
theorem Pw.c3 {g n:Nat} {I:World->Prop} {ga gm:Nat} {wn:Int} {PA Q:Array Value} {b1 b2 b3:Nat} {w W:World} (h:Pw g n I ga gm wn PA Q b1 b2 b3 w W):W.cell? ⟨b1,3,none⟩=some (svN g n):=by rw [cells_at h.c];rfl
theorem Pw.cs {g n:Nat} {I:World->Prop} {ga gm:Nat} {wn:Int} {PA Q:Array Value} {b1 b2 b3:Nat} {w W:World} (h:Pw g n I ga gm wn PA Q b1 b2 b3 w W):W.cell? ⟨b1,0,none⟩=some (.func (.func ga) #[] #[])/\W.cell? ⟨b1,1,none⟩=some (.func (.func gm) #[] #[])/\W.cell? ⟨b1,2,none⟩=some (.int .i64 wn):=by
 refine ⟨?_,?_,?_⟩<;>(rw [cells_at h.c];rfl)
theorem paths_any {g n:Nat} {I:World->Prop} {ga gm gi:Nat} {wn:Int} (mi:MemI g n I) (aw:Away g) (wy:WayN wn ga gm gi):∀ d:Nat,d<=3->PathsC g n I ga gm wn d:=by
 intro d;induction d with
 | zero =>
  intro _ z wh fc b h gg PA o r w hi hw;have hfin:Hid (∀ W,Gr w W->Fx g w W/\I W):=hide fun W k=>⟨Fx.of k,mi.st _ _ hi (Fr.of_gr k)⟩
  show Calls Tryz.prog 25 #[.agg (ctrA ga gm wn g n),.agg PA,.int .i64 0] w fun e w'=>e=.returned (.int .u64 1)/\Fx g w w'/\I w'
  clear o r hi hw mi;go_enter Tryz.func25,Tryz.ntmps25;go_wp2_with fail;go_ret;exact ⟨rfl,unhide hfin _ (((Gr.refl w).alloc _ _).alloc _ _)⟩
 | succ d ih =>
  intro hd z wh fc b h gg PA o r w hi hw;have hsumC:SumC g n I ga gm wn (d+1):=sumC_any mi aw wy d hd (ih (by omega));have hz:=r.size;obtain ⟨S0,fr0,hob⟩:=mi.ob w hi;have hgl:g<w.heap.size:=(Array.getElem?_eq_some_iff.1 hob).1;obtain ⟨x1,x2⟩:=heapTwo w (.cells (ctrA ga gm wn g n) 78) (.cells PA 70);have hg0:Gr w ((w.alloc (.cells (ctrA ga gm wn g n) 78)).alloc (.cells PA 70)):=((Gr.refl w).alloc _ _).alloc _ _;have hs0:((w.alloc (.cells (ctrA ga gm wn g n) 78)).alloc (.cells PA 70)).heap.size=w.heap.size+2:=by simp
  have hask:Hid (∀ W,Calls Tryz.prog 45 #[.agg PA,.int .i64 ((d+1:Nat):Int),.int .i64 wn] W fun e w'=>∃ QA,e=.returned (.agg (qA QA ((d+1:Nat):Int) wn))/\Row z wh fc b 0 0 QA/\Gr W w'):=hide fun W=>ask_any r _ _ W
  have hrec:Hid (∀ QA,Row z wh fc b 0 0 QA->∀ W,I W->Calls Tryz.prog 46 #[.agg #[svN g n],.agg (qA QA ((d+1:Nat):Int) wn)] W fun e w'=>(e=.returned (.tuple #[.int .u64 0,.bool false])\/e=.returned (.tuple #[.int .u64 ((pathsN (d+1) z wh fc b:Nat):Int),.bool true]))/\Gr W w'):=hide fun QA hq W hi=>mi.rc o hq (d+1) (by omega) hd wn W hi
  have hrem:Hid (∀ QA,Row z wh fc b 0 0 QA->∀ W,I W->Calls Tryz.prog 48 #[.agg #[svN g n],.agg (qA QA ((d+1:Nat):Int) wn),.int .u64 ((pathsN (d+1) z wh fc b:Nat):Int)] W fun e w'=>(∃ v,e=.returned v)/\Fx g W w'/\I w'):=hide fun QA hq W hi=>mi.rm o hq (d+1) (by omega) hd wn W hi
  have hsm:Hid (∀ W,I W->Wt W->Calls Tryz.prog 47 #[.agg (ctrA ga gm wn g n),.agg PA,.int .i64 ((d+1:Nat):Int)] W fun e w'=>e=.returned (.int .u64 ((pathsN (d+1) z wh fc b:Nat):Int))/\Fx g W w'/\I w'):=hide fun W hi hw=>hsumC o r W hi hw
  have hst:Hid (∀ W W',I W->Gr W W'->I W'):=hide fun W W' hi k=>mi.st W W' hi (Fr.of_gr k)
  have ho72:Hid (∀ QA d n,Row z wh fc b 0 0 QA->(qA QA d n).size=74/\(qA QA d n).all (·.oneCell')=true):=hide fun QA d n hq=>⟨qA_size hq.size d n,qA_ones (row_ones hq) d n⟩
  have e0:(((d+1:Nat):Int)==0)=false:=by rw [beq_eq_false_iff_ne];omega
  generalize pathsN (d+1) z wh fc b=R at hrec hrem hsm ⊢;clear ih hob o r hsumC mi wy;go_enter Tryz.func25,Tryz.ntmps25;go_upto_region 3 with fail;show Code.wp _ _ _ _ ((w.alloc (.cells (ctrA ga gm wn g n) 78)).alloc (.cells PA 70));generalize ((w.alloc (.cells (ctrA ga gm wn g n) 78)).alloc (.cells PA 70))=w0 at x1 x2 hg0 hs0 ⊢;have hi0:I w0:=unhide hst _ _ hi hg0;have hw0:=hw.gr hg0;have c2:w0.cell? ⟨w.heap.size,2,none⟩=some (.int .i64 wn):=by rw [cells_at x1];rfl
  go_upto_region 4 with (first
   | (refine wpList_load_row rfl 70 _ rfl (w.heap.size+1) rfl 70 PA (0,0) _ (by with_reducible exact x2) Tryz.underlying70 rfl (by rw [hz];exact infoP) ?_)
   | (go_at_call 45;refine (unhide hask _).mono ?_;rintro e w1 ⟨QA,rfl,hq,hg1⟩;have y1:=heap_alloc_new w1 (.cells Tryz.zeroCells117 117);obtain ⟨q74,qone⟩:=unhide ho72 QA ((d+1:Nat):Int) wn hq)
   | (refine wpList_store_row rfl 117 _ _ rfl w1.heap.size (qA QA ((d+1:Nat):Int) wn) rfl rfl 117 Tryz.zeroCells117 (by with_reducible exact y1) (by rw [q74];exact infoQ) (by rw [q74];exact zeroQ) qone ?_))
  have hP:Pw g n I ga gm wn PA (qA QA ((d+1:Nat):Int) wn) w.heap.size (w.heap.size+1) w1.heap.size w ((w1.alloc (.cells Tryz.zeroCells117 117)).setRow w1.heap.size (qA QA ((d+1:Nat):Int) wn)):=by
   have hk:Gr w1 ((w1.alloc (.cells Tryz.zeroCells117 117)).setRow w1.heap.size (qA QA ((d+1:Nat):Int) wn)):=((Gr.refl w1).alloc _ _).setRow _ (Nat.le_refl _) _;have hk2:=Gr.trans hg1 hk;exact ⟨(Below.block hk2 _ (heap_lt x1)).trans x1,(Below.block hk2 _ (heap_lt x2)).trans x2,setRow_heap _ _ _ _ _ _ y1,hw0.gr hk2,unhide hst _ _ hi0 hk2,Fx.of (Gr.trans hg0 hk2)⟩
  have hb3:w1.heap.size≠g:=by have:=Below.size hg1;omega
  generalize ((w1.alloc (.cells Tryz.zeroCells117 117)).setRow w1.heap.size (qA QA ((d+1:Nat):Int) wn))=w2 at hP ⊢;generalize w1.heap.size=b3 at hP hb3 ⊢;have hb1:w.heap.size≠g:=by omega
  have hb2:w.heap.size+1≠g:=by omega
  have hrec2:=hide (unhide hrec QA hq);have hrem2:=hide (unhide hrem QA hq);clear hask hrec hrem hi0 hw0 c2 x1 x2 hg0 hg1 y1 hi hw ho72 hq qone e0;generalize qA QA ((d+1:Nat):Int) wn=Q at hP hrec2 hrem2 q74 ⊢;have c3:=hP.c3;have cq:=hP.q
  go_upto_region 5 with (first
   | (refine wpList_load_row rfl 117 _ rfl b3 rfl 117 Q (0,0) _ (by with_reducible exact cq) Tryz.underlying117 rfl (by rw [q74];exact infoQ) ?_)
   | (go_at_call 46;refine (unhide hrec2 _ hP.i).mono ?_;rintro e w3 ⟨rfl|rfl,hg3⟩))
  ·have hP3:=hP.next aw (Fx.of hg3) hb1 hb2 hb3 (unhide hst _ _ hP.i hg3);clear hrec2 c3 cq hP hg3;obtain ⟨d0,d1,d2⟩:=hP3.cs;have d3:=hP3.c3;have dp:=hP3.p
   go_upto_region 8 with (first
    | (refine wpList_load_row rfl 70 _ rfl (w.heap.size+1) rfl 70 PA (0,0) _ (by with_reducible exact dp) Tryz.underlying70 rfl (by rw [hz];exact infoP) ?_)
    | (refine wpList_load_row rfl 78 _ rfl w.heap.size rfl 78 (ctrA ga gm wn g n) (0,0) _ (by with_reducible exact hP3.c) Tryz.underlying78 rfl infoCr ?_)
    | (go_at_call 47;refine (unhide hsm _ hP3.i hP3.wt).mono ?_;rintro e w4 ⟨rfl,hf4,hi4⟩))
   have hP4:=hP3.next aw hf4 hb1 hb2 hb3 hi4;clear d0 d1 d2 d3 dp hP3 hf4 hi4 hsm;have c3:=hP4.c3;have cq:=hP4.q
   go_wp2_with (first
    | (refine wpList_load_row rfl 117 _ rfl b3 rfl 117 Q (0,0) _ (by with_reducible exact cq) Tryz.underlying117 rfl (by rw [q74];exact infoQ) ?_)
    | (go_at_call 48;refine (unhide hrem2 _ hP4.i).mono ?_;rintro e w5 ⟨⟨v,rfl⟩,hf5,hi5⟩))
   go_ret;exact ⟨rfl,Fx.trans hP4.fx hf5,hi5⟩
  ·have hP3:=hP.next aw (Fx.of hg3) hb1 hb2 hb3 (unhide hst _ _ hP.i hg3);clear hrec2 c3 cq hP hg3;go_wp2_with fail;go_ret;exact ⟨rfl,hP3.fx,hP3.i⟩
def behN (d:Nat) (z:Nat->UInt8) (wh:Bool) (fc:Nat->Bool) (b:Int) (x:Mv):Nat:=pathsN d (plZ z b x) (!wh) (cfA fc x.1 x.2.1 4) (behA z x.1 x.2.1)
abbrev Ct2:=ByteArray × Nat
def ctC (c:Ct2):List Value:=[.string c.1,.int .u64 (c.2:Int)]
def rowC (l:List Ct2):List Value:=l.flatMap ctC
theorem rowC_snoc (l:List Ct2) (c:Ct2):rowC (l++[c])=rowC l++ctC c:=by simp [rowC]
def Cts (base:Nat) (v:Value) (l:List Ct2) (w:World):Prop:=w.ownsRow base 37 2 v l.length (rowC l)
theorem infoCt:(Tryz.prog.info? 37).map (fun i=>(i.zero,i.size,i.bytes))=some (some (.agg #[.string ⟨#[]⟩,.int .u64 0]),2,24):=by kernel_rfl
theorem cts_block {base:Nat} {v:Value} {l:List Ct2} {w:World} (h:Cts base v l w):∀ k,v.ownBlock=some k->base<=k:=by
 intro k hk;rcases h.2 with ⟨rfl,_⟩|⟨g,cap,cur,rfl,hb,_⟩
 ·simp [Value.ownBlock] at hk
 ·obtain rfl:g=k:=by simpa [Value.ownBlock] using hk
  exact hb
def divL (d:Nat) (z:Nat->UInt8) (wh:Bool) (fc:Nat->Bool) (b:Int) (l:List Mv):List Ct2:=l.map fun x=>(str (txt x),behN d z wh fc b x)
def DivEnd (s:ByteArray) (d n:Int) (base:Nat) (e:Ending) (w':World):Prop :=
 (∃ k,BadK s k/\e=.returned (.tuple #[nilS,.int .i64 k])) ∨
 (∃ p,readS s=some p/\posCan p=true/\¬ (1<=d/\d<=3)/\e=.returned (.tuple #[nilS,.int .i64 5])) ∨
 (∃ p,readS s=some p/\posCan p=true/\(1<=d/\d<=3)/\¬ (n=1\/n=2)/\e=.returned (.tuple #[nilS,.int .i64 3])) ∨
 (∃ p v,∃ m:Nat,readS s=some p/\posCan p=true/\d=(m:Int)+1/\m<=2/\(n=1\/n=2)/\e=.returned (.tuple #[v,.int .i64 0]) ∧
  Cts base v (divL m (posZ p) p.white (fcN p.castle) p.behind (sortM (movS (posZ p) p.white (fcN p.castle) p.behind))) w')
theorem cells_new2 (w:World) (S:ByteArray) (x:Nat):∀ j u',[Value.string S,.int .u64 (x:Int)][j]?=some u'->(w.alloc (.cells #[.string S,.int .u64 (x:Int)] 37)).cell? ((⟨w.heap.size,0,none⟩:Addr).add j)=some u':=fun j u' hu=>by
 rw [Addr.add_lit,Nat.zero_add,World.cell?_alloc_at _ _ _ _ rfl,<-Array.getElem?_toList];exact hu
end Go.Proofs.YtnfakamfmkhlbabGreatDoor.C
