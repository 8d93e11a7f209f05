import Derived.Test.YtnfakamfmkhlbaaGreatDoorZk3
import Derived.Test.YtnfakamfmkhlbaaGreatDoorKz2
import Derived.Test.YtnfakamfmkhlbaaGreatDoorKz3
set_option maxRecDepth 100000
set_option maxHeartbeats 4000000
set_option linter.unusedSimpArgs false
namespace Go.Proofs.YtnfakamfmkhlbaaGreatDoor.C
open Go.ChangeShapes Go.WideShapes Go.ChangeAt Go.RowKit Go.Shelf
open Go.Proofs.YtnfakamfmkhlbaaGreatDoor.P
structure Away (g:Nat):Prop where
 t1:g≠2
 t2:g≠3
 t3:g≠1
 t4:g≠0
structure Wt (w:World):Prop where
 tab:TabIn w
 cas:CasTab w
 st:StTab w
 hom:Homes w
theorem Homes.fr {Q:Nat->Obj->Prop} {w w':World} (h:Homes w) (f:Fr Q w w') (hq:∀ o,Q 0 o):Homes w' :=
 ⟨fun j v hv=>f.cell (h.1 j v hv) (fun o _=>hq o),Nat.lt_of_lt_of_le h.2 f.size⟩
theorem Wt.gr {w w':World} (h:Wt w) (g:Gr w w'):Wt w':=⟨h.tab.gr g,h.cas.gr g,h.st.gr g,h.hom.gr g⟩
theorem Wt.fx {g:Nat} {w w':World} (h:Wt w) (a:Away g) (f:Fx g w w'):Wt w':=⟨h.tab.fr f (fun _=>a.t1.symm),h.cas.fr f (fun _=>a.t2.symm),h.st.fr f (fun _=>a.t3.symm),h.hom.fr f (fun _=>a.t4.symm)⟩
theorem Wt.lt {w:World} (h:Wt w) {n:Nat} (hn:w.heap.size<=n):Away n:=by
 have a:=h.tab.2;have b:=h.cas.2;have c:=h.st.2;have d:=h.hom.2;exact ⟨by omega,by omega,by omega,by omega⟩
theorem Wt.low {w1 w w':World} (h:Wt w) (h1:Wt w1) (f:Fr (fun k _=>k<w1.heap.size) w w'):Wt w':=⟨⟨fun j hj=>f.cell (h.tab.1 j hj) (fun _ _=>h1.tab.2),Nat.lt_of_lt_of_le h.tab.2 f.size⟩,⟨fun j v hv=>f.cell (h.cas.1 j v hv) (fun _ _=>h1.cas.2),Nat.lt_of_lt_of_le h.cas.2 f.size⟩,⟨fun j v hv=>f.cell (h.st.1 j v hv) (fun _ _=>h1.st.2),Nat.lt_of_lt_of_le h.st.2 f.size⟩,⟨fun j v hv=>f.cell (h.hom.1 j v hv) (fun _ _=>h1.hom.2),Nat.lt_of_lt_of_le h.hom.2 f.size⟩⟩
def NoSlot (C:Nat->Prop) (w:World):Prop:=∀ k,C k->k<w.heap.size/\((k=2\/k=3\/k=1)\/∃ c ty fr,ty≠291/\w.heap[k]?=some (.cells c ty fr))
theorem NoSlot.not {C:Nat->Prop} {w:World} (h:NoSlot C w) {g:Nat} (a:Away g) {S:Array Value} {fr:Nat × Nat} (hg:w.heap[g]?=some (.cells S 291 fr)):¬ C g:=fun hc=>by
 rcases (h g hc).2 with (e|e|e)|⟨c,ty,f2,hn,e⟩
 ·exact a.t1 e
 ·exact a.t2 e
 ·exact a.t3 e
 ·rw [hg] at e;injection e with e;injection e with _ e _;exact hn e.symm
structure MkJt (gm gi:Nat) (PA:Array Value) (xs:List Mv) (w:World):Prop where
 em:∀ args w,(callFunc gm args).run Tryz.prog w=.ok (.enter gm args) w
 ei:∀ args w,(callFunc gi args).run Tryz.prog w=.ok (.enter gi args) w
 go:Calls Tryz.prog gm #[.agg PA] w fun e w'=>∃ lb C,e=.returned (.func (.func gi) #[] lb)/\Gr w w'/\NoSlot C w'/\It Tryz.prog gi lb encM (fun _=>False) C xs w'
variable {z:Nat->UInt8} {wh:Bool} {fc:Nat->Bool} {b h g:Int} {PA:Array Value}
theorem mkSj (r:Row z wh fc b h g PA) (o:Ok z wh fc b h g) (w:World) (ht:Wt w):MkJt 105 171 PA (movS z wh fc b) w where
 em:=enters_of Tryz.func105 (by kernel_rfl) rfl
 ei:=enters_of Tryz.func171 (by kernel_rfl) rfl
 go:=by
  refine (qx3 PA w).mono ?_;rintro e w' ⟨rfl,hp,hg2⟩;refine ⟨_,_,rfl,hg2,?_,movesS_it r o.lay o.b0 o.b1 w.heap.size _ (fun _ h=>h.elim) w' hp (ht.tab.gr hg2) (ht.cas.gr hg2)⟩;rintro k (rfl|rfl|rfl)
  ·exact ⟨(Array.getElem?_eq_some_iff.1 hp).1,.inr ⟨_,_,_,by decide,hp⟩⟩
  ·exact ⟨(ht.tab.gr hg2).2,.inl (by simp)⟩
  ·exact ⟨(ht.cas.gr hg2).2,.inl (by simp)⟩
theorem mkLj (r:Row z wh fc b h g PA) (o:Ok z wh fc b h g) (w:World) (ht:Wt w):MkJt 98 235 PA (letL z wh fc b) w where
 em:=enters_of Tryz.func98 (by kernel_rfl) rfl
 ei:=enters_of Tryz.func235 (by kernel_rfl) rfl
 go:=by
  have hok:=qqq o.good o.b0 o.b1;have hTm:OnlyMv (fun _=>False):=fun _ h=>h.elim
  refine (qqi PA w).mono ?_;rintro e w' ⟨B1,Bt,Bf,rfl,hp,h1,ht1,hf,hg2⟩;have hS':=ht.st.gr hg2;have hps:=Ps.of r hp;have hit:=qzb hok.home B1 w.heap.size _ hTm w' (qe h1).1 hps hS';refine ⟨_,_,rfl,hg2,?_,onlyM_it hit (enters_of Tryz.func236 (by kernel_rfl) rfl) (enters_of Tryz.func165 (by kernel_rfl) rfl) (OnlyMv.cells hTm) (fun c fr h=>h) ?_ Bt Bf (letP z wh b) ht1 hf ?_⟩
  ·rintro k ((rfl|rfl|rfl)|rfl|rfl)
   ·exact ⟨(Array.getElem?_eq_some_iff.1 h1).1,.inr ⟨_,_,_,by decide,h1⟩⟩
   ·exact ⟨(Array.getElem?_eq_some_iff.1 hp).1,.inr ⟨_,_,_,by decide,hp⟩⟩
   ·exact ⟨hS'.2,.inl (by simp)⟩
   ·exact ⟨(Array.getElem?_eq_some_iff.1 ht1).1,.inr ⟨_,_,_,by decide,ht1⟩⟩
   ·exact ⟨(Array.getElem?_eq_some_iff.1 hf).1,.inr ⟨_,_,_,by decide,hf⟩⟩
  ·rintro k (rfl|rfl|rfl)
   ·exact (Array.getElem?_eq_some_iff.1 h1).1
   ·exact (Array.getElem?_eq_some_iff.1 hp).1
   ·exact hS'.2
  ·rintro ⟨f,t,u⟩ hx V fV;obtain ⟨y,hy,hky⟩:=hok.kg _ hx;have hm:=alU_ok hok.home hx;have:=judge_any r f t u hm.1 hm.2 (hok.k1 f t u hx) (hok.k2 f t u hx) y hy hky w.heap.size V (fV.same _ _ hp (.inr (.inl rfl))) (hS'.fr fV (fun _=>.inr (.inr rfl)));have e:letP z wh b (f,t,u)=!(attLB (plZ z b (f,t,u)) y (!wh)):=by unfold letP;rw [hky];rfl
   rw [e];exact this
structure WayN (n:Int) (ga gm gi:Nat):Prop where
 is:(n=1/\ga=97/\gm=98/\gi=235)\/(n=2/\ga=104/\gm=105/\gi=171)
theorem WayN.mk' {n:Int} {ga gm gi:Nat} (a:WayN n ga gm gi) (r:Row z wh fc b h g PA) (o:Ok z wh fc b h g) (w:World) (ht:Wt w):∃ xs:List Mv,xs.Perm (movS z wh fc b)/\MkJt gm gi PA xs w:=by
 rcases a.is with ⟨_,_,rfl,rfl⟩|⟨_,_,rfl,rfl⟩
 ·exact ⟨_,let_perm o.good o.b0 o.b1,mkLj r o w ht⟩
 ·exact ⟨_,List.Perm.refl _,mkSj r o w ht⟩
theorem WayN.em {n:Int} {ga gm gi:Nat} (a:WayN n ga gm gi):∀ args w,(callFunc gm args).run Tryz.prog w=.ok (.enter gm args) w:=by
 rcases a.is with ⟨_,_,rfl,rfl⟩|⟨_,_,rfl,rfl⟩
 ·exact enters_of Tryz.func98 (by kernel_rfl) rfl
 ·exact enters_of Tryz.func105 (by kernel_rfl) rfl
end Go.Proofs.YtnfakamfmkhlbaaGreatDoor.C
namespace Go.Proofs.YtnfakamfmkhlbaaGreatDoor.C
open Go.ChangeShapes Go.WideShapes Go.ChangeAt Go.RowKit Go.Shelf
open Go.Proofs.YtnfakamfmkhlbaaGreatDoor.P
attribute [local go_sem] qd qi Oper.semAt_some
theorem builtQ (parts:List (Nat × Value)):Tryz.prog.built 202 parts=Instr.fill (fun i=>(#[(0,72),(72,1),(73,1)]:Array (Nat × Nat))[i]?) Tryz.zeroCells202 parts:=by kernel_rfl
theorem zeroQ:Tryz.zeroCells202.size=74:=by kernel_rfl
theorem infoQ:(Tryz.prog.info? 202).map (·.size)=some 74:=by kernel_rfl
def qA (A:Array Value) (d n:Int):Array Value:=A++#[.int .i64 d,.int .i64 n]
theorem qvs {A:Array Value} (h:A.size=72) (d n:Int):(qA A d n).size=74:=by unfold qA;simp [h]
theorem zt {A:Array Value} (h:A.all (·.oneCell')=true) (d n:Int):(qA A d n).all (·.oneCell')=true:=by
 unfold qA;rw [Array.all_append,h];simp [Value.oneCell']
theorem built_q (A:Array Value) (hA:A.size=72) (d n:Int):Tryz.prog.built 202 [(0,.agg A),(1,.int .i64 d),(2,.int .i64 n)]=some (qA A d n):=by
 rw [builtQ];have p0:=jf 0 A Tryz.zeroCells202;have p1:=jf 72 #[.int .i64 d] (put 0 A Tryz.zeroCells202);have p2:=jf 73 #[.int .i64 n] (put 72 #[.int .i64 d] (put 0 A Tryz.zeroCells202));have z:=zeroQ
 rw [xh _ _ 0 0 72 _ _ rfl (by simpa [Value.cells] using hA) (by omega),
  xh _ _ 1 72 1 _ _ rfl rfl (by simp only [Value.cells];omega),xh _ _ 2 73 1 _ _ rfl rfl (by simp only [Value.cells];omega)]
 simp only [Instr.fill,Value.cells,Option.some.injEq];apply Array.ext_getElem?;intro i;rw [p2.2 i (by simp;omega),p1.2 i (by simp;omega),p0.2 i (by omega)];unfold qA;rw [Array.getElem?_append,hA];by_cases h0:i<72
 ·rw [if_neg (by simp;omega),if_neg (by simp;omega),if_pos ⟨by omega,by omega⟩,if_pos h0];simp
 ·by_cases h8:i<74
  ·have:i=72\/i=73:=by omega
   rcases this with rfl|rfl<;>simp
  ·rw [if_neg (by simp;omega),if_neg (by simp;omega),if_neg (by omega),if_neg h0,Array.getElem?_eq_none (by omega),Array.getElem?_eq_none (by simp;omega)]
theorem row_clk0 {z:Nat->UInt8} {wh:Bool} {fc:Nat->Bool} {b h g:Int} {PA:Array Value} (r:Row z wh fc b h g PA):Row z wh fc b 0 0 ((PA.setIfInBounds 70 (.int .i64 0)).setIfInBounds 71 (.int .i64 0)):=by
 have hs:=r.size
 have at':∀ i,i≠70->i≠71->((PA.setIfInBounds 70 (.int .i64 0)).setIfInBounds 71 (.int .i64 0))[i]?=PA[i]?:=fun i h0 h1=>by
  rw [Array.getElem?_setIfInBounds_ne (by omega),Array.getElem?_setIfInBounds_ne (by omega)]
 exact ⟨by simp [hs],fun i hi=>by rw [at' i (by omega) (by omega)];exact r.sq i hi,by rw [at' 64 (by omega) (by omega)];exact r.wh,fun i hi=>by rw [at' _ (by omega) (by omega)];exact r.c i hi,by rw [at' 69 (by omega) (by omega)];exact r.b,
  by rw [Array.getElem?_setIfInBounds_ne (by omega),Array.getElem?_setIfInBounds_self_of_lt (by omega)],by rw [Array.getElem?_setIfInBounds_self_of_lt (by simp;omega)]⟩
theorem ask_any {z:Nat->UInt8} {wh:Bool} {fc:Nat->Bool} {b h g:Int} {PA:Array Value} (r:Row z wh fc b h g PA) (d n:Int) (w:World) :
  Calls Tryz.prog 129 #[.agg PA,.int .i64 d,.int .i64 n] w fun e w'=>∃ QA,e=.returned (.agg (qA QA d n))/\Row z wh fc b 0 0 QA/\Gr w w':=by
 obtain ⟨x1,x2⟩:=heapTwo w (.cells PA 25) (.cells Tryz.zeroCells202 202);have hg0:Gr w ((w.alloc (.cells PA 25)).alloc (.cells Tryz.zeroCells202 202)):=((Gr.refl w).alloc _ _).alloc _ _;have hr':=hide r;have hz:=r.size;clear r;go_enter Tryz.func129,Tryz.ntmps129;go_upto_region 1 with fail;generalize ((w.alloc (.cells PA 25)).alloc (.cells Tryz.zeroCells202 202))=w0 at x1 x2 hg0 ⊢;have c70:w0.cell? ⟨w.heap.size,70,none⟩=some (.int .i64 h):=by rw [qm x1];exact (qa hr').h
 have c71:w0.cell? ⟨w.heap.size,71,none⟩=some (.int .i64 g):=by rw [qm x1];exact (qa hr').g
 have f70:w0.frozen? ⟨w.heap.size,70,none⟩=false:=xy x1;have f71:w0.frozen? ⟨w.heap.size,71,none⟩=false:=xy x1;have hg2:Gr w ((w0.setCell ⟨w.heap.size,70,none⟩ (.int .i64 0)).setCell ⟨w.heap.size,71,none⟩ (.int .i64 0)):=Below.setCell (Below.setCell hg0 (Nat.le_refl _) _) (Nat.le_refl _) _;have y1:((w0.setCell ⟨w.heap.size,70,none⟩ (.int .i64 0)).setCell ⟨w.heap.size,71,none⟩ (.int .i64 0)).heap[w.heap.size]?=some (.cells ((PA.setIfInBounds 70 (.int .i64 0)).setIfInBounds 71 (.int .i64 0)) 25):=qy (qy x1)
 have y2:((w0.setCell ⟨w.heap.size,70,none⟩ (.int .i64 0)).setCell ⟨w.heap.size,71,none⟩ (.int .i64 0)).heap[w.heap.size+1]?=some (.cells Tryz.zeroCells202 202):=by
  rw [Below.heap_setCell _ _ _ _ (by simp),Below.heap_setCell _ _ _ _ (by simp)];exact x2
 go_upto_region 2 with fail;generalize ((w0.setCell ⟨w.heap.size,70,none⟩ (.int .i64 0)).setCell ⟨w.heap.size,71,none⟩ (.int .i64 0))=w2 at y1 y2 hg2 ⊢;have hr2:Hid (Row z wh fc b 0 0 ((PA.setIfInBounds 70 (.int .i64 0)).setIfInBounds 71 (.int .i64 0))):=hide (row_clk0 (qa hr'));generalize (PA.setIfInBounds 70 (.int .i64 0)).setIfInBounds 71 (.int .i64 0)=QA at y1 hr2;have hq:=(qa hr2).size;have ho:=hide (qz (qa hr2));clear c70 c71 f70 f71 x1 x2 hg0 hr' hz
 go_wp2_with (first
  | (refine wpList_load_row rfl 25 _ rfl w.heap.size rfl 25 QA (0,0) _ (by with_reducible exact y1) Tryz.underlying25 rfl (by rw [hq];exact infoP) ?_)
  | (refine zb rfl 202 #[(0,.tmp 9),(1,.tmp 10),(2,.tmp 11)] rfl (qA QA d n) ?_ ?_;focus (first|(go_simp;exact built_q QA hq d n)|(simp;exact built_q QA hq d n)))
  | (refine wpList_store_row rfl 202 _ _ rfl (w.heap.size+1) (qA QA d n) rfl rfl 202 Tryz.zeroCells202 (by with_reducible exact y2) (by rw [qvs hq];exact infoQ) (by rw [qvs hq];exact zeroQ) (zt (qa ho) d n) ?_))
 exact bodyPost_ret (v:=.agg (qA QA d n)) (results_cell_row Tryz.results129 _ _ (w.heap.size+1) 202 _ (0,0) _ rfl (setRow_heap _ _ _ _ _ _ y2) Tryz.underlying202 rfl (by rw [qvs hq];exact infoQ)) rfl ⟨QA,rfl,qa hr2,hg2.setRow _ (by omega) _⟩
def svN (g n:Nat):Value:=.slice (some ⟨g,0,none⟩) n n
structure MemI (g n:Nat) (I:World->Prop):Prop where
 st:∀ A A',I A->Fr (fun k _=>k=g) A A'->I A'
 ob:∀ A,I A->∃ S fr,A.heap[g]?=some (.cells S 291 fr)
 rc:∀ {z:Nat->UInt8} {wh:Bool} {fc:Nat->Bool} {b h gg:Int} {QA:Array Value},Ok z wh fc b h gg->Row z wh fc b 0 0 QA->∀ d:Nat,1<=d->d<=3->∀ (way:Int) (W:World),I W →
  Calls Tryz.prog 130 #[.agg #[svN g n],.agg (qA QA (d:Int) way)] W fun e w'=>(e=.returned (.tuple #[.int .u64 0,.bool false])\/e=.returned (.tuple #[.int .u64 ((pathsN d z wh fc b:Nat):Int),.bool true]))/\Gr W w'
 rm:∀ {z:Nat->UInt8} {wh:Bool} {fc:Nat->Bool} {b h gg:Int} {QA:Array Value},Ok z wh fc b h gg->Row z wh fc b 0 0 QA->∀ d:Nat,1<=d->d<=3->∀ (way:Int) (W:World),I W →
  Calls Tryz.prog 132 #[.agg #[svN g n],.agg (qA QA (d:Int) way),.int .u64 ((pathsN d z wh fc b:Nat):Int)] W fun e w'=>(∃ v,e=.returned v)/\Fx g W w'/\I w'
theorem recall0_any (g:Nat) (Q:Array Value) (w:World):Calls Tryz.prog 130 #[.agg #[svN g 0],.agg Q] w fun e w'=>e=.returned (.tuple #[.int .u64 0,.bool false])/\Gr w w':=by
 unfold svN;go_enter Tryz.func130,Tryz.ntmps130;go_wp2_with fail;go_ret2;exact ⟨rfl,((Gr.refl w).alloc _ _).alloc _ _⟩
theorem qvr (g:Nat) (Q:Array Value) (v:Int) (w:World):Calls Tryz.prog 132 #[.agg #[svN g 0],.agg Q,.int .u64 v] w fun e w'=>(∃ v,e=.returned v)/\Gr w w':=by
 unfold svN;go_enter Tryz.func132,Tryz.ntmps132;go_wp2_with fail;go_end0;exact ⟨⟨_,rfl⟩,((Gr.refl w).alloc _ _).alloc _ _⟩
theorem mem0 (g:Nat):MemI g 0 (fun A=>∃ S fr,A.heap[g]?=some (.cells S 291 fr)) where
 st:=fun A A' h f=>by obtain ⟨S,fr,h⟩:=h;exact ⟨S,fr,f.same _ _ h rfl⟩
 ob:=fun A h=>h
 rc:=by
  intro z wh fc b h gg QA o r d h1 h2 way W hW;exact (recall0_any g _ W).mono fun e w' h=>⟨.inl h.1,h.2⟩
 rm:=by
  intro z wh fc b h gg QA o r d h1 h2 way W hW;obtain ⟨S,fr,hS⟩:=hW;exact (qvr g _ _ W).mono fun e w' k=>⟨k.1,Fx.of k.2,S,fr,(Below.block k.2 _ (Array.getElem?_eq_some_iff.1 hS).1).trans hS⟩
def ctrA (ga gm:Nat) (wn:Int) (g n:Nat):Array Value:=#[.func (.func ga) #[] #[],.func (.func gm) #[] #[],.int .i64 wn,svN g n]
theorem infoCr:(Tryz.prog.info? 136).map (·.size)=some 4:=by kernel_rfl
def PathsC (g n:Nat) (I:World->Prop) (ga gm:Nat) (wn:Int) (d:Nat):Prop :=
 ∀ {z:Nat->UInt8} {wh:Bool} {fc:Nat->Bool} {b h gg:Int} {PA:Array Value},Ok z wh fc b h gg->Row z wh fc b h gg PA->∀ W:World,I W->Wt W →
  Calls Tryz.prog 65 #[.agg (ctrA ga gm wn g n),.agg PA,.int .i64 (d:Int)] W fun e w'=>e=.returned (.int .u64 ((pathsN d z wh fc b:Nat):Int))/\Fx g W w'/\I w'
def SumC (g n:Nat) (I:World->Prop) (ga gm:Nat) (wn:Int) (d:Nat):Prop :=
 ∀ {z:Nat->UInt8} {wh:Bool} {fc:Nat->Bool} {b h gg:Int} {PA:Array Value},Ok z wh fc b h gg->Row z wh fc b h gg PA->∀ W:World,I W->Wt W →
  Calls Tryz.prog 131 #[.agg (ctrA ga gm wn g n),.agg PA,.int .i64 (d:Int)] W fun e w'=>e=.returned (.int .u64 ((pathsN d z wh fc b:Nat):Int))/\Fx g W w'/\I w'
structure Cw (g n:Nat) (I:World->Prop) (ga gm:Nat) (wn:Int) (PA:Array Value) (d:Nat) (b1 b2 b3:Nat) (W:World):Prop where
 c:W.heap[b1]?=some (.cells (ctrA ga gm wn g n) 136)
 p:W.heap[b2]?=some (.cells PA 25)
 d:W.heap[b3]?=some (.cells #[.int .i64 (d:Int)] 3)
 wt:Wt W
 i:I W
theorem Cw.fx {g n:Nat} {I:World->Prop} {ga gm:Nat} {wn:Int} {PA:Array Value} {d b1 b2 b3:Nat} {W W':World} (h:Cw g n I ga gm wn PA d b1 b2 b3 W) (a:Away g) (f:Fx g W W') (h1:b1≠g) (h2:b2≠g) (h3:b3≠g) (hi:I W'):Cw g n I ga gm wn PA d b1 b2 b3 W' :=
 ⟨f.at h.c h1,f.at h.p h2,f.at h.d h3,h.wt.fx a f,hi⟩
theorem Cw.low {g n:Nat} {I:World->Prop} {ga gm:Nat} {wn:Int} {PA:Array Value} {d b1 b2 b3:Nat} {W W':World} {N:Nat} (h:Cw g n I ga gm wn PA d b1 b2 b3 W) (f:Fr (fun k _=>k<N) W W') (h1:b1<N) (h2:b2<N) (h3:b3<N) (ht:Wt W') (hi:I W'):Cw g n I ga gm wn PA d b1 b2 b3 W' :=
 ⟨f.same _ _ h.c h1,f.same _ _ h.p h2,f.same _ _ h.d h3,ht,hi⟩
structure Cm (g n:Nat) (I:World->Prop) (ga gm:Nat) (wn:Int) (PA:Array Value) (d:Nat) (b1 b2 b3:Nat) (V:World) (f t:Nat) (u:UInt8) (W:World):Prop where
 cw:Cw g n I ga gm wn PA d b1 b2 b3 W
 m:W.heap[V.heap.size]?=some (.cells #[.int .i64 (f:Int),.int .i64 (t:Int),.int .u8 (u.toNat:Int)] 94)
 fx:Fx g V W
theorem sum1_any {g n:Nat} {I:World->Prop} {ga gm:Nat} {wn:Int} {d:Nat} (hd:d<=3) (mi:MemI g n I) (aw:Away g) (ih:PathsC g n I ga gm wn d) {z:Nat->UInt8} {wh:Bool} {fc:Nat->Bool} {b h gg:Int} {PA:Array Value} (o:Ok z wh fc b h gg) (r:Row z wh fc b h gg PA)
  (b1 b2 b3:Nat) (h1:b1≠g) (h2:b2≠g) (h3:b3≠g) (f t:Nat) (u:UInt8) (hx:(f,t,u)∈movS z wh fc b) (V:World) (hc:Cw g n I ga gm wn PA (d+1) b1 b2 b3 V) :
  Calls Tryz.prog 216 #[.agg #[.int .i64 (f:Int),.int .i64 (t:Int),.int .u8 (u.toNat:Int)],.pointer (some ⟨b1,0,none⟩),.pointer (some ⟨b2,0,none⟩),.pointer (some ⟨b3,0,none⟩)] V fun e V'=>e=.returned (.int .u64 ((pathsN d (plZ z b (f,t,u)) (!wh) (cfA fc f t 4) (behA z f t):Nat):Int))/\Fx g V V'/\I V':=by
 have hz:=r.size;obtain ⟨c0,c1,c2,c3⟩:=o.clk;obtain ⟨hf,ht,hu,k1,k2⟩:=o.mv hx;have haf:Hid (∀ W,Homes W->Calls Tryz.prog 51 #[.agg PA,.agg #[.int .i64 (f:Int),.int .i64 (t:Int),.int .u8 (u.toNat:Int)]] W fun e w'=>∃ Q,e=.returned (.agg Q)/\Row (plZ z b (f,t,u)) (!wh) (cfA fc f t 4) (behA z f t) (halA z f t h) (fulA wh gg) Q/\Gr W w'):=hide fun W hH=>qvf r f t u hf ht k1 k2 c0 c1 c2 c3 W hH
 have hpa:Hid (∀ Q,Row (plZ z b (f,t,u)) (!wh) (cfA fc f t 4) (behA z f t) (halA z f t h) (fulA wh gg) Q->∀ W,I W->Wt W->Calls Tryz.prog 65 #[.agg (ctrA ga gm wn g n),.agg Q,.int .i64 (d:Int)] W fun e w'=>e=.returned (.int .u64 ((pathsN d (plZ z b (f,t,u)) (!wh) (cfA fc f t 4) (behA z f t):Nat):Int))/\Fx g W w'/\I w'):=hide fun Q hq W hi hw=>ih (o.next hx) hq W hi hw
 obtain ⟨S0,fr0,hob⟩:=mi.ob V hc.i;have hgl:g<V.heap.size:=(Array.getElem?_eq_some_iff.1 hob).1;have hnext:Hid (∀ W W',Cm g n I ga gm wn PA (d+1) b1 b2 b3 V f t u W->Fx g W W'->I W'->Cm g n I ga gm wn PA (d+1) b1 b2 b3 V f t u W'):=hide fun W W' k fx hi=>⟨k.cw.fx aw fx h1 h2 h3 hi,fx.at k.m (by omega),Fx.trans k.fx fx⟩
 have hst:Hid (∀ W W',I W->Gr W W'->I W'):=hide fun W W' hi k=>mi.st W W' hi (Fr.of_gr k)
 have hS0:Cm g n I ga gm wn PA (d+1) b1 b2 b3 V f t u (V.alloc (.cells #[.int .i64 (f:Int),.int .i64 (t:Int),.int .u8 (u.toNat:Int)] 94)).drew:=by
  have gr:Gr V (V.alloc (.cells #[.int .i64 (f:Int),.int .i64 (t:Int),.int .u8 (u.toNat:Int)] 94)).drew:=((Gr.refl V).alloc _ _).drew;exact ⟨hc.fx aw (Fx.of gr) h1 h2 h3 (qa hst _ _ hc.i gr),heap_alloc_new V _,Fx.of gr⟩
 have ed:IntKind.i64.wrap (((d+1:Nat):Int)-1)=(d:Int):=by rw [IntKind.wrap_i64];omega
 have edd:IntKind.i64.wrap (d:Int)=(d:Int):=by rw [IntKind.wrap_i64];omega
 generalize pathsN d (plZ z b (f,t,u)) (!wh) (cfA fc f t 4) (behA z f t)=R at hpa ⊢;clear o r hx ih hc hob hgl c0 c1 c2 c3 hf ht hu k1 k2 mi;go_enter Tryz.func216,Tryz.ntmps216;go_upto_region 1 with fail;refine wp_region_held_drew (S:=Cm g n I ga gm wn PA (d+1) b1 b2 b3 V f t u) (by kernel_rfl) hS0 (fun hHeld=>?_);clear hS0
 refine wpAnyH_take (i:=0) (v:=.agg (ctrA ga gm wn g n)) rfl (by kernel_rfl) (by kernel_rfl) (by kernel_rfl) (fun _ _ _ h=>h) (Or.inl ⟨by rfl,fun w' hw=>(by
  have e0:w'.cell? ⟨b1,0,none⟩=some (.func (.func ga) #[] #[]):=by rw [qm hw.cw.c];rfl
  have e1:w'.cell? ⟨b1,1,none⟩=some (.func (.func gm) #[] #[]):=by rw [qm hw.cw.c];rfl
  have e2:w'.cell? ⟨b1,2,none⟩=some (.int .i64 wn):=by rw [qm hw.cw.c];rfl
  have e3:w'.cell? ⟨b1,3,none⟩=some (svN g n):=by rw [qm hw.cw.c];rfl
  go_simp;rfl)⟩) hHeld ?_
 simp only [C.py];refine C.ty 1 (.agg PA) rfl (qqz hz (by rfl) _ rfl b2 rfl (fun _ h=>xr h.cw.p)) hHeld ?_
 refine wpAnyH_take (i:=2) (v:=.agg #[.int .i64 (f:Int),.int .i64 (t:Int),.int .u8 (u.toNat:Int)]) rfl (by kernel_rfl) (by kernel_rfl) (by kernel_rfl) (fun _ _ _ h=>h) (Or.inl ⟨by rfl,fun w' hw=>(by
  obtain ⟨e0,e1,e2⟩:=qu hw.m;go_simp;try rfl)⟩) hHeld ?_
 simp only [C.py]
 refine wpAnyH_take (i:=4) (v:=.int .i64 ((d+1:Nat):Int)) rfl (by kernel_rfl) (by kernel_rfl) (by kernel_rfl) (fun _ _ _ h=>h) (Or.inl ⟨by rfl,fun w' hw=>(by
  have e0:=(qe hw.cw.d).1;go_simp;try rfl)⟩) hHeld ?_
 simp only [C.py];refine C.ty 5 (.int .i64 (d:Int)) rfl (Or.inl ⟨by rfl,fun w' hw=>(by go_simp;first|done|exact ed|exact edd)⟩) hHeld ?_;refine C.rd 3 fun K hK=>?_
 go_simp;refine (qa haf _ hHeld.cw.wt.hom).mono ?_;rintro e wa ⟨Q,rfl,hq,hga⟩;refine hK.out _ _ (qa hnext _ _ hHeld (Fx.of hga) (qa hst _ _ hHeld.cw.i hga)) (fun hHeld=>?_);clear hK K hga
 try simp only [C.py]
 refine C.rd 6 fun K hK=>?_
 go_simp;refine (qa hpa Q hq _ hHeld.cw.i hHeld.cw.wt).mono ?_;rintro e wb ⟨rfl,hgb,hib⟩;refine hK.out _ _ (qa hnext _ _ hHeld hgb hib) (fun hHeld=>?_);clear hK K hgb
 try simp only [C.py]
 refine C.rd 7 fun K hK=>?_
 go_simp;refine hK.out _ _ hHeld (fun hHeld=>?_);clear hK K
 try simp only [C.py]
 refine wpAnyH_done (by kernel_rfl) ?_ _;go_wp2_with fail;go_ret;exact ⟨rfl,hHeld.fx,hib⟩
theorem sumC_any {g n:Nat} {I:World->Prop} {ga gm gi:Nat} {wn:Int} (mi:MemI g n I) (aw:Away g) (wy:WayN wn ga gm gi) (d:Nat) (hd:d+1<=3) (ih:PathsC g n I ga gm wn d):SumC g n I ga gm wn (d+1):=by
 intro z wh fc b h gg PA o r w hi hw;have hz:=r.size;obtain ⟨S0,fr0,hob⟩:=mi.ob w hi;have hgl:g<w.heap.size:=(Array.getElem?_eq_some_iff.1 hob).1;obtain ⟨x1,x2,x3,x4⟩:=heapThree w (.cells (ctrA ga gm wn g n) 136) (.cells PA 25) (.cells #[.int .i64 ((d+1:Nat):Int)] 3);have hg0:Gr w (((w.alloc (.cells (ctrA ga gm wn g n) 136)).alloc (.cells PA 25)).alloc (.cells #[.int .i64 ((d+1:Nat):Int)] 3)):=(((Gr.refl w).alloc _ _).alloc _ _).alloc _ _;obtain ⟨R,hR⟩:∃ R,Hid (R=pathsN (d+1) z wh fc b):=⟨_,hide rfl⟩;rw [<-qa hR];go_enter Tryz.func131,Tryz.ntmps131;go_upto_region 1 with fail;show Code.wp _ _ _ _ (((w.alloc (.cells (ctrA ga gm wn g n) 136)).alloc (.cells PA 25)).alloc (.cells #[.int .i64 ((d+1:Nat):Int)] 3));generalize (((w.alloc (.cells (ctrA ga gm wn g n) 136)).alloc (.cells PA 25)).alloc (.cells #[.int .i64 ((d+1:Nat):Int)] 3))=w0 at x1 x2 x3 x4 hg0 ⊢;have hi0:I w0:=mi.st _ _ hi (Fr.of_gr hg0);have hw0:=hw.gr hg0;have hcw0:Cw g n I ga gm wn PA (d+1) w.heap.size (w.heap.size+1) (w.heap.size+2) w0:=⟨x1,x2,x3,hw0,hi0⟩;obtain ⟨xs,hpm,mk⟩:=wy.mk' r o w0 hw0;have em:=mk.em;have hgo:=hide mk.go;have c1:w0.cell? ⟨w.heap.size,1,none⟩=some (.func (.func gm) #[] #[]):=by rw [qm x1];rfl
 have c3:=(qe x3).1;by_cases h0:d=0
 ·subst h0;have hcnt:Hid (∀ lb C W,NoSlot C W->It Tryz.prog gi lb encM (fun _=>False) C xs W->Calls Tryz.prog 102 #[.func (.func gi) #[] lb] W fun e w'=>e=.returned (.int .i64 ((xs.length:Nat):Int))/\Gr W w'):=hide fun lb C W h1 h2=>countM_any h2 mk.ei (fun k hk=>(h1 k hk).1) (by have:=hpm.length_eq;have:=qqp z wh fc b;omega)
  have hl:R=xs.length:=by rw [qa hR,show 0+1=1 from rfl,paths_one,hpm.length_eq]
  have hl6:xs.length<=1000000:=by rw [hpm.length_eq];exact qqp z wh fc b
  have ew:IntKind.u64.wrap ((xs.length:Nat):Int)=((xs.length:Nat):Int):=by rw [IntKind.wrap_u64];omega
  have e1:(((0+1:Nat):Int)==1)=true:=by decide
  have hfin:Hid (∀ W,Gr w0 W->Fx g w W/\I W):=hide fun W k=>⟨Fx.of (Gr.trans hg0 k),mi.st _ _ hi0 (Fr.of_gr k)⟩
  subst hl;clear ih hob o r hcw0 hw0 hi0 mi aw mk hpm hi hw hR
  go_wp2_with (first
   | (refine wpList_load_row rfl 25 _ rfl (w.heap.size+1) rfl 25 PA (0,0) _ (by with_reducible exact x2) Tryz.underlying25 rfl (by rw [hz];exact infoP) ?_)
   | (go_at_fn gm;refine (qa hgo).mono ?_;rintro e w1 ⟨lb,C,rfl,hg1,hns,hit⟩)
   | (go_at_call 102;refine (qa hcnt _ _ _ hns hit).mono ?_;rintro e w2 ⟨rfl,hg2⟩))
  go_ret;exact ⟨rfl,qa hfin _ (Gr.trans hg1 hg2)⟩
 ·have e1:(((d+1:Nat):Int)==1)=false:=by rw [beq_eq_false_iff_ne];omega
  have hsum:Hid (∀ lb C W,Gr w0 W->NoSlot C W->It Tryz.prog gi lb encM (fun _=>False) C xs W->Calls Tryz.prog 215 #[.func (.func gi) #[] lb,.func (.func 216) #[] #[.pointer (some ⟨w.heap.size,0,none⟩),.pointer (some ⟨w.heap.size+1,0,none⟩),.pointer (some ⟨w.heap.size+2,0,none⟩)]] W fun e w'=>e=.returned (.int .u64 ((R:Nat):Int))/\Fx g w w'/\I w'):=hide fun lb C W hgW hns hit=>by
   have hiW:I W:=mi.st _ _ hi0 (Fr.of_gr hgW);have hcW:=hcw0.fx aw (Fx.of hgW) (by omega) (by omega) (by omega) hiW;obtain ⟨S1,fr1,hob1⟩:=mi.ob W hiW;have hsz:=Below.size hgW
   have:=sumU_any hit mk.ei (fun k hk=>(hns k hk).1) g (hns.not aw hob1) (by omega) w.heap.size (w.heap.size+1) (w.heap.size+2) (fun x=>pathsN d (plZ z b x) (!wh) (cfA fc x.1 x.2.1 4) (behA z x.1 x.2.1)) (Cw g n I ga gm wn PA (d+1) w.heap.size (w.heap.size+1) (w.heap.size+2))
    (fun A A' hA f=>hA.low f (by omega) (by omega) (by omega) (hA.wt.low hcW.wt f) (mi.st _ _ hA.i (f.mono fun k _ _ hk=>by omega))) hcW
    (fun f t u hx V hV=>(sum1_any (by omega) mi aw ih o r w.heap.size (w.heap.size+1) (w.heap.size+2) (by omega) (by omega) (by omega) f t u (hpm.mem_iff.1 hx) V hV).mono fun e V' k=>?_) (by rw [qxt hpm d];exact paths_lt hd z wh fc b)
   ·refine this.mono ?_;rintro e w' ⟨rfl,k1,k2⟩;exact ⟨by rw [qxt hpm d,qa hR],Fx.trans (Fx.of (Gr.trans hg0 hgW)) k1,k2.i⟩
   ·exact ⟨k.1,k.2.1,hV.fx aw k.2.1 (by omega) (by omega) (by omega) k.2.2⟩
  clear ih hob o r hcw0 hw0 hi0 mi aw mk hpm hi hw hR
  go_wp2_with (first
   | (refine wpList_load_row rfl 25 _ rfl (w.heap.size+1) rfl 25 PA (0,0) _ (by with_reducible exact x2) Tryz.underlying25 rfl (by rw [hz];exact infoP) ?_)
   | (go_at_fn gm;refine (qa hgo).mono ?_;rintro e w1 ⟨lb,C,rfl,hg1,hns,hit⟩)
   | (go_at_call 215;refine (qa hsum _ _ _ hg1 hns hit).mono ?_;rintro e w2 ⟨rfl,hg2⟩))
  go_ret;exact ⟨rfl,hg2⟩
structure Pw (g n:Nat) (I:World->Prop) (ga gm:Nat) (wn:Int) (PA Q:Array Value) (b1 b2 b3:Nat) (w W:World):Prop where
 c:W.heap[b1]?=some (.cells (ctrA ga gm wn g n) 136)
 p:W.heap[b2]?=some (.cells PA 25)
 q:W.heap[b3]?=some (.cells Q 202)
 wt:Wt W
 i:I W
 fx:Fx g w W
theorem Pw.next {g n:Nat} {I:World->Prop} {ga gm:Nat} {wn:Int} {PA Q:Array Value} {b1 b2 b3:Nat} {w W W':World} (h:Pw g n I ga gm wn PA Q b1 b2 b3 w W) (a:Away g) (f:Fx g W W') (h1:b1≠g) (h2:b2≠g) (h3:b3≠g) (hi:I W'):Pw g n I ga gm wn PA Q b1 b2 b3 w W' :=
 ⟨f.at h.c h1,f.at h.p h2,f.at h.q h3,h.wt.fx a f,hi,Fx.trans h.fx f⟩
theorem Pw.c3 {g n:Nat} {I:World->Prop} {ga gm:Nat} {wn:Int} {PA Q:Array Value} {b1 b2 b3:Nat} {w W:World} (h:Pw g n I ga gm wn PA Q b1 b2 b3 w W):W.cell? ⟨b1,3,none⟩=some (svN g n):=by rw [qm h.c];rfl
theorem Pw.cs {g n:Nat} {I:World->Prop} {ga gm:Nat} {wn:Int} {PA Q:Array Value} {b1 b2 b3:Nat} {w W:World} (h:Pw g n I ga gm wn PA Q b1 b2 b3 w W):W.cell? ⟨b1,0,none⟩=some (.func (.func ga) #[] #[])/\W.cell? ⟨b1,1,none⟩=some (.func (.func gm) #[] #[])/\W.cell? ⟨b1,2,none⟩=some (.int .i64 wn):=by
 refine ⟨?_,?_,?_⟩<;>(rw [qm h.c];rfl)
theorem paths_any {g n:Nat} {I:World->Prop} {ga gm gi:Nat} {wn:Int} (mi:MemI g n I) (aw:Away g) (wy:WayN wn ga gm gi):∀ d:Nat,d<=3->PathsC g n I ga gm wn d:=by
 intro d;induction d with
 | zero =>
  intro _ z wh fc b h gg PA o r w hi hw;have hfin:Hid (∀ W,Gr w W->Fx g w W/\I W):=hide fun W k=>⟨Fx.of k,mi.st _ _ hi (Fr.of_gr k)⟩
  show Calls Tryz.prog 65 #[.agg (ctrA ga gm wn g n),.agg PA,.int .i64 0] w fun e w'=>e=.returned (.int .u64 1)/\Fx g w w'/\I w'
  clear o r hi hw mi;go_enter Tryz.func65,Tryz.ntmps65;go_wp2_with fail;go_ret;exact ⟨rfl,qa hfin _ (((Gr.refl w).alloc _ _).alloc _ _)⟩
 | succ d ih =>
  intro hd z wh fc b h gg PA o r w hi hw;have hsumC:SumC g n I ga gm wn (d+1):=sumC_any mi aw wy d hd (ih (by omega));have hz:=r.size;obtain ⟨S0,fr0,hob⟩:=mi.ob w hi;have hgl:g<w.heap.size:=(Array.getElem?_eq_some_iff.1 hob).1;obtain ⟨x1,x2⟩:=heapTwo w (.cells (ctrA ga gm wn g n) 136) (.cells PA 25);have hg0:Gr w ((w.alloc (.cells (ctrA ga gm wn g n) 136)).alloc (.cells PA 25)):=((Gr.refl w).alloc _ _).alloc _ _;have hs0:((w.alloc (.cells (ctrA ga gm wn g n) 136)).alloc (.cells PA 25)).heap.size=w.heap.size+2:=by simp
  have hask:Hid (∀ W,Calls Tryz.prog 129 #[.agg PA,.int .i64 ((d+1:Nat):Int),.int .i64 wn] W fun e w'=>∃ QA,e=.returned (.agg (qA QA ((d+1:Nat):Int) wn))/\Row z wh fc b 0 0 QA/\Gr W w'):=hide fun W=>ask_any r _ _ W
  have hrec:Hid (∀ QA,Row z wh fc b 0 0 QA->∀ W,I W->Calls Tryz.prog 130 #[.agg #[svN g n],.agg (qA QA ((d+1:Nat):Int) wn)] W fun e w'=>(e=.returned (.tuple #[.int .u64 0,.bool false])\/e=.returned (.tuple #[.int .u64 ((pathsN (d+1) z wh fc b:Nat):Int),.bool true]))/\Gr W w'):=hide fun QA hq W hi=>mi.rc o hq (d+1) (by omega) hd wn W hi
  have hrem:Hid (∀ QA,Row z wh fc b 0 0 QA->∀ W,I W->Calls Tryz.prog 132 #[.agg #[svN g n],.agg (qA QA ((d+1:Nat):Int) wn),.int .u64 ((pathsN (d+1) z wh fc b:Nat):Int)] W fun e w'=>(∃ v,e=.returned v)/\Fx g W w'/\I w'):=hide fun QA hq W hi=>mi.rm o hq (d+1) (by omega) hd wn W hi
  have hsm:Hid (∀ W,I W->Wt W->Calls Tryz.prog 131 #[.agg (ctrA ga gm wn g n),.agg PA,.int .i64 ((d+1:Nat):Int)] W fun e w'=>e=.returned (.int .u64 ((pathsN (d+1) z wh fc b:Nat):Int))/\Fx g W w'/\I w'):=hide fun W hi hw=>hsumC o r W hi hw
  have hst:Hid (∀ W W',I W->Gr W W'->I W'):=hide fun W W' hi k=>mi.st W W' hi (Fr.of_gr k)
  have ho72:Hid (∀ QA d n,Row z wh fc b 0 0 QA->(qA QA d n).size=74/\(qA QA d n).all (·.oneCell')=true):=hide fun QA d n hq=>⟨qvs hq.size d n,zt (qz hq) d n⟩
  have e0:(((d+1:Nat):Int)==0)=false:=by rw [beq_eq_false_iff_ne];omega
  generalize pathsN (d+1) z wh fc b=R at hrec hrem hsm ⊢;clear ih hob o r hsumC mi wy;go_enter Tryz.func65,Tryz.ntmps65;go_upto_region 3 with fail;show Code.wp _ _ _ _ ((w.alloc (.cells (ctrA ga gm wn g n) 136)).alloc (.cells PA 25));generalize ((w.alloc (.cells (ctrA ga gm wn g n) 136)).alloc (.cells PA 25))=w0 at x1 x2 hg0 hs0 ⊢;have hi0:I w0:=qa hst _ _ hi hg0;have hw0:=hw.gr hg0;have c2:w0.cell? ⟨w.heap.size,2,none⟩=some (.int .i64 wn):=by rw [qm x1];rfl
  go_upto_region 4 with (first
   | (refine wpList_load_row rfl 25 _ rfl (w.heap.size+1) rfl 25 PA (0,0) _ (by with_reducible exact x2) Tryz.underlying25 rfl (by rw [hz];exact infoP) ?_)
   | (go_at_call 129;refine (qa hask _).mono ?_;rintro e w1 ⟨QA,rfl,hq,hg1⟩;have y1:=heap_alloc_new w1 (.cells Tryz.zeroCells202 202);obtain ⟨q74,qone⟩:=qa ho72 QA ((d+1:Nat):Int) wn hq)
   | (refine wpList_store_row rfl 202 _ _ rfl w1.heap.size (qA QA ((d+1:Nat):Int) wn) rfl rfl 202 Tryz.zeroCells202 (by with_reducible exact y1) (by rw [q74];exact infoQ) (by rw [q74];exact zeroQ) qone ?_))
  have hP:Pw g n I ga gm wn PA (qA QA ((d+1:Nat):Int) wn) w.heap.size (w.heap.size+1) w1.heap.size w ((w1.alloc (.cells Tryz.zeroCells202 202)).setRow w1.heap.size (qA QA ((d+1:Nat):Int) wn)):=by
   have hk:Gr w1 ((w1.alloc (.cells Tryz.zeroCells202 202)).setRow w1.heap.size (qA QA ((d+1:Nat):Int) wn)):=((Gr.refl w1).alloc _ _).setRow _ (Nat.le_refl _) _;have hk2:=Gr.trans hg1 hk;exact ⟨(Below.block hk2 _ (xg x1)).trans x1,(Below.block hk2 _ (xg x2)).trans x2,setRow_heap _ _ _ _ _ _ y1,hw0.gr hk2,qa hst _ _ hi0 hk2,Fx.of (Gr.trans hg0 hk2)⟩
  have hb3:w1.heap.size≠g:=by have:=Below.size hg1;omega
  generalize ((w1.alloc (.cells Tryz.zeroCells202 202)).setRow w1.heap.size (qA QA ((d+1:Nat):Int) wn))=w2 at hP ⊢;generalize w1.heap.size=b3 at hP hb3 ⊢;have hb1:w.heap.size≠g:=by omega
  have hb2:w.heap.size+1≠g:=by omega
  have hrec2:=hide (qa hrec QA hq);have hrem2:=hide (qa hrem QA hq);clear hask hrec hrem hi0 hw0 c2 x1 x2 hg0 hg1 y1 hi hw ho72 hq qone e0;generalize qA QA ((d+1:Nat):Int) wn=Q at hP hrec2 hrem2 q74 ⊢;have c3:=hP.c3;have cq:=hP.q
  go_upto_region 5 with (first
   | (refine wpList_load_row rfl 202 _ rfl b3 rfl 202 Q (0,0) _ (by with_reducible exact cq) Tryz.underlying202 rfl (by rw [q74];exact infoQ) ?_)
   | (go_at_call 130;refine (qa hrec2 _ hP.i).mono ?_;rintro e w3 ⟨rfl|rfl,hg3⟩))
  ·have hP3:=hP.next aw (Fx.of hg3) hb1 hb2 hb3 (qa hst _ _ hP.i hg3);clear hrec2 c3 cq hP hg3;obtain ⟨d0,d1,d2⟩:=hP3.cs;have d3:=hP3.c3;have dp:=hP3.p
   go_upto_region 8 with (first
    | (refine wpList_load_row rfl 25 _ rfl (w.heap.size+1) rfl 25 PA (0,0) _ (by with_reducible exact dp) Tryz.underlying25 rfl (by rw [hz];exact infoP) ?_)
    | (refine wpList_load_row rfl 136 _ rfl w.heap.size rfl 136 (ctrA ga gm wn g n) (0,0) _ (by with_reducible exact hP3.c) Tryz.underlying136 rfl infoCr ?_)
    | (go_at_call 131;refine (qa hsm _ hP3.i hP3.wt).mono ?_;rintro e w4 ⟨rfl,hf4,hi4⟩))
   have hP4:=hP3.next aw hf4 hb1 hb2 hb3 hi4;clear d0 d1 d2 d3 dp hP3 hf4 hi4 hsm;have c3:=hP4.c3;have cq:=hP4.q
   go_wp2_with (first
    | (refine wpList_load_row rfl 202 _ rfl b3 rfl 202 Q (0,0) _ (by with_reducible exact cq) Tryz.underlying202 rfl (by rw [q74];exact infoQ) ?_)
    | (go_at_call 132;refine (qa hrem2 _ hP4.i).mono ?_;rintro e w5 ⟨⟨v,rfl⟩,hf5,hi5⟩))
   go_ret;exact ⟨rfl,Fx.trans hP4.fx hf5,hi5⟩
  ·have hP3:=hP.next aw (Fx.of hg3) hb1 hb2 hb3 (qa hst _ _ hP.i hg3);clear hrec2 c3 cq hP hg3;go_wp2_with fail;go_ret;exact ⟨rfl,hP3.fx,hP3.i⟩
end Go.Proofs.YtnfakamfmkhlbaaGreatDoor.C
