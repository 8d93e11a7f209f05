import Derived.Test.YtnfakamfmkhlbabGreatDoorKb29
import Derived.Test.YtnfakamfmkhlbabGreatDoorProg
import Derived.Conc.MuLib
import Derived.KernelRfl
import Derived.Test.YtnfakamfmkhlbabGreatDoorKz2
import Derived.Test.YtnfakamfmkhlbabGreatDoorKz3
set_option maxRecDepth 100000
set_option maxHeartbeats 4000000
set_option linter.unusedSimpArgs false
namespace Go.Proofs.YtnfakamfmkhlbabGreatDoor.C
open Go.ChangeShapes Go.WideShapes Go.ChangeAt Go.RowKit Go.Shelf
open Go.Proofs.YtnfakamfmkhlbabGreatDoor.P
attribute [local go_sem] setCell_drewN alloc_drewN Oper.semAt_some
def slotA (Q:Array Value) (p:Int):Array Value:=Q++#[.int .u64 p]
theorem slotA_size {Q:Array Value} (h:Q.size=74) (p:Int):(slotA Q p).size=75:=by unfold slotA;simp [h]
theorem slotA_at {Q:Array Value} (h:Q.size=74) (p:Int):(slotA Q p)[74]?=some (.int .u64 p):=by
 unfold slotA;rw [Array.getElem?_append_right (by omega),h];rfl
theorem slotA_ones {Q:Array Value} (h:Q.all (·.oneCell')=true) (p:Int):(slotA Q p).all (·.oneCell')=true:=by
 unfold slotA;rw [Array.all_append,h];simp [Value.oneCell']
def SlotG (S:Array Value) (i:Nat):Prop:=∃ (z:Nat->UInt8) (wh:Bool) (fc:Nat->Bool) (b:Int) (A:Array Value) (d way p:Int),Row z wh fc b 0 0 A/\(∀ n,64<=n->z n=0)/\(∀ n,4<=n->fc n=false) ∧
 (∀ j,j<75->S[i*75+j]?=(slotA (qA A d way) p)[j]?)/\(∀ h g,Ok z wh fc b h g->∀ m:Nat,d=(m:Int)->1<=m->m<=3->p=((pathsN m z wh fc b:Nat):Int))
def MemS (g n:Nat) (W:World):Prop:=∃ S,W.heap[g]?=some (.cells S 168)/\S.size=n*75/\∀ i,i<n->SlotG S i
theorem infoS75:(Tryz.prog.info? 168).map (·.size)=some 75:=by kernel_rfl
theorem zeroS:Tryz.zeroCells168.size=75:=by kernel_rfl
structure Ms (g n:Nat) (Q S:Array Value) (b2 b3:Nat) (w W:World):Prop where
 mq:Mq g n Q b2 b3 w W
 s:W.heap[g]?=some (.cells S 168)
theorem Ms.next {g n:Nat} {Q S:Array Value} {b2 b3:Nat} {w W W':World} (h:Ms g n Q S b2 b3 w W) (k:Gr W W'):Ms g n Q S b2 b3 w W':=⟨h.mq.next k,(Below.block k _ (heap_lt h.s)).trans h.s⟩
theorem Ms.put {g n:Nat} {Q S:Array Value} {b2 b3:Nat} {w W:World} (h:Ms g n Q S b2 b3 w W) {B:Nat} (h1:B≠g) (h2:B≠b2) (h3:B≠b3) (hw:w.heap.size<=B) (X:Array Value):Ms g n Q S b2 b3 w (W.setRow B X) :=
 ⟨⟨by rw [setRow_other _ _ _ _ (by omega)];exact h.mq.m,by rw [setRow_other _ _ _ _ (by omega)];exact h.mq.q,h.mq.gr.setRow _ hw _⟩,by rw [setRow_other _ _ _ _ (by omega)];exact h.s⟩
theorem Ms.rg {g n:Nat} {Q S R:Array Value} {b2 b3:Nat} {w W:World} (h:Ms g n Q S b2 b3 w W) {i:Nat} (hs:R.size=75) (hR:∀ j,j<75->S[i*75+j]?=R[j]?):W.rangeAt g (i*75) R.toList:=fun j v hv=>by
 have hj:j<75:=by
  have:=(List.getElem?_eq_some_iff.1 hv).1;rw [Array.length_toList,hs] at this;exact this
 rw [cells_at h.s,hR j hj,<-Array.getElem?_toList];exact hv
theorem y_q {ops:Array Oper} {op:Oper} {a:Act} {Q:Array Value} (hz:Q.size=74) {S:World->Prop} (hw:Region.wanted op (yielded ops a.tmps)=true) (x:Operand) (ho:op.op=.load 117 x) (b:Nat) (hx:a.eval x=.pointer (some ⟨b,0,none⟩)) (hS:∀ w,S w->w.rangeAt b 0 Q.toList):YieldsIf Tryz.prog ops S op (.agg Q) a:=by
 have:=yieldsIf_load_mid (P:=Tryz.prog) hw 117 x ho b 0 hx Q.toList _ hS Tryz.underlying117 rfl (by rw [infoQ];simp [hz])
 rwa [Array.toArray_toList] at this
theorem y_s {ops:Array Oper} {op:Oper} {a:Act} {R:Array Value} (hz:R.size=75) {S:World->Prop} (hw:Region.wanted op (yielded ops a.tmps)=true) (x:Operand) (ho:op.op=.load 168 x) (b off:Nat) (hx:a.eval x=.pointer (some ⟨b,off,none⟩)) (hS:∀ w,S w->w.rangeAt b off R.toList):YieldsIf Tryz.prog ops S op (.agg R) a:=by
 have:=yieldsIf_load_mid (P:=Tryz.prog) hw 168 x ho b off hx R.toList _ hS Tryz.underlying168 rfl (by rw [infoS75];simp [hz])
 rwa [Array.toArray_toList] at this
theorem recallN_any {z:Nat->UInt8} {wh:Bool} {fc:Nat->Bool} {b h gg:Int} {QA:Array Value} (o:Ok z wh fc b h gg) (r:Row z wh fc b 0 0 QA) (g n:Nat) (hn:0<n) (hn2:n<=4096) (d:Nat) (d1:1<=d) (d3:d<=3) (k:Int) (w:World) (hI:MemS g n w) :
  Calls Tryz.prog 46 #[.agg #[svN g n],.agg (qA QA (d:Int) k)] w fun e w'=>(e=.returned (.tuple #[.int .u64 0,.bool false])\/e=.returned (.tuple #[.int .u64 ((pathsN d z wh fc b:Nat):Int),.bool true]))/\Gr w w':=by
 obtain ⟨S,hS,hSz,hsl⟩:=hI;have hpl:=hide (fun W=>placeM_any o r g n hn hn2 (d:Int) k W);have hpm:(keyS z wh fc b).toNat%n<n:=Nat.mod_lt _ hn;generalize (keyS z wh fc b).toNat%n=pl at hpl hpm;obtain ⟨z',wh',fc',b',A,d',way,p,rA,nz,nf,hcs,hok⟩:=hsl pl hpm;have hq74:=qA_size r.size (d:Int) k;have hA74:=qA_size rA.size d' way;have hR75:=slotA_size hA74 p;have hRat:=slotA_at hA74 p;have hRone:=hide (slotA_ones (qA_ones (row_ones rA) d' way) p);have heq:=hide (fun W=>q_eq rA r d' (d:Int) way k W);obtain ⟨E,hE⟩:∃ E,Hid (E=qE (posE z' z wh' wh fc' fc b' b 0 0 0 0) d' (d:Int) way k):=⟨_,hide rfl⟩;rw [<-unhide hE] at heq
 have hans:Hid (E=true->p=((pathsN d z wh fc b:Nat):Int)):=hide fun e=>by
  rw [unhide hE] at e;unfold qE at e;simp only [Bool.and_eq_true,beq_iff_eq] at e;obtain ⟨e1,e2,_⟩:=e;obtain ⟨pp1,pp2,pp3,pp4⟩:=posE_true e1
  have ez:z'=z:=by
   funext i;by_cases hi:i<64
   ·exact pp1 i hi
   ·rw [nz i (by omega),o.nz i (by omega)]
  have ef:fc'=fc:=by
   funext i;by_cases hi:i<4
   ·exact pp3 i hi
   ·rw [nf i (by omega),o.nf i (by omega)]
  subst ez ef pp2 pp4;exact hok h gg o d e2 d1 d3
 have hRg:Hid (∀ W,Ms g n (qA QA (d:Int) k) S w.heap.size (w.heap.size+1) w W->W.rangeAt g (pl*75) (slotA (qA A d' way) p).toList):=hide fun W hW=>hW.rg hR75 hcs
 have hQl:Hid ((slotA (qA A d' way) p).toList.take 74=(qA A d' way).toList):=hide (by unfold slotA;rw [Array.toList_append,List.take_append_of_le_length (by rw [Array.length_toList,hA74];omega),List.take_of_length_le (by rw [Array.length_toList,hA74];omega)]);obtain ⟨x1,x2⟩:=heapTwo w (.cells #[svN g n] 56) (.cells (qA QA (d:Int) k) 117);have hg0:Gr w ((w.alloc (.cells #[svN g n] 56)).alloc (.cells (qA QA (d:Int) k) 117)):=((Gr.refl w).alloc _ _).alloc _ _;have hS0:=(Below.block hg0 _ (heap_lt hS)).trans hS;have hgl:=heap_lt hS;generalize pathsN d z wh fc b=R at hans ⊢;generalize qA QA (d:Int) k=Q at hpl hq74 heq hRg x1 x2 hg0 hS0 ⊢;generalize hRR:slotA (qA A d' way) p=RR at hR75 hRat hRone hRg hQl;generalize qA A d' way=QB at heq hA74 hQl;clear o r rA hok hsl hcs hE hS;have hnz:((n:Int)==0)=false:=by rw [beq_eq_false_iff_ne];omega
 have hp0:(0:Int)<=(pl:Int):=by omega
 have hpn:(pl:Int)<(n:Int):=by omega
 go_enter Tryz.func46,Tryz.ntmps46;go_upto_region 1 with fail;show Code.wp _ _ _ _ ((w.alloc (.cells #[svN g n] 56)).alloc (.cells Q 117));generalize ((w.alloc (.cells #[svN g n] 56)).alloc (.cells Q 117))=w0 at x1 x2 hg0 hS0 ⊢;have c0:w0.cell? ⟨w.heap.size,0,none⟩=some (.slice (some ⟨g,0,none⟩) n n):=by rw [cells_at x1];rfl
 go_upto_region 3 with fail;have hM0:Ms g n Q S w.heap.size (w.heap.size+1) w w0.drew:=⟨⟨x1,x2,hg0.drew⟩,hS0⟩;refine wp_region_held_drew (S:=Ms g n Q S w.heap.size (w.heap.size+1) w) (by kernel_rfl) hM0 (fun hHeld=>?_);clear hM0 x1 x2 hg0 hS0 c0;refine C.tq 0 (.pointer (some ⟨w.heap.size,0,none⟩)) hHeld ?_;refine C.ty 1 (.slice (some ⟨g,0,none⟩) n n) rfl (Or.inl ⟨by rfl,fun w' hw=>(by have c0:=hw.mq.c;unfold svN at c0;go_simp)⟩) hHeld ?_;refine C.ty 2 (.agg #[svN g n]) rfl (Or.inl ⟨by rfl,fun w' hw=>(by have c0:=hw.mq.c;go_simp)⟩) hHeld ?_;refine C.ty 3 (.agg Q) rfl (y_q hq74 (by rfl) _ rfl (w.heap.size+1) rfl (fun _ h=>h.mq.rq)) hHeld ?_;refine wpAnyH_ready (rs:=[4,7]) (by kernel_rfl) (by simp) ?_;refine AllReadyH.cons rfl (fun K hK=>?_) (AllReadyH.cons rfl (fun K hK=>?_) AllReadyH.nil)
 ·go_simp;refine (unhide hpl _).mono ?_;rintro e wa ⟨rfl,hga⟩;refine hK.out _ _ (hHeld.next hga) (fun hHeld=>?_);clear hK K
  try simp only [C.py]
  refine C.tq 5 (.pointer (some ⟨g,pl*75,none⟩)) hHeld ?_;refine C.ty 6 (.agg RR) rfl (y_s hR75 (by rfl) _ rfl g (pl*75) rfl (fun W h=>unhide hRg W h)) hHeld ?_;have y7:=heap_alloc_new wa (.cells Tryz.zeroCells168 168);have hBw:w.heap.size<=wa.heap.size:=Below.size hHeld.mq.gr;have hBg:wa.heap.size≠g:=by omega
  have hB2:wa.heap.size≠w.heap.size:=by have:=heap_lt hHeld.mq.m;omega
  have hB3:wa.heap.size≠w.heap.size+1:=by have:=heap_lt hHeld.mq.q;omega
  refine C.rd 7 fun K hK=>?_
  go_simp;refine hK.out _ _ (hHeld.next ((Gr.refl wa).alloc _ _)) (fun hHeld=>?_);clear hK K
  try simp only [C.py]
  refine C.rd 8 fun K hK=>?_
  rw [if_pos (by rfl)];refine wp_store_row 168 _ _ rfl wa.heap.size RR rfl rfl 168 Tryz.zeroCells168 y7 (by rw [hR75];exact infoS75) (by rw [hR75];exact zeroS) (unhide hRone) ?_;have y8:((wa.alloc (.cells Tryz.zeroCells168 168)).setRow wa.heap.size RR).heap[wa.heap.size]?=some (.cells RR 168):=setRow_heap _ _ _ _ _ _ y7;refine hK.out _ _ (hHeld.put hBg hB2 hB3 hBw RR) (fun hHeld=>?_);clear hK K
  try simp only [C.py]
  refine wpAnyH_done (by kernel_rfl) ?_ _;generalize (wa.alloc (.cells Tryz.zeroCells168 168)).setRow wa.heap.size RR=w8 at hHeld y8 ⊢
  have hrB:w8.rangeAt wa.heap.size 0 QB.toList:=fun j v hv=>by
   have hj:=(List.getElem?_eq_some_iff.1 hv).1;rw [Array.length_toList,hA74] at hj;rw [Nat.zero_add,cells_at y8,<-Array.getElem?_toList,<-List.getElem?_take_of_lt hj,unhide hQl];exact hv
  have hrQ:=hHeld.mq.rq;have c74:w8.cell? ⟨wa.heap.size,74,none⟩=some (.int .u64 p):=by rw [cells_at y8];exact hRat
  have hgf:=hide hHeld.mq.gr;generalize wa.heap.size=b6 at hrB c74 ⊢;clear hHeld y8 hpl hRg hRone hQl;cases E
  ·go_wp2_with (first
    | (refine wpList_load_mid rfl 117 _ rfl b6 0 rfl QB.toList _ hrB Tryz.underlying117 rfl (by rw [infoQ];simp [hA74]) ?_;rw [Array.toArray_toList])
    | (refine wpList_load_mid rfl 117 _ rfl (w.heap.size+1) 0 rfl Q.toList _ hrQ Tryz.underlying117 rfl (by rw [infoQ];simp [hq74]) ?_;rw [Array.toArray_toList])
    | (refine wpList_neq_q rfl _ _ rfl rfl rfl (unhide heq) ?_))
   go_ret2;exact ⟨.inl rfl,unhide hgf⟩
  ·have hp:=unhide hans rfl;subst hp
   go_wp2_with (first
    | (refine wpList_load_mid rfl 117 _ rfl b6 0 rfl QB.toList _ hrB Tryz.underlying117 rfl (by rw [infoQ];simp [hA74]) ?_;rw [Array.toArray_toList])
    | (refine wpList_load_mid rfl 117 _ rfl (w.heap.size+1) 0 rfl Q.toList _ hrQ Tryz.underlying117 rfl (by rw [infoQ];simp [hq74]) ?_;rw [Array.toArray_toList])
    | (refine wpList_neq_q rfl _ _ rfl rfl rfl (unhide heq) ?_))
   go_ret2;exact ⟨.inr rfl,unhide hgf⟩
 ·go_simp;have y0:(w0.drew.alloc (.cells Tryz.zeroCells168 168)).heap[w0.heap.size]?=some (.cells Tryz.zeroCells168 168):=heap_alloc_new w0.drew _;have h5:w.heap.size<w0.heap.size:=heap_lt hHeld.mq.m;have h6:w.heap.size+1<w0.heap.size:=heap_lt hHeld.mq.q;have hBw:w.heap.size<=w0.heap.size:=by omega
  have hBg:w0.heap.size≠g:=by omega
  have hB2:w0.heap.size≠w.heap.size:=by omega
  have hB3:w0.heap.size≠w.heap.size+1:=by omega
  clear h5 h6;refine hK.out _ _ (hHeld.next ((Gr.refl w0.drew).alloc _ _)) (fun hHeld=>?_);clear hK K
  try simp only [C.py]
  refine C.rd 4 fun K hK=>?_
  go_simp;refine (unhide hpl _).mono ?_;rintro e wa ⟨rfl,hga⟩;have y7:=(Below.block hga _ (heap_lt y0)).trans y0;refine hK.out _ _ (hHeld.next hga) (fun hHeld=>?_);clear hK K
  try simp only [C.py]
  refine C.tq 5 (.pointer (some ⟨g,pl*75,none⟩)) hHeld ?_;refine C.ty 6 (.agg RR) rfl (y_s hR75 (by rfl) _ rfl g (pl*75) rfl (fun W h=>unhide hRg W h)) hHeld ?_;refine C.rd 8 fun K hK=>?_
  rw [if_pos (by rfl)];refine wp_store_row 168 _ _ rfl w0.heap.size RR rfl rfl 168 Tryz.zeroCells168 y7 (by rw [hR75];exact infoS75) (by rw [hR75];exact zeroS) (unhide hRone) ?_;have y8:(wa.setRow w0.heap.size RR).heap[w0.heap.size]?=some (.cells RR 168):=setRow_heap _ _ _ _ _ _ y7;refine hK.out _ _ (hHeld.put hBg hB2 hB3 hBw RR) (fun hHeld=>?_);clear hK K
  try simp only [C.py]
  refine wpAnyH_done (by kernel_rfl) ?_ _;generalize wa.setRow w0.heap.size RR=w8 at hHeld y8 ⊢
  have hrB:w8.rangeAt w0.heap.size 0 QB.toList:=fun j v hv=>by
   have hj:=(List.getElem?_eq_some_iff.1 hv).1;rw [Array.length_toList,hA74] at hj;rw [Nat.zero_add,cells_at y8,<-Array.getElem?_toList,<-List.getElem?_take_of_lt hj,unhide hQl];exact hv
  have hrQ:=hHeld.mq.rq;have c74:w8.cell? ⟨w0.heap.size,74,none⟩=some (.int .u64 p):=by rw [cells_at y8];exact hRat
  have hgf:=hide hHeld.mq.gr;generalize w0.heap.size=b6 at hrB c74 ⊢;clear hHeld y8 hpl hRg hRone hQl;cases E
  ·go_wp2_with (first
    | (refine wpList_load_mid rfl 117 _ rfl b6 0 rfl QB.toList _ hrB Tryz.underlying117 rfl (by rw [infoQ];simp [hA74]) ?_;rw [Array.toArray_toList])
    | (refine wpList_load_mid rfl 117 _ rfl (w.heap.size+1) 0 rfl Q.toList _ hrQ Tryz.underlying117 rfl (by rw [infoQ];simp [hq74]) ?_;rw [Array.toArray_toList])
    | (refine wpList_neq_q rfl _ _ rfl rfl rfl (unhide heq) ?_))
   go_ret2;exact ⟨.inl rfl,unhide hgf⟩
  ·have hp:=unhide hans rfl;subst hp
   go_wp2_with (first
    | (refine wpList_load_mid rfl 117 _ rfl b6 0 rfl QB.toList _ hrB Tryz.underlying117 rfl (by rw [infoQ];simp [hA74]) ?_;rw [Array.toArray_toList])
    | (refine wpList_load_mid rfl 117 _ rfl (w.heap.size+1) 0 rfl Q.toList _ hrQ Tryz.underlying117 rfl (by rw [infoQ];simp [hq74]) ?_;rw [Array.toArray_toList])
    | (refine wpList_neq_q rfl _ _ rfl rfl rfl (unhide heq) ?_))
   go_ret2;exact ⟨.inr rfl,unhide hgf⟩
def setsA:Array Value->Nat->List Value->Array Value
 | S,_,[]=>S
 | S,o,v :: r=>setsA (S.setIfInBounds o v) (o+1) r
theorem setsA_size:∀ (vs:List Value) (S:Array Value) (o:Nat),(setsA S o vs).size=S.size
 | [],_,_=>rfl
 | v :: r,S,o=>by rw [setsA,setsA_size r,Array.size_setIfInBounds]
theorem setsA_get:∀ (vs:List Value) (S:Array Value) (o:Nat),o+vs.length<=S.size->∀ i,(setsA S o vs)[i]?=if o<=i/\i<o+vs.length then vs[i-o]? else S[i]?
 | [],S,o,_,i=>by rw [if_neg (by simp only [List.length_nil];omega)];rfl
 | v :: r,S,o,h,i=>by
   simp only [List.length_cons] at h;rw [setsA,setsA_get r _ (o+1) (by rw [Array.size_setIfInBounds];omega)];by_cases h1:o+1<=i/\i<o+1+r.length
   ·rw [if_pos h1,if_pos (by simp only [List.length_cons];omega),show i-o=(i-(o+1))+1 by omega,List.getElem?_cons_succ]
   ·rw [if_neg h1];by_cases h2:i=o
    ·subst h2;rw [if_pos (by simp only [List.length_cons];omega),Nat.sub_self,Array.getElem?_setIfInBounds_self_of_lt (by omega)];rfl
    ·rw [if_neg (by simp only [List.length_cons];omega),Array.getElem?_setIfInBounds_ne (by omega)]
theorem setCells_heap (g:Nat) (t:TypeId):∀ (vs:List Value) (o:Nat) (W:World) (S:Array Value),W.heap[g]?=some (.cells S t)->(W.setCells g o vs).heap[g]?=some (.cells (setsA S o vs) t)
 | [],_,_,_,h=>h
 | v :: r,o,W,S,h=>by
   rw [World.setCells,setsA];exact setCells_heap g t r (o+1) _ _ (set_row3 h)
theorem setCells_fx (g:Nat):∀ (vs:List Value) (o:Nat) (W:World),Fx g W (W.setCells g o vs)
 | [],_,W=>Fx.refl g W
 | v :: r,o,W=>by
   rw [World.setCells];exact Fx.trans ((Fr.refl _ W).setCell v (fun _ _ q=>q rfl)) (setCells_fx g r (o+1) _)
theorem builtS (parts:List (Nat × Value)):Tryz.prog.built 168 parts=Instr.fill (fun i=>(#[(0,74),(74,1)]:Array (Nat × Nat))[i]?) Tryz.zeroCells168 parts:=by kernel_rfl
theorem built_s (Q:Array Value) (hQ:Q.size=74) (p:Int):Tryz.prog.built 168 [(0,.agg Q),(1,.int .u64 p)]=some (slotA Q p):=by
 rw [builtS];have p0:=put_at 0 Q Tryz.zeroCells168;have p1:=put_at 74 #[.int .u64 p] (put 0 Q Tryz.zeroCells168);have z:=zeroS;rw [fill_one _ _ 0 0 74 _ _ rfl (by simpa [Value.cells] using hQ) (by omega),fill_one _ _ 1 74 1 _ _ rfl rfl (by simp only [Value.cells];omega)];simp only [Instr.fill,Value.cells,Option.some.injEq];apply Array.ext_getElem?;intro i;rw [p1.2 i (by simp;omega),p0.2 i (by omega)];unfold slotA;rw [Array.getElem?_append,hQ];by_cases h0:i<74
 ·rw [if_neg (by simp;omega),if_pos ⟨by omega,by omega⟩,if_pos h0];simp
 ·by_cases h8:i<75
  ·have:i=74:=by omega
   subst this;simp
  ·rw [if_neg (by simp;omega),if_neg (by omega),if_neg h0,Array.getElem?_eq_none (by omega),Array.getElem?_eq_none (by simp;omega)]
theorem mem_put {n:Nat} {S:Array Value} (hSz:S.size=n*75) (hsl:∀ i,i<n->SlotG S i) {z:Nat->UInt8} {wh:Bool} {fc:Nat->Bool} {b h gg:Int} {QA:Array Value} (o:Ok z wh fc b h gg) (r:Row z wh fc b 0 0 QA) (d:Nat) (k:Int) {pl:Nat} (hp:pl<n):∀ i,i<n->SlotG (setsA S (pl*75) (slotA (qA QA (d:Int) k) ((pathsN d z wh fc b:Nat):Int)).toList) i:=by
 have hs:=slotA_size (qA_size r.size (d:Int) k) ((pathsN d z wh fc b:Nat):Int);have hin:pl*75+(slotA (qA QA (d:Int) k) ((pathsN d z wh fc b:Nat):Int)).toList.length<=S.size:=by rw [Array.length_toList,hs,hSz];omega
 intro i hi;by_cases e:i=pl
 ·subst e;refine ⟨z,wh,fc,b,QA,d,k,((pathsN d z wh fc b:Nat):Int),r,o.nz,o.nf,fun j hj=>?_,fun h' g' o' m em _ _=>?_⟩
  ·rw [setsA_get _ _ _ hin,if_pos (by rw [Array.length_toList,hs];omega),Nat.add_sub_cancel_left,Array.getElem?_toList]
  ·have:d=m:=by omega
   rw [this]
 ·obtain ⟨z',wh',fc',b',A,d',way,p,rA,nz,nf,hcs,hok⟩:=hsl i hi;refine ⟨z',wh',fc',b',A,d',way,p,rA,nz,nf,fun j hj=>?_,hok⟩;rw [setsA_get _ _ _ hin,if_neg (by rw [Array.length_toList,hs];omega)];exact hcs j hj
structure Mt (g n:Nat) (Q:Array Value) (sz:Nat) (b2 b3:Nat) (w W:World):Prop where
 m:W.heap[b2]?=some (.cells #[svN g n] 56)
 q:W.heap[b3]?=some (.cells Q 117)
 s:∃ S:Array Value,S.size=sz/\W.heap[g]?=some (.cells S 168)
theorem Mt.c {g n:Nat} {Q:Array Value} {sz b2 b3:Nat} {w W:World} (h:Mt g n Q sz b2 b3 w W):W.cell? ⟨b2,0,none⟩=some (svN g n):=by rw [cells_at h.m];rfl
theorem Mt.rq {g n:Nat} {Q:Array Value} {sz b2 b3:Nat} {w W:World} (h:Mt g n Q sz b2 b3 w W):W.rangeAt b3 0 Q.toList:=fun j v hv=>by
 rw [Nat.zero_add,cells_at h.q,<-Array.getElem?_toList];exact hv
theorem rememberN_any {z:Nat->UInt8} {wh:Bool} {fc:Nat->Bool} {b h gg:Int} {QA:Array Value} (o:Ok z wh fc b h gg) (r:Row z wh fc b 0 0 QA) (g n:Nat) (hn:0<n) (hn2:n<=4096) (d:Nat) (k:Int) (w:World) (hI:MemS g n w) :
  Calls Tryz.prog 48 #[.agg #[svN g n],.agg (qA QA (d:Int) k),.int .u64 ((pathsN d z wh fc b:Nat):Int)] w fun e w'=>(∃ v,e=.returned v)/\Fx g w w'/\MemS g n w':=by
 obtain ⟨S,hS,hSz,hsl⟩:=hI;have hpl:=hide (fun W=>placeM_any o r g n hn hn2 (d:Int) k W);have hpm:(keyS z wh fc b).toNat%n<n:=Nat.mod_lt _ hn;generalize (keyS z wh fc b).toNat%n=pl at hpl hpm;have hq74:=qA_size r.size (d:Int) k;have hR75:=slotA_size hq74 ((pathsN d z wh fc b:Nat):Int);have hRone:=hide (slotA_ones (qA_ones (row_ones r) (d:Int) k) ((pathsN d z wh fc b:Nat):Int));have hblt:=hide (built_s (qA QA (d:Int) k) hq74 ((pathsN d z wh fc b:Nat):Int));have hnew:=hide (mem_put hSz hsl o r d k hpm);obtain ⟨x1,x2⟩:=heapTwo w (.cells #[svN g n] 56) (.cells (qA QA (d:Int) k) 117);have hg0:Gr w ((w.alloc (.cells #[svN g n] 56)).alloc (.cells (qA QA (d:Int) k) 117)):=((Gr.refl w).alloc _ _).alloc _ _;have hS0:=(Below.block hg0 _ (heap_lt hS)).trans hS;have hgl:=heap_lt hS;generalize ((pathsN d z wh fc b:Nat):Int)=P at hR75 hRone hblt hnew ⊢;generalize qA QA (d:Int) k=Q at hpl hq74 hR75 hRone hblt hnew x1 x2 hg0 hS0 ⊢;generalize slotA Q P=RR at hR75 hRone hblt hnew;clear o r hsl hS;have hnz:(0:Int)<(n:Int):=by omega
 have hp0:(0:Int)<=(pl:Int):=by omega
 have hpn:(pl:Int)<(n:Int):=by omega
 go_enter Tryz.func48,Tryz.ntmps48;go_upto_region 1 with fail;show Code.wp _ _ _ _ ((w.alloc (.cells #[svN g n] 56)).alloc (.cells Q 117));generalize ((w.alloc (.cells #[svN g n] 56)).alloc (.cells Q 117))=w0 at x1 x2 hg0 hS0 ⊢;have c0:w0.cell? ⟨w.heap.size,0,none⟩=some (.slice (some ⟨g,0,none⟩) n n):=by rw [cells_at x1];rfl
 go_upto_region 2 with fail;have hM0:Mt g n Q S.size w.heap.size (w.heap.size+1) w w0.drew:=⟨x1,x2,⟨S,rfl,hS0⟩⟩;refine wp_region_held_drew (S:=Mt g n Q S.size w.heap.size (w.heap.size+1) w) (by kernel_rfl) hM0 (fun hHeld=>?_);have hMs:Ms g n Q S w.heap.size (w.heap.size+1) w w0.drew:=⟨⟨x1,x2,hg0.drew⟩,hS0⟩;clear hM0 x1 x2 hg0 hS0 c0;refine C.tq 0 (.pointer (some ⟨w.heap.size,0,none⟩)) hHeld ?_;refine C.ty 1 (.slice (some ⟨g,0,none⟩) n n) rfl (Or.inl ⟨by rfl,fun w' hw=>(by have c0:=hw.c;unfold svN at c0;go_simp)⟩) hHeld ?_;refine C.ty 2 (.agg #[svN g n]) rfl (Or.inl ⟨by rfl,fun w' hw=>(by have c0:=hw.c;go_simp)⟩) hHeld ?_;refine C.ty 3 (.agg Q) rfl (y_q hq74 (by rfl) _ rfl (w.heap.size+1) rfl (fun _ h=>h.rq)) hHeld ?_;refine C.ty 5 (.agg Q) rfl (y_q hq74 (by rfl) _ rfl (w.heap.size+1) rfl (fun _ h=>h.rq)) hHeld ?_;refine C.tq 6 (.int .u64 P) hHeld ?_;refine C.ty 7 (.agg RR) rfl (y_build (by rfl) 168 #[(0,.tmp 15),(1,.tmp 16)] rfl RR (by simp;exact unhide hblt)) hHeld ?_;refine C.rd 4 fun K hK=>?_
 go_simp;refine (unhide hpl _).mono ?_;rintro e wa ⟨rfl,hga⟩;have hMa:=hMs.next hga;refine hK.out _ _ ⟨hMa.mq.m,hMa.mq.q,⟨S,rfl,hMa.s⟩⟩ (fun hHeld=>?_);clear hK K
 try simp only [C.py]
 refine C.tq 8 (.pointer (some ⟨g,pl*75,none⟩)) hHeld ?_;refine C.rd 9 fun K hK=>?_
 rw [if_pos (by rfl)]
 have hth:wa.there g (pl*75) RR.size:=fun j hj=>by
  rw [hR75] at hj;refine ⟨?_,row_open hMa.s⟩;rw [cells_at hMa.s,Array.getElem?_eq_getElem (by omega)];rfl
 refine wp_store_mid 168 _ _ rfl g (pl*75) RR rfl rfl hth (by rw [hR75];exact infoS75) (unhide hRone) ?_;have hfx:=setCells_fx g RR.toList (pl*75) wa;have hs9:=setCells_heap g 168 RR.toList (pl*75) wa S hMa.s;refine hK.out _ _ ⟨hfx.at hMa.mq.m (by omega),hfx.at hMa.mq.q (by omega),⟨_,setsA_size _ _ _,hs9⟩⟩ (fun hHeld=>?_);clear hK K
 try simp only [C.py]
 refine wpAnyH_done (by kernel_rfl) ?_ _;have hfin:Hid (Fx g w (wa.setCells g (pl*75) RR.toList)/\MemS g n (wa.setCells g (pl*75) RR.toList)):=hide ⟨Fx.trans (Fx.of hMa.mq.gr) hfx,_,hs9,by rw [setsA_size];exact hSz,unhide hnew⟩;generalize wa.setCells g (pl*75) RR.toList=w9 at hfin ⊢;clear hHeld hMa hMs hfx hs9 hth;go_wp2_with fail;go_end0;exact ⟨⟨_,rfl⟩,(unhide hfin).1,(unhide hfin).2⟩
theorem memN (g n:Nat) (hn:0<n) (hn2:n<=4096):MemI g n (MemS g n) where
 st:=fun A A' h f=>by obtain ⟨S,hS,r⟩:=h;exact ⟨S,f.same _ _ hS rfl,r⟩
 ob:=fun A h=>by obtain ⟨S,hS,r⟩:=h;exact ⟨S,_,hS⟩
 rc:=by
  intro z wh fc b h gg QA o r d h1 h2 way W hW;exact recallN_any o r g n hn hn2 d h1 h2 way W hW
 rm:=by
  intro z wh fc b h gg QA o r d h1 h2 way W hW;exact rememberN_any o r g n hn hn2 d way W hW
end Go.Proofs.YtnfakamfmkhlbabGreatDoor.C
namespace Go.Proofs.YtnfakamfmkhlbabGreatDoor.C
abbrev muLinkZ:Go.Conc.Locks.MuLink:={ lock:=22,unlock:=23,ilock:=43,iunlock:=44,lockSlow:=89,unlockSlow:=92,disable:=85,enable:=87,acquire:=88,relMerge:=90,cas32:=86,add32:=91,tMutex:=64,tIMutex:=62,tPMutex:=115,tPIMutex:=160,tPI32:=162,tUP:=164,tNoCopy:=59,tU32:=60 }
theorem muLibZ:Go.Conc.Locks.MuLib Tryz.prog muLinkZ :=
 ⟨Tryz.func22,Tryz.func23,Tryz.func43,Tryz.func44,Tryz.func85,Tryz.func87,Tryz.func88,Tryz.func90,Tryz.func86,Tryz.func91,Tryz.underlying62,Tryz.runUnderlying62,Tryz.sizeOf62,Tryz.isAgg62,Tryz.zeroValue62,Tryz.underlying64,Tryz.runUnderlying64,Tryz.sizeOf64,Tryz.isAgg64,Tryz.zeroValue64,Tryz.underlying115,Tryz.runUnderlying115,Tryz.sizeOf115,Tryz.isAgg115,Tryz.zeroValue115,Tryz.underlying160,Tryz.runUnderlying160,Tryz.sizeOf160,Tryz.isAgg160,Tryz.zeroValue160,Tryz.underlying162,Tryz.runUnderlying162,Tryz.sizeOf162,Tryz.isAgg162,Tryz.zeroValue162,Tryz.underlying164,Tryz.runUnderlying164,Tryz.sizeOf164,Tryz.isAgg164,Tryz.zeroValue164,Tryz.underlying59,Tryz.runUnderlying59,Tryz.sizeOf59,Tryz.isAgg59,Tryz.zeroValue59,Tryz.underlying21,Tryz.runUnderlying21,Tryz.sizeOf21,Tryz.isAgg21,Tryz.zeroValue21,(by kernel_rfl)⟩
end Go.Proofs.YtnfakamfmkhlbabGreatDoor.C
