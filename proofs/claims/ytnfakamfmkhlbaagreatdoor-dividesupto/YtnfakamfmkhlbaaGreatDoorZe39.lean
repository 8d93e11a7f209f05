import Derived.Test.YtnfakamfmkhlbaaGreatDoorZe38
import Derived.Test.YtnfakamfmkhlbaaGreatDoorZe37
import Derived.Test.YtnfakamfmkhlbaaGreatDoorZe36
import Derived.Test.YtnfakamfmkhlbaaGreatDoorKz2
import Derived.Test.YtnfakamfmkhlbaaGreatDoorKz3
set_option maxRecDepth 100000
set_option maxHeartbeats 4000000
set_option linter.unusedSimpArgs false
namespace Go.Proofs.YtnfakamfmkhlbaaGreatDoor.C
open Go.ChangeShapes Go.WideShapes Go.ChangeAt Go.RowKit Go.Shelf
open Go.Proofs.YtnfakamfmkhlbaaGreatDoor.P
attribute [local go_sem] qd qi Oper.semAt_some
theorem sumC_any {g n:Nat} {I:World->Prop} {ga gm gi:Nat} {wn:Int} (mi:MemI g n I) (aw:Away g) (wy:WayN wn ga gm gi) (d:Nat) (hd:d+1<=3) (ih:PathsC g n I ga gm wn d):SumC g n I ga gm wn (d+1):=by
 intro z wh fc b h gg PA o r w hi hw;have hz:=r.size;obtain ⟨S0,fr0,hob⟩:=mi.ob w hi;have hgl:g<w.heap.size:=(Array.getElem?_eq_some_iff.1 hob).1;obtain ⟨x1,x2,x3,x4⟩:=heapThree w (.cells (ctrA ga gm wn g n) 136) (.cells PA 25) (.cells #[.int .i64 ((d+1:Nat):Int)] 3);have hg0:Gr w (((w.alloc (.cells (ctrA ga gm wn g n) 136)).alloc (.cells PA 25)).alloc (.cells #[.int .i64 ((d+1:Nat):Int)] 3)):=(((Gr.refl w).alloc _ _).alloc _ _).alloc _ _;obtain ⟨R,hR⟩:∃ R,Hid (R=pathsN (d+1) z wh fc b):=⟨_,hide rfl⟩;rw [<-qa hR];go_enter Tryz.func131,Tryz.ntmps131;go_upto_region 1 with fail;show Code.wp _ _ _ _ (((w.alloc (.cells (ctrA ga gm wn g n) 136)).alloc (.cells PA 25)).alloc (.cells #[.int .i64 ((d+1:Nat):Int)] 3));generalize (((w.alloc (.cells (ctrA ga gm wn g n) 136)).alloc (.cells PA 25)).alloc (.cells #[.int .i64 ((d+1:Nat):Int)] 3))=w0 at x1 x2 x3 x4 hg0 ⊢;have hi0:I w0:=mi.st _ _ hi (Fr.of_gr hg0);have hw0:=hw.gr hg0;have hcw0:Cw g n I ga gm wn PA (d+1) w.heap.size (w.heap.size+1) (w.heap.size+2) w0:=⟨x1,x2,x3,hw0,hi0⟩;obtain ⟨xs,hpm,mk⟩:=wy.mk' r o w0 hw0;have em:=mk.em;have hgo:=hide mk.go;have c1:w0.cell? ⟨w.heap.size,1,none⟩=some (.func (.func gm) #[] #[]):=by rw [qm x1];rfl
 have c3:=(qe x3).1;by_cases h0:d=0
 ·subst h0;have hcnt:Hid (∀ lb C W,NoSlot C W->It Tryz.prog gi lb encM (fun _=>False) C xs W->Calls Tryz.prog 102 #[.func (.func gi) #[] lb] W fun e w'=>e=.returned (.int .i64 ((xs.length:Nat):Int))/\Gr W w'):=hide fun lb C W h1 h2=>countM_any h2 mk.ei (fun k hk=>(h1 k hk).1) (by have:=hpm.length_eq;have:=qqp z wh fc b;omega)
  have hl:R=xs.length:=by rw [qa hR,show 0+1=1 from rfl,paths_one,hpm.length_eq]
  have hl6:xs.length<=1000000:=by rw [hpm.length_eq];exact qqp z wh fc b
  have ew:IntKind.u64.wrap ((xs.length:Nat):Int)=((xs.length:Nat):Int):=by rw [IntKind.wrap_u64];omega
  have e1:(((0+1:Nat):Int)==1)=true:=by decide
  have hfin:Hid (∀ W,Gr w0 W->Fx g w W/\I W):=hide fun W k=>⟨Fx.of (Gr.trans hg0 k),mi.st _ _ hi0 (Fr.of_gr k)⟩
  subst hl;clear ih hob o r hcw0 hw0 hi0 mi aw mk hpm hi hw hR
  go_wp2_with (first
   | (refine wpList_load_row rfl 25 _ rfl (w.heap.size+1) rfl 25 PA (0,0) _ (by with_reducible exact x2) Tryz.underlying25 rfl (by rw [hz];exact infoP) ?_)
   | (go_at_fn gm;refine (qa hgo).mono ?_;rintro e w1 ⟨lb,C,rfl,hg1,hns,hit⟩)
   | (go_at_call 102;refine (qa hcnt _ _ _ hns hit).mono ?_;rintro e w2 ⟨rfl,hg2⟩))
  go_ret;exact ⟨rfl,qa hfin _ (Gr.trans hg1 hg2)⟩
 ·have e1:(((d+1:Nat):Int)==1)=false:=by rw [beq_eq_false_iff_ne];omega
  have hsum:Hid (∀ lb C W,Gr w0 W->NoSlot C W->It Tryz.prog gi lb encM (fun _=>False) C xs W->Calls Tryz.prog 215 #[.func (.func gi) #[] lb,.func (.func 216) #[] #[.pointer (some ⟨w.heap.size,0,none⟩),.pointer (some ⟨w.heap.size+1,0,none⟩),.pointer (some ⟨w.heap.size+2,0,none⟩)]] W fun e w'=>e=.returned (.int .u64 ((R:Nat):Int))/\Fx g w w'/\I w'):=hide fun lb C W hgW hns hit=>by
   have hiW:I W:=mi.st _ _ hi0 (Fr.of_gr hgW);have hcW:=hcw0.fx aw (Fx.of hgW) (by omega) (by omega) (by omega) hiW;obtain ⟨S1,fr1,hob1⟩:=mi.ob W hiW;have hsz:=Below.size hgW
   have:=sumU_any hit mk.ei (fun k hk=>(hns k hk).1) g (hns.not aw hob1) (by omega) w.heap.size (w.heap.size+1) (w.heap.size+2) (fun x=>pathsN d (plZ z b x) (!wh) (cfA fc x.1 x.2.1 4) (behA z x.1 x.2.1)) (Cw g n I ga gm wn PA (d+1) w.heap.size (w.heap.size+1) (w.heap.size+2))
    (fun A A' hA f=>hA.low f (by omega) (by omega) (by omega) (hA.wt.low hcW.wt f) (mi.st _ _ hA.i (f.mono fun k _ _ hk=>by omega))) hcW
    (fun f t u hx V hV=>(sum1_any (by omega) mi aw ih o r w.heap.size (w.heap.size+1) (w.heap.size+2) (by omega) (by omega) (by omega) f t u (hpm.mem_iff.1 hx) V hV).mono fun e V' k=>?_) (by rw [qxt hpm d];exact paths_lt hd z wh fc b)
   ·refine this.mono ?_;rintro e w' ⟨rfl,k1,k2⟩;exact ⟨by rw [qxt hpm d,qa hR],Fx.trans (Fx.of (Gr.trans hg0 hgW)) k1,k2.i⟩
   ·exact ⟨k.1,k.2.1,hV.fx aw k.2.1 (by omega) (by omega) (by omega) k.2.2⟩
  clear ih hob o r hcw0 hw0 hi0 mi aw mk hpm hi hw hR
  go_wp2_with (first
   | (refine wpList_load_row rfl 25 _ rfl (w.heap.size+1) rfl 25 PA (0,0) _ (by with_reducible exact x2) Tryz.underlying25 rfl (by rw [hz];exact infoP) ?_)
   | (go_at_fn gm;refine (qa hgo).mono ?_;rintro e w1 ⟨lb,C,rfl,hg1,hns,hit⟩)
   | (go_at_call 215;refine (qa hsum _ _ _ hg1 hns hit).mono ?_;rintro e w2 ⟨rfl,hg2⟩))
  go_ret;exact ⟨rfl,hg2⟩
structure Pw (g n:Nat) (I:World->Prop) (ga gm:Nat) (wn:Int) (PA Q:Array Value) (b1 b2 b3:Nat) (w W:World):Prop where
 c:W.heap[b1]?=some (.cells (ctrA ga gm wn g n) 136)
 p:W.heap[b2]?=some (.cells PA 25)
 q:W.heap[b3]?=some (.cells Q 202)
 wt:Wt W
 i:I W
 fx:Fx g w W
theorem Pw.next {g n:Nat} {I:World->Prop} {ga gm:Nat} {wn:Int} {PA Q:Array Value} {b1 b2 b3:Nat} {w W W':World} (h:Pw g n I ga gm wn PA Q b1 b2 b3 w W) (a:Away g) (f:Fx g W W') (h1:b1≠g) (h2:b2≠g) (h3:b3≠g) (hi:I W'):Pw g n I ga gm wn PA Q b1 b2 b3 w W' :=
 ⟨f.at h.c h1,f.at h.p h2,f.at h.q h3,h.wt.fx a f,hi,Fx.trans h.fx f⟩
theorem Pw.c3 {g n:Nat} {I:World->Prop} {ga gm:Nat} {wn:Int} {PA Q:Array Value} {b1 b2 b3:Nat} {w W:World} (h:Pw g n I ga gm wn PA Q b1 b2 b3 w W):W.cell? ⟨b1,3,none⟩=some (svN g n):=by rw [qm h.c];rfl
theorem Pw.cs {g n:Nat} {I:World->Prop} {ga gm:Nat} {wn:Int} {PA Q:Array Value} {b1 b2 b3:Nat} {w W:World} (h:Pw g n I ga gm wn PA Q b1 b2 b3 w W):W.cell? ⟨b1,0,none⟩=some (.func (.func ga) #[] #[])/\W.cell? ⟨b1,1,none⟩=some (.func (.func gm) #[] #[])/\W.cell? ⟨b1,2,none⟩=some (.int .i64 wn):=by
 refine ⟨?_,?_,?_⟩<;>(rw [qm h.c];rfl)
theorem paths_any {g n:Nat} {I:World->Prop} {ga gm gi:Nat} {wn:Int} (mi:MemI g n I) (aw:Away g) (wy:WayN wn ga gm gi):∀ d:Nat,d<=3->PathsC g n I ga gm wn d:=by
 intro d;induction d with
 | zero =>
  intro _ z wh fc b h gg PA o r w hi hw;have hfin:Hid (∀ W,Gr w W->Fx g w W/\I W):=hide fun W k=>⟨Fx.of k,mi.st _ _ hi (Fr.of_gr k)⟩
  show Calls Tryz.prog 65 #[.agg (ctrA ga gm wn g n),.agg PA,.int .i64 0] w fun e w'=>e=.returned (.int .u64 1)/\Fx g w w'/\I w'
  clear o r hi hw mi;go_enter Tryz.func65,Tryz.ntmps65;go_wp2_with fail;go_ret;exact ⟨rfl,qa hfin _ (((Gr.refl w).alloc _ _).alloc _ _)⟩
 | succ d ih =>
  intro hd z wh fc b h gg PA o r w hi hw;have hsumC:SumC g n I ga gm wn (d+1):=sumC_any mi aw wy d hd (ih (by omega));have hz:=r.size;obtain ⟨S0,fr0,hob⟩:=mi.ob w hi;have hgl:g<w.heap.size:=(Array.getElem?_eq_some_iff.1 hob).1;obtain ⟨x1,x2⟩:=heapTwo w (.cells (ctrA ga gm wn g n) 136) (.cells PA 25);have hg0:Gr w ((w.alloc (.cells (ctrA ga gm wn g n) 136)).alloc (.cells PA 25)):=((Gr.refl w).alloc _ _).alloc _ _;have hs0:((w.alloc (.cells (ctrA ga gm wn g n) 136)).alloc (.cells PA 25)).heap.size=w.heap.size+2:=by simp
  have hask:Hid (∀ W,Calls Tryz.prog 129 #[.agg PA,.int .i64 ((d+1:Nat):Int),.int .i64 wn] W fun e w'=>∃ QA,e=.returned (.agg (qA QA ((d+1:Nat):Int) wn))/\Row z wh fc b 0 0 QA/\Gr W w'):=hide fun W=>ask_any r _ _ W
  have hrec:Hid (∀ QA,Row z wh fc b 0 0 QA->∀ W,I W->Calls Tryz.prog 130 #[.agg #[svN g n],.agg (qA QA ((d+1:Nat):Int) wn)] W fun e w'=>(e=.returned (.tuple #[.int .u64 0,.bool false])\/e=.returned (.tuple #[.int .u64 ((pathsN (d+1) z wh fc b:Nat):Int),.bool true]))/\Gr W w'):=hide fun QA hq W hi=>mi.rc o hq (d+1) (by omega) hd wn W hi
  have hrem:Hid (∀ QA,Row z wh fc b 0 0 QA->∀ W,I W->Calls Tryz.prog 132 #[.agg #[svN g n],.agg (qA QA ((d+1:Nat):Int) wn),.int .u64 ((pathsN (d+1) z wh fc b:Nat):Int)] W fun e w'=>(∃ v,e=.returned v)/\Fx g W w'/\I w'):=hide fun QA hq W hi=>mi.rm o hq (d+1) (by omega) hd wn W hi
  have hsm:Hid (∀ W,I W->Wt W->Calls Tryz.prog 131 #[.agg (ctrA ga gm wn g n),.agg PA,.int .i64 ((d+1:Nat):Int)] W fun e w'=>e=.returned (.int .u64 ((pathsN (d+1) z wh fc b:Nat):Int))/\Fx g W w'/\I w'):=hide fun W hi hw=>hsumC o r W hi hw
  have hst:Hid (∀ W W',I W->Gr W W'->I W'):=hide fun W W' hi k=>mi.st W W' hi (Fr.of_gr k)
  have ho72:Hid (∀ QA d n,Row z wh fc b 0 0 QA->(qA QA d n).size=74/\(qA QA d n).all (·.oneCell')=true):=hide fun QA d n hq=>⟨qvs hq.size d n,qA_ones (qz hq) d n⟩
  have e0:(((d+1:Nat):Int)==0)=false:=by rw [beq_eq_false_iff_ne];omega
  generalize pathsN (d+1) z wh fc b=R at hrec hrem hsm ⊢;clear ih hob o r hsumC mi wy;go_enter Tryz.func65,Tryz.ntmps65;go_upto_region 3 with fail;show Code.wp _ _ _ _ ((w.alloc (.cells (ctrA ga gm wn g n) 136)).alloc (.cells PA 25));generalize ((w.alloc (.cells (ctrA ga gm wn g n) 136)).alloc (.cells PA 25))=w0 at x1 x2 hg0 hs0 ⊢;have hi0:I w0:=qa hst _ _ hi hg0;have hw0:=hw.gr hg0;have c2:w0.cell? ⟨w.heap.size,2,none⟩=some (.int .i64 wn):=by rw [qm x1];rfl
  go_upto_region 4 with (first
   | (refine wpList_load_row rfl 25 _ rfl (w.heap.size+1) rfl 25 PA (0,0) _ (by with_reducible exact x2) Tryz.underlying25 rfl (by rw [hz];exact infoP) ?_)
   | (go_at_call 129;refine (qa hask _).mono ?_;rintro e w1 ⟨QA,rfl,hq,hg1⟩;have y1:=heap_alloc_new w1 (.cells Tryz.zeroCells202 202);obtain ⟨q74,qone⟩:=qa ho72 QA ((d+1:Nat):Int) wn hq)
   | (refine wpList_store_row rfl 202 _ _ rfl w1.heap.size (qA QA ((d+1:Nat):Int) wn) rfl rfl 202 Tryz.zeroCells202 (by with_reducible exact y1) (by rw [q74];exact infoQ) (by rw [q74];exact zeroQ) qone ?_))
  have hP:Pw g n I ga gm wn PA (qA QA ((d+1:Nat):Int) wn) w.heap.size (w.heap.size+1) w1.heap.size w ((w1.alloc (.cells Tryz.zeroCells202 202)).setRow w1.heap.size (qA QA ((d+1:Nat):Int) wn)):=by
   have hk:Gr w1 ((w1.alloc (.cells Tryz.zeroCells202 202)).setRow w1.heap.size (qA QA ((d+1:Nat):Int) wn)):=((Gr.refl w1).alloc _ _).setRow _ (Nat.le_refl _) _;have hk2:=Gr.trans hg1 hk;exact ⟨(Below.block hk2 _ (xg x1)).trans x1,(Below.block hk2 _ (xg x2)).trans x2,setRow_heap _ _ _ _ _ _ y1,hw0.gr hk2,qa hst _ _ hi0 hk2,Fx.of (Gr.trans hg0 hk2)⟩
  have hb3:w1.heap.size≠g:=by have:=Below.size hg1;omega
  generalize ((w1.alloc (.cells Tryz.zeroCells202 202)).setRow w1.heap.size (qA QA ((d+1:Nat):Int) wn))=w2 at hP ⊢;generalize w1.heap.size=b3 at hP hb3 ⊢;have hb1:w.heap.size≠g:=by omega
  have hb2:w.heap.size+1≠g:=by omega
  have hrec2:=hide (qa hrec QA hq);have hrem2:=hide (qa hrem QA hq);clear hask hrec hrem hi0 hw0 c2 x1 x2 hg0 hg1 y1 hi hw ho72 hq qone e0;generalize qA QA ((d+1:Nat):Int) wn=Q at hP hrec2 hrem2 q74 ⊢;have c3:=hP.c3;have cq:=hP.q
  go_upto_region 5 with (first
   | (refine wpList_load_row rfl 202 _ rfl b3 rfl 202 Q (0,0) _ (by with_reducible exact cq) Tryz.underlying202 rfl (by rw [q74];exact infoQ) ?_)
   | (go_at_call 130;refine (qa hrec2 _ hP.i).mono ?_;rintro e w3 ⟨rfl|rfl,hg3⟩))
  ·have hP3:=hP.next aw (Fx.of hg3) hb1 hb2 hb3 (qa hst _ _ hP.i hg3);clear hrec2 c3 cq hP hg3;obtain ⟨d0,d1,d2⟩:=hP3.cs;have d3:=hP3.c3;have dp:=hP3.p
   go_upto_region 8 with (first
    | (refine wpList_load_row rfl 25 _ rfl (w.heap.size+1) rfl 25 PA (0,0) _ (by with_reducible exact dp) Tryz.underlying25 rfl (by rw [hz];exact infoP) ?_)
    | (refine wpList_load_row rfl 136 _ rfl w.heap.size rfl 136 (ctrA ga gm wn g n) (0,0) _ (by with_reducible exact hP3.c) Tryz.underlying136 rfl infoCr ?_)
    | (go_at_call 131;refine (qa hsm _ hP3.i hP3.wt).mono ?_;rintro e w4 ⟨rfl,hf4,hi4⟩))
   have hP4:=hP3.next aw hf4 hb1 hb2 hb3 hi4;clear d0 d1 d2 d3 dp hP3 hf4 hi4 hsm;have c3:=hP4.c3;have cq:=hP4.q
   go_wp2_with (first
    | (refine wpList_load_row rfl 202 _ rfl b3 rfl 202 Q (0,0) _ (by with_reducible exact cq) Tryz.underlying202 rfl (by rw [q74];exact infoQ) ?_)
    | (go_at_call 132;refine (qa hrem2 _ hP4.i).mono ?_;rintro e w5 ⟨⟨v,rfl⟩,hf5,hi5⟩))
   go_ret;exact ⟨rfl,Fx.trans hP4.fx hf5,hi5⟩
  ·have hP3:=hP.next aw (Fx.of hg3) hb1 hb2 hb3 (qa hst _ _ hP.i hg3);clear hrec2 c3 cq hP hg3;go_wp2_with fail;go_ret;exact ⟨rfl,hP3.fx,hP3.i⟩
theorem qj7 {z:Nat->UInt8} {wh:Bool} {fc:Nat->Bool} {b h g:Int} {PA:Array Value} (o:Ok z wh fc b h g) (r:Row z wh fc b h g PA) {f t:Nat} {u:UInt8} (hx:(f,t,u)∈movS z wh fc b) (w:World) :
  Calls Tryz.prog 121 #[.agg PA,.agg #[.int .i64 (f:Int),.int .i64 (t:Int),.int .u8 (u.toNat:Int)]] w fun e w'=>∃ Q,e=.returned (.agg Q)/\Row (plZ z b (f,t,u)) (!wh) (cfA fc f t 4) (behA z f t) (halA z f t h) (fulA wh g) Q/\Gr w w':=by
 obtain ⟨c0,c1,c2,c3⟩:=o.clk;obtain ⟨hf,ht,hu,_,_⟩:=o.mv hx;have hl:=(qjv o.good o.b0 o.b1 hf ht hu).2 ((zc o.good o.b0 o.b1 _).2 hx);refine (qj6 r f t hf ht u hu c0 c1 c2 c3 w).mono ?_;rintro e w' ⟨Q,rfl,hq,hg⟩;exact ⟨Q,rfl,row_same o.good c1 c3 hf ht hu hl hq,hg⟩
theorem allO_any {z:Nat->UInt8} {wh:Bool} {fc:Nat->Bool} {b h g:Int} {PA:Array Value} (o:Ok z wh fc b h g) (r:Row z wh fc b h g PA) (w:World) :
  Calls Tryz.prog 95 #[.agg PA] w fun e w'=>∃ v,e=.returned v/\Mrs w.heap.size v (allR z wh fc b) w'/\Gr w w':=by
 obtain ⟨c0,c1,c2,c3⟩:=o.clk;exact allR_any r o.good o.b0 o.b1 c0 c1 c2 c3 w
def behN (d:Nat) (z:Nat->UInt8) (wh:Bool) (fc:Nat->Bool) (b:Int) (x:Mv):Nat:=pathsN d (plZ z b x) (!wh) (cfA fc x.1 x.2.1 4) (behA z x.1 x.2.1)
structure Rp (w:World) (PA:Array Value) (w1 W:World):Prop where
 p:W.heap[w.heap.size]?=some (.cells PA 25)
 gr:Gr w1 W
theorem Rp.next {w:World} {PA:Array Value} {w1 W W':World} (h:Rp w PA w1 W) (g:Gr W W'):Rp w PA w1 W':=⟨(Below.block g _ (xg h.p)).trans h.p,Gr.trans h.gr g⟩
theorem pathsR_any:∀ (d:Nat),d<=3->∀ {z:Nat->UInt8} {wh:Bool} {fc:Nat->Bool} {b h g:Int} {PA:Array Value},Ok z wh fc b h g->Row z wh fc b h g PA->∀ w:World,
  Calls Tryz.prog 120 #[.agg PA,.int .i64 (d:Int)] w fun e w'=>e=.returned (.int .u64 ((pathsN d z wh fc b:Nat):Int))/\Gr w w':=by
 intro d;induction d with
 | zero =>
  intro _ z wh fc b h g PA o r w;show Calls Tryz.prog 120 #[.agg PA,.int .i64 0] w fun e w'=>e=.returned (.int .u64 1)/\Gr w w'
  clear o r;go_enter Tryz.func120,Tryz.ntmps120;go_wp2_with fail;go_ret;exact ⟨rfl,(Gr.refl w).alloc _ _⟩
 | succ d ih =>
  intro hd z wh fc b h g PA o r w;have hz:=r.size;have hall:Hid (∀ W:World,Calls Tryz.prog 95 #[.agg PA] W fun e w'=>∃ v,e=.returned v/\Mrs W.heap.size v (allR z wh fc b) w'/\Gr W w'):=hide fun W=>allO_any o r W
  have hpm:=all_perm o.good o.b0 o.b1
  have hbh:Hid (∀ f t u,(f,t,u)∈allR z wh fc b->∀ W:World,Calls Tryz.prog 121 #[.agg PA,.agg #[.int .i64 (f:Int),.int .i64 (t:Int),.int .u8 (u.toNat:Int)]] W fun e w'=>∃ Q,e=.returned (.agg Q)/\(∀ V:World,Calls Tryz.prog 120 #[.agg Q,.int .i64 (d:Int)] V fun e w'=>e=.returned (.int .u64 ((behN d z wh fc b (f,t,u):Nat):Int))/\Gr V w')/\Gr W w'):=hide fun f t u hx W=>by
   have hx':=hpm.mem_iff.1 hx;refine (qj7 o r hx' W).mono ?_;rintro e w' ⟨Q,rfl,hq,hg⟩;exact ⟨Q,rfl,fun V=>ih (by omega) (o.next hx') hq V,hg⟩
  have hlen:(allR z wh fc b).length<=20480:=upI_len _ _ _ _ 64;have htot:Hid (((allR z wh fc b).map (behN d z wh fc b)).sum=pathsN (d+1) z wh fc b):=hide (qxt hpm d);have htl:Hid (((allR z wh fc b).map (behN d z wh fc b)).sum<=1000000000000000000):=hide (by rw [qa htot];exact paths_lt hd z wh fc b)
  have hone:Hid (d=0->((allR z wh fc b).length:Nat)=pathsN (d+1) z wh fc b):=hide fun e=>by
   subst e;rw [show 0+1=1 from rfl,paths_one,hpm.length_eq]
  generalize pathsN (d+1) z wh fc b=T at htot hone ⊢;generalize behN d z wh fc b=val at hbh htot htl;generalize allR z wh fc b=ys at hall hbh hlen htot htl hone;clear ih o r hpm;have y1:=heap_alloc_new w (.cells PA 25);have hg0:Gr w (w.alloc (.cells PA 25)):=(Gr.refl w).alloc _ _;obtain ⟨D,hD⟩:∃ D:Int,Hid (D=((d+1:Nat):Int)):=⟨_,hide rfl⟩;rw [<-qa hD];have e0:(D==0)=false:=by have:=qa hD;rw [beq_eq_false_iff_ne];omega
  go_enter Tryz.func120,Tryz.ntmps120;go_upto_region 3 with fail;generalize w.alloc (.cells PA 25)=w0 at y1 hg0 ⊢;have hrow:=hide (xr y1);have hlt0:=xg y1
  go_upto_region 4 with (first
   | (go_at_call 95;refine (qa hall _).mono ?_;rintro e w1 ⟨v,rfl,hv,hg1⟩;obtain ⟨pp,cap,rfl,hcap,hel⟩:=mrs_form hv)
   | (refine ql (by rfl) _ rfl w.heap.size rfl hz (qa hrow) ?_))
  have hgw:=hide (Gr.trans hg0 hg1);have hp1:=hide ((Below.block hg1 _ hlt0).trans y1);have hel':=hide hel;clear hall hv hg1 hrow hel y1 hg0 hlt0;by_cases h1:d=0
  ·subst h1;have hT:=qa hone rfl;subst hT;have e1:(D==1)=true:=by have:=qa hD;rw [beq_iff_eq];omega
   have ew:IntKind.u64.wrap (ys.length:Int)=(ys.length:Int):=by rw [IntKind.wrap_u64];omega
   clear hone htot htl hbh;go_wp2_with fail;go_ret;exact ⟨rfl,qa hgw⟩
  ·have e1:(D==1)=false:=by have:=qa hD;rw [beq_eq_false_iff_ne];omega
   have ed:IntKind.i64.wrap (D-1)=(d:Int):=by have:=qa hD;rw [IntKind.wrap_i64];omega
   have edd:IntKind.i64.wrap (d:Int)=(d:Int):=by rw [IntKind.wrap_i64];omega
   clear hone;go_wp2_with fail;go_loopg [6,7] ys.length (fun g n i wr=>∃ k:Nat,k+g=ys.length/\i=.int .i64 (k:Int)/\n=.int .u64 ((((ys.take k).map val).sum:Nat):Int)/\Gr w1 wr)
   case atStart=>exact ⟨0,by omega,rfl,rfl,Gr.refl _⟩
   case round =>
    obtain ⟨k,k1,rfl,rfl,hgr⟩:=hrel;by_cases hlt:k<ys.length
    ·obtain ⟨gg,rfl,x0,x1,x2⟩:=qa hel' k hlt;have hblt:gg<w1.heap.size:=World.block_lt_of_cell? _ _ x0;have z0:=x0;have z1:=x1;have z2:=x2;have hpk:=hide ((Below.block hgr _ (xg (qa hp1))).trans (qa hp1));have hrk:=hide (xr (qa hpk));have hmem:ys[k]∈ys:=List.getElem_mem _;have htk:ys.take (k+1)=ys.take k++[ys[k]]:=List.take_succ_eq_append_getElem hlt;have hpre:ys.take k++[ys[k]] <+: ys:=by rw [<-htk];exact List.take_prefix _ _
     have hsb:=sum_pre (f:=val) hpre;have hst:Hid (((ys.take (k+1)).map val).sum=((ys.take k).map val).sum+val ys[k]):=hide (by rw [htk,List.map_append,List.sum_append,List.map_cons,List.map_nil,List.sum_cons,List.sum_nil,Nat.add_zero]);have htl2:=qa htl;clear htk hpre;clear x0 x1 x2;generalize ys[k]=y at z0 z1 z2 hmem hsb hst;obtain ⟨f,t,u⟩:=y;have hb1:=hide (qa hbh f t u hmem);generalize ((ys.take k).map val).sum=sv at hsb hst ⊢;generalize val (f,t,u)=xv at hsb hst hb1;have hwr:IntKind.u64.wrap ((sv:Int)+(xv:Int))=((sv+xv:Nat):Int):=by rw [IntKind.wrap_u64];omega
     have hgr':=hide hgr;have k0:(0:Int)<=(k:Int):=by omega
     have kl:(k:Int)<(ys.length:Int):=by omega
     clear hgr hsb htl2 hmem hbh htl htot;go_upto_region 10 with fail;have hS0:Rp w PA w1 wr.drew:=⟨qa hpk,(qa hgr').drew⟩;refine wp_region_held_drew (S:=Rp w PA w1) (by kernel_rfl) hS0 (fun hHeld=>?_);clear hS0;refine C.tq 0 (.int .u64 (sv:Int)) hHeld ?_;refine C.ty 1 (.agg PA) rfl (qqz hz (by rfl) _ rfl w.heap.size rfl (fun _ h=>xr h.p)) hHeld ?_;refine C.tq 2 (.slice (some ⟨gg,0,none⟩) ys.length cap) hHeld ?_;refine C.tq 3 (.int .i64 (k:Int)) hHeld ?_;refine C.tq 4 (.pointer (some ⟨gg,k*3,none⟩)) hHeld ?_
     refine wpAnyH_take (i:=5) (v:=.agg #[.int .i64 (f:Int),.int .i64 (t:Int),.int .u8 (u.toNat:Int)]) rfl (by kernel_rfl) (by kernel_rfl) (by kernel_rfl) (fun _ _ _ h=>h) (Or.inl ⟨by rfl,fun w' hw=>(by
      have e0:=(Below.cell hw.gr hblt).trans z0;have e1:=(Below.cell hw.gr hblt).trans z1;have e2:=(Below.cell hw.gr hblt).trans z2;go_simp;try rfl)⟩) hHeld ?_
     simp only [C.py];refine C.ty 7 (.int .i64 D) rfl (Or.inl ⟨by rfl,fun w' hw=>(by go_simp;try rfl)⟩) hHeld ?_;refine C.ty 8 (.int .i64 (d:Int)) rfl (Or.inl ⟨by rfl,fun w' hw=>(by go_simp;first|done|exact ed|exact edd)⟩) hHeld ?_;refine C.rd 6 fun K hK=>?_
     go_simp;refine (qa hb1 _).mono ?_;rintro e w2 ⟨Q,rfl,hq,hg2⟩;refine hK.out _ _ (hHeld.next hg2) (fun hHeld=>?_);clear hK K
     try simp only [C.py]
     refine C.rd 9 fun K hK=>?_
     go_simp;refine (hq _).mono ?_;rintro e w3 ⟨rfl,hg3⟩;refine hK.out _ _ (hHeld.next hg3) (fun hHeld=>?_);clear hK K
     try simp only [C.py]
     refine C.ty 10 (.int .u64 ((sv+xv:Nat):Int)) rfl (Or.inl ⟨by rfl,fun w' hw=>(by go_simp;try exact hwr)⟩) hHeld ?_;refine C.rd 11 fun K hK=>?_
     go_simp;refine hK.out _ _ hHeld (fun hHeld=>?_);clear hK K
     try simp only [C.py]
     refine wpAnyH_done (by kernel_rfl) ?_ _;have hgf:=hide hHeld.gr;clear hHeld hq;go_wp2_with fail;go_roundg (gk-1)
     case measure=>omega
     case rel=>exact ⟨k+1,by omega,by go_num,by rw [qa hst,Int.natCast_add],qa hgf⟩
    ·have ek:k=ys.length:=by omega
     subst ek;have hT:((ys.take ys.length).map val).sum=T:=by rw [List.take_length];exact qa htot
     rw [hT];clear htot htl hbh hT;go_wp2_with fail;go_ret;exact ⟨rfl,Gr.trans (qa hgw) hgr⟩
end Go.Proofs.YtnfakamfmkhlbaaGreatDoor.C
