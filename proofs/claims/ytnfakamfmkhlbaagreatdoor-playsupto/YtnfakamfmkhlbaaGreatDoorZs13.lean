import Derived.Test.YtnfakamfmkhlbaaGreatDoorZs11
import Derived.Test.YtnfakamfmkhlbaaGreatDoorZs12
import Derived.Test.YtnfakamfmkhlbaaGreatDoorZs10
import Derived.Sort.LoopGhostIn
import Derived.Test.YtnfakamfmkhlbaaGreatDoorKz2
set_option maxRecDepth 100000
set_option maxHeartbeats 4000000
set_option linter.unusedSimpArgs false
namespace Go.Proofs.YtnfakamfmkhlbaaGreatDoor.C
open Go.ChangeShapes Go.WideShapes Go.ChangeAt Go.RowKit Go.Shelf
open Go.Proofs.YtnfakamfmkhlbaaGreatDoor.P
attribute [local go_sem] qd qi
def behB (b:Int):BitVec 64:=if 0<=b then 1#64 <<< b.toNat else 0#64
def ZF:Array Value:=#[.int .u64 0,.int .u64 0,.int .u64 0,.int .u64 0,.int .u64 0,.int .u64 0,.int .u64 0,.int .u64 0,.int .u64 0,.int .u64 0,.int .u64 0,.int .u64 0,.bool false,.int .u64 0,.int .u64 0,.int .u64 0,.bool false,.bool false,.bool false,.bool false]
theorem built20 (parts:List (Nat × Value)):Tryz.prog.built 259 parts=Instr.fill (fun i=>(#[(0,12),(12,1),(13,1),(14,1),(15,1),(16,4)]:Array (Nat × Nat))[i]?) ZF parts:=by kernel_rfl
def fldA (M:Array Value) (wh:Bool) (own oth beh:BitVec 64) (fc:Nat->Bool):Array Value:=M++#[.bool wh,.int .u64 (U own),.int .u64 (U oth),.int .u64 (U beh),.bool (fc 0),.bool (fc 1),.bool (fc 2),.bool (fc 3)]
theorem xl {M:Array Value} (h:M.size=12) {wh:Bool} {own oth beh:BitVec 64} {fc:Nat->Bool}:(fldA M wh own oth beh fc).size=20:=by simp [fldA,h]
theorem fld_is {m:Nat->BitVec 64} {M:Array Value} (h:IsMen m M) (wh:Bool) (own oth beh:BitVec 64) (fc:Nat->Bool):Fld m wh own oth beh fc (fldA M wh own oth beh fc):=by
 have hz:=h.1;refine ⟨xl h.1,fun i hi=>?_,?_,?_,?_,?_,fun i hi=>?_⟩
 ·rw [fldA,Array.getElem?_append_left (by omega)];exact h.2 i hi
 ·rw [fldA,Array.getElem?_append_right (by omega),hz];rfl
 ·rw [fldA,Array.getElem?_append_right (by omega),hz];rfl
 ·rw [fldA,Array.getElem?_append_right (by omega),hz];rfl
 ·rw [fldA,Array.getElem?_append_right (by omega),hz];rfl
 ·have:i=0\/i=1\/i=2\/i=3:=by omega
  rcases this with rfl|rfl|rfl|rfl<;>(rw [fldA,Array.getElem?_append_right (by omega),hz];rfl)
theorem fldA_beh {M:Array Value} (h:M.size=12) (wh:Bool) (own oth beh x:BitVec 64) (fc:Nat->Bool):(fldA M wh own oth beh fc).setIfInBounds 15 (.int .u64 (U x))=fldA M wh own oth x fc:=by
 apply Array.ext_getElem?;intro i;rw [Array.getElem?_setIfInBounds,xl h];by_cases e:15=i
 ·subst e;rw [if_pos rfl,if_pos (by omega),fldA,Array.getElem?_append_right (by omega),h];rfl
 ·rw [if_neg e];unfold fldA;by_cases h12:i<12
  ·rw [Array.getElem?_append_left (by omega),Array.getElem?_append_left (by omega)]
  ·rw [Array.getElem?_append_right (by omega),Array.getElem?_append_right (by omega),h];by_cases h20:i<20
   ·have:i=12\/i=13\/i=14\/i=16\/i=17\/i=18\/i=19:=by omega
    rcases this with rfl|rfl|rfl|rfl|rfl|rfl|rfl<;>rfl
   ·rw [Array.getElem?_eq_none (by simp;omega),Array.getElem?_eq_none (by simp;omega)]
theorem ZF_size:ZF.size=20:=rfl
theorem qj1 (M:Array Value) (hM:M.size=12) (wh:Bool) (own oth:BitVec 64) (fc:Nat->Bool) :
  Tryz.prog.built 259 [(0,.agg M),(1,.bool wh),(2,.int .u64 (U own)),(3,.int .u64 (U oth)),(5,.agg #[.bool (fc 0),.bool (fc 1),.bool (fc 2),.bool (fc 3)])]=some (fldA M wh own oth 0#64 fc):=by
 rw [built20];have p0:=jw 0 M ZF;have p1:=jw 12 #[.bool wh] (put 0 M ZF);have p2:=jw 13 #[.int .u64 (U own)] (put 12 #[.bool wh] (put 0 M ZF));have p3:=jw 14 #[.int .u64 (U oth)] (put 13 #[.int .u64 (U own)] (put 12 #[.bool wh] (put 0 M ZF)));have p4:=jw 16 #[.bool (fc 0),.bool (fc 1),.bool (fc 2),.bool (fc 3)] (put 14 #[.int .u64 (U oth)] (put 13 #[.int .u64 (U own)] (put 12 #[.bool wh] (put 0 M ZF))));have z:=ZF_size
 rw [xt _ _ 0 0 12 _ _ rfl (by simpa [Value.cells] using hM) (by omega),
  xt _ _ 1 12 1 _ _ rfl rfl (by simp only [Value.cells];omega),xt _ _ 2 13 1 _ _ rfl rfl (by simp only [Value.cells];omega),
  xt _ _ 3 14 1 _ _ rfl rfl (by simp only [Value.cells];omega),xt _ _ 5 16 4 _ _ rfl rfl (by simp only [Value.cells];omega)]
 simp only [Instr.fill,Value.cells,Option.some.injEq];apply Array.ext_getElem?;intro i;rw [p4.2 i (by simp;omega),p3.2 i (by simp;omega),p2.2 i (by simp;omega),p1.2 i (by simp;omega),p0.2 i (by omega)];by_cases h12:i<12
 ·rw [if_neg (by omega),if_neg (by omega),if_neg (by omega),if_neg (by omega),if_pos ⟨by omega,by omega⟩,fldA,Array.getElem?_append_left (by omega)];simp
 ·rw [fldA,Array.getElem?_append_right (by omega),hM];by_cases h20:i<20
  ·have:i=12\/i=13\/i=14\/i=15\/i=16\/i=17\/i=18\/i=19:=by omega
   rcases this with rfl|rfl|rfl|rfl|rfl|rfl|rfl|rfl<;>simp [ZF]<;>decide +kernel
  ·rw [if_neg (by simp;omega),if_neg (by simp;omega),if_neg (by simp;omega),if_neg (by simp;omega),if_neg (by omega),Array.getElem?_eq_none (by omega),Array.getElem?_eq_none (by simp;omega)]
theorem zm {ops:Array Oper} {o:Oper} {a:Act} {S:World->Prop} (hw:Region.wanted o (yielded ops a.tmps)=true) (t:TypeId) (parts:Array (Nat × Operand)) (ho:o.op=.build t parts) (cells:Array Value)
  (hf:Tryz.prog.built t (parts.map fun (i,x)=>(i,a.eval x)).toList=some cells):YieldsIf Tryz.prog ops S o (.agg cells) a:=Or.inl ⟨hw,fun w _=>by
 unfold execOp;simp only [ho,Sem.run_bind,run_build w t _ cells hf,Result.andThen_ok];rfl⟩
structure Fo7 (z:Nat->UInt8) (wh:Bool) (fc:Nat->Bool) (w:World) (PA:Array Value) (B3:Nat) (M:Array Value) (W:World):Prop where
 pa:W.heap[w.heap.size]?=some (.cells PA 25)
 me:HeldAt B3 M W
 res:W.heap[w.heap.size+1]?=some (.cells ZF 259)
 gr:Gr w W
 wh:W.cell? ⟨w.heap.size,64,none⟩=some (.bool wh)
 c0:W.cell? ⟨w.heap.size,65,none⟩=some (.bool (fc 0))
 c1:W.cell? ⟨w.heap.size,66,none⟩=some (.bool (fc 1))
 c2:W.cell? ⟨w.heap.size,67,none⟩=some (.bool (fc 2))
 c3:W.cell? ⟨w.heap.size,68,none⟩=some (.bool (fc 3))
section
variable {z:Nat->UInt8} {wh:Bool} {fc:Nat->Bool} {w W W':World} {PA:Array Value} {B3:Nat} {M:Array Value}
theorem Fo7.next (h:Fo7 z wh fc w PA B3 M W) (g:Gr W W'):Fo7 z wh fc w PA B3 M W':=by
 have hb:=(Array.getElem?_eq_some_iff.1 h.pa).1;have hc:∀ i,W'.cell? ⟨w.heap.size,i,none⟩=W.cell? ⟨w.heap.size,i,none⟩:=fun i=>Below.cell g (p:=⟨w.heap.size,i,none⟩) hb
 exact ⟨(Below.block g _ hb).trans h.pa,h.me.gr g,(Below.block g _ (Array.getElem?_eq_some_iff.1 h.res).1).trans h.res,Gr.trans h.gr g,by rw [hc];exact h.wh,by rw [hc];exact h.c0,by rw [hc];exact h.c1,by rw [hc];exact h.c2,by rw [hc];exact h.c3⟩
theorem Fo7.drew (h:Fo7 z wh fc w PA B3 M W):Fo7 z wh fc w PA B3 M W.drew:=h.next (Gr.refl _).drew
theorem Fo7.alloc (h:Fo7 z wh fc w PA B3 M W) (A:Array Value) (t:TypeId):Fo7 z wh fc w PA B3 M (W.alloc (.cells A t)):=h.next ((Gr.refl _).alloc _ _)
theorem fo_new (h:Fo7 z wh fc w PA B3 M W):(W.alloc (.cells ZF 259)).heap[W.heap.size]?=some (.cells ZF 259)/\w.heap.size+1<W.heap.size/\B3<W.heap.size :=
 ⟨World.alloc_heap_new _ _,(Array.getElem?_eq_some_iff.1 h.res).1,h.me.1⟩
theorem Fo7.put (h:Fo7 z wh fc w PA B3 M W) {g:Nat} (hg:w.heap.size+1<g) (h3:B3<g) (A:Array Value):Fo7 z wh fc w PA B3 M (W.setRow g A):=by
 have hc:∀ i,(W.setRow g A).cell? ⟨w.heap.size,i,none⟩=W.cell? ⟨w.heap.size,i,none⟩:=fun i=>cell_setRow_other _ _ _ _ (show w.heap.size≠g by omega)
 exact ⟨by rw [setRow_other _ _ _ _ (by omega)];exact h.pa,⟨by rw [size_setRow];exact h.me.1,fun j v hv=>by rw [cell_setRow_other _ _ _ _ (show B3≠g by omega)];exact h.me.2.1 j v hv,h.me.2.2⟩,by rw [setRow_other _ _ _ _ (by omega)];exact h.res,h.gr.setRow _ (by omega) _,by rw [hc];exact h.wh,by rw [hc];exact h.c0,by rw [hc];exact h.c1,by rw [hc];exact h.c2,by rw [hc];exact h.c3⟩
end
theorem boardP {z:Nat->UInt8} {wh:Bool} {fc:Nat->Bool} {b h g:Int} {PA:Array Value} (r:Row z wh fc b h g PA):(PA.toList.take 64).toArray.size=64/\∀ i,i<64->(PA.toList.take 64).toArray[i]?=some (.int .u8 ((z i).toNat:Int)):=by
 refine ⟨by simp [r.size],fun i hi=>?_⟩;rw [List.getElem?_toArray,List.getElem?_take,if_pos hi,Array.getElem?_toList];exact r.sq i hi
theorem fieldOf_any {z:Nat->UInt8} {wh:Bool} {fc:Nat->Bool} {b h g:Int} {PA:Array Value} (r:Row z wh fc b h g PA) (hok:layOk z=true) (hb0:-1<=b) (hb1:b<=63) (w:World):Calls Tryz.prog 172 #[.agg PA] w fun e w'=>∃ FA,e=.returned (.agg FA)/\Fld (layS z 64) wh (sideB (layS z 64) wh) (sideB (layS z 64) (!wh)) (behB b) fc FA/\Gr w w':=by
 obtain ⟨bs,bA⟩:=boardP r;have hlay:=hide (fun W=>lay_yes hok bs bA W);obtain ⟨x1,x2⟩:=heapTwo w (.cells PA 25) (.cells ZF 259);have hg2:Gr w ((w.alloc (.cells PA 25)).alloc (.cells ZF 259)):=((Gr.refl w).alloc _ _).alloc _ _;have hs2:((w.alloc (.cells PA 25)).alloc (.cells ZF 259)).heap.size=w.heap.size+2:=by simp
 have hmid:((w.alloc (.cells PA 25)).alloc (.cells ZF 259)).rangeAt w.heap.size 0 (PA.toList.take 64):=fun j v hv=>by
  rw [cell_of_row _ _ _ _ _ _ x1,Nat.zero_add];rw [List.getElem?_take] at hv;split at hv
  ·rw [<-Array.getElem?_toList];exact hv
  ·cases hv
 have hi64:(Tryz.prog.info? 22).map (·.size)=some (PA.toList.take 64).length:=by rw [info64];simp [r.size]
 have hr:=hide r;clear r;generalize (PA.toList.take 64)=L at hlay hmid hi64;go_enter Tryz.func172,Tryz.ntmps172
 go_upto_region 2 with (first
  | (go_at_call 73;refine (qa hlay _).mono ?_;rintro e w3 ⟨M,rfl,hM,hg3⟩)
  | (refine wpList_load_mid rfl 22 _ rfl w.heap.size 0 rfl L _ hmid Tryz.underlying22 rfl hi64 ?_)
  | (refine wpList_store_row rfl 151 _ _ rfl _ M rfl rfl 151 Z12 (World.alloc_heap_new _ _) hM.info hM.1.symm hM.ones ?_))
 have hMs:=hide hM.1;have hM':=hide hM;generalize hX3:w3.heap.size=B3;have hB3:w.heap.size+2<=B3:=by rw [<-hX3,<-hs2];exact Below.size hg3
 have hF4:Fo7 z wh fc w PA B3 M ((w3.alloc (.cells Z12 151)).setRow w3.heap.size M):=by
  have y1:=(Below.block hg3 w.heap.size (show w.heap.size<((w.alloc (.cells PA 25)).alloc (.cells ZF 259)).heap.size by rw [hs2];omega)).trans x1;have y2:=(Below.block hg3 (w.heap.size+1) (show w.heap.size+1<((w.alloc (.cells PA 25)).alloc (.cells ZF 259)).heap.size by rw [hs2];omega)).trans x2;have hg4:Gr w3 ((w3.alloc (.cells Z12 151)).setRow w3.heap.size M):=((Gr.refl w3).alloc _ _).setRow _ (Nat.le_refl _) _;have k1:=(Below.block hg4 _ (by omega)).trans y1;have k2:=(Below.block hg4 _ (by omega)).trans y2;refine ⟨k1,?_,k2,Gr.trans (Gr.trans hg2 hg3) hg4,?_,?_,?_,?_,?_⟩
  ·rw [<-hX3];exact jk (setRow_heap _ _ _ _ _ _ (World.alloc_heap_new _ _)) hM.1
  ·rw [cell_of_row _ _ _ _ _ _ k1];exact (qa hr).wh
  ·rw [cell_of_row _ _ _ _ _ _ k1];exact (qa hr).c 0 (by omega)
  ·rw [cell_of_row _ _ _ _ _ _ k1];exact (qa hr).c 1 (by omega)
  ·rw [cell_of_row _ _ _ _ _ _ k1];exact (qa hr).c 2 (by omega)
  ·rw [cell_of_row _ _ _ _ _ _ k1];exact (qa hr).c 3 (by omega)
 rw [hX3] at hF4;show Code.wp _ _ _ _ ((w3.alloc (.cells Z12 151)).setRow B3 M);generalize (w3.alloc (.cells Z12 151)).setRow B3 M=w4 at hF4 ⊢
 have hon:Hid ((fldA M wh (sideB (layS z 64) wh) (sideB (layS z 64) (!wh)) 0#64 fc).all (·.oneCell')=true):=hide (by
  unfold fldA;rw [Array.all_append,hM.ones];simp [Value.oneCell'])
 have hsd:=hide (fun W=>jg (layS z 64) M hM wh W);have hsd2:=hide (fun W=>jg (layS z 64) M hM (!wh) W);have hfin:Hid (∀ x:BitVec 64,Fld (layS z 64) wh (sideB (layS z 64) wh) (sideB (layS z 64) (!wh)) x fc (fldA M wh (sideB (layS z 64) wh) (sideB (layS z 64) (!wh)) x fc)):=hide (fun x=>fld_is hM wh _ _ x fc);clear hM hmid hi64 hlay bs bA x1 x2 hg2 hs2 hg3 hX3;generalize hOW:sideB (layS z 64) wh=OW at hsd hfin hon;generalize hOT:sideB (layS z 64) (!wh)=OT at hsd2 hfin hon;have hOW':=hide hOW;have hOT':=hide hOT;clear hOW hOT;go_cut [5] from 12 to 26 (fun s5 wx=>∃ B5,s5=.pointer (some ⟨B5,0,none⟩)/\wx.heap[B5]?=some (.cells (fldA M wh OW OT 0#64 fc) 259)/\w.heap.size+1<B5/\Fo7 z wh fc w PA B3 M wx)
 case first =>
  refine wp_region_held_drew (S:=Fo7 z wh fc w PA B3 M) (by kernel_rfl) hF4.drew (fun hHeld=>?_);refine C.ty 0 (.agg M) rfl (y_men (qa hMs) (by rfl) _ rfl B3 rfl (fun _ h=>h.me)) hHeld ?_;refine C.ty 1 (.pointer (some ⟨w.heap.size,64,none⟩)) rfl (Or.inl ⟨by rfl,fun w hw=>(by have c64:=hw.wh;have c65:=hw.c0;have c66:=hw.c1;have c67:=hw.c2;have c68:=hw.c3;go_simp)⟩) hHeld ?_;refine C.ty 2 (.bool wh) rfl (Or.inl ⟨by rfl,fun w hw=>(by have c64:=hw.wh;have c65:=hw.c0;have c66:=hw.c1;have c67:=hw.c2;have c68:=hw.c3;go_simp)⟩) hHeld ?_;refine C.ty 3 (.agg M) rfl (y_men (qa hMs) (by rfl) _ rfl B3 rfl (fun _ h=>h.me)) hHeld ?_;refine C.ty 4 (.pointer (some ⟨w.heap.size,64,none⟩)) rfl (Or.inl ⟨by rfl,fun w hw=>(by have c64:=hw.wh;have c65:=hw.c0;have c66:=hw.c1;have c67:=hw.c2;have c68:=hw.c3;go_simp)⟩) hHeld ?_;refine C.ty 5 (.bool wh) rfl (Or.inl ⟨by rfl,fun w hw=>(by have c64:=hw.wh;have c65:=hw.c0;have c66:=hw.c1;have c67:=hw.c2;have c68:=hw.c3;go_simp)⟩) hHeld ?_;refine C.ty 7 (.agg M) rfl (y_men (qa hMs) (by rfl) _ rfl B3 rfl (fun _ h=>h.me)) hHeld ?_;refine C.ty 8 (.pointer (some ⟨w.heap.size,64,none⟩)) rfl (Or.inl ⟨by rfl,fun w hw=>(by have c64:=hw.wh;have c65:=hw.c0;have c66:=hw.c1;have c67:=hw.c2;have c68:=hw.c3;go_simp)⟩) hHeld ?_;refine C.ty 9 (.bool wh) rfl (Or.inl ⟨by rfl,fun w hw=>(by have c64:=hw.wh;have c65:=hw.c0;have c66:=hw.c1;have c67:=hw.c2;have c68:=hw.c3;go_simp)⟩) hHeld ?_;refine C.ty 10 (.bool (!wh)) rfl (Or.inl ⟨by rfl,fun w hw=>(by have c64:=hw.wh;have c65:=hw.c0;have c66:=hw.c1;have c67:=hw.c2;have c68:=hw.c3;go_simp)⟩) hHeld ?_;refine C.ty 12 (.pointer (some ⟨w.heap.size,65,none⟩)) rfl (Or.inl ⟨by rfl,fun w hw=>(by have c64:=hw.wh;have c65:=hw.c0;have c66:=hw.c1;have c67:=hw.c2;have c68:=hw.c3;go_simp)⟩) hHeld ?_;refine C.ty 13 (.agg #[.bool (fc 0),.bool (fc 1),.bool (fc 2),.bool (fc 3)]) rfl (Or.inl ⟨by rfl,fun w hw=>(by have c64:=hw.wh;have c65:=hw.c0;have c66:=hw.c1;have c67:=hw.c2;have c68:=hw.c3;go_simp)⟩) hHeld ?_;refine wpAnyH_ready (rs:=[6,15]) (by kernel_rfl) (by simp) ?_;refine AllReadyH.cons rfl (fun K hK=>?_) (AllReadyH.cons rfl (fun K hK=>?_) AllReadyH.nil)
  ·go_simp;refine (qa hsd _).mono ?_;rintro e wa ⟨rfl,hga⟩;refine hK.out _ _ (hHeld.next hga) (fun hHeld=>?_);clear hK K hga;refine wpAnyH_ready (rs:=[11,15]) (by kernel_rfl) (by simp) ?_;refine AllReadyH.cons rfl (fun K hK=>?_) (AllReadyH.cons rfl (fun K hK=>?_) AllReadyH.nil)
   ·go_simp;refine (qa hsd2 _).mono ?_;rintro e wa ⟨rfl,hga⟩;refine hK.out _ _ (hHeld.next hga) (fun hHeld=>?_);clear hK K hga;refine C.ty 14 (.agg (fldA M wh OW OT 0#64 fc)) rfl (zm (by rfl) 259 #[(0,.tmp 12),(1,.tmp 14),(2,.tmp 18),(3,.tmp 23),(5,.tmp 25)] rfl _ (by simp only [List.map_toArray,List.map_cons,List.map_nil];exact qj1 M (qa hMs) wh OW OT fc)) hHeld ?_;refine C.rd 15 fun K hK=>?_
    go_simp;have hOld:=hHeld;refine hK.out _ _ (hHeld.alloc _ _) (fun hHeld=>?_);have h5:=fo_new hOld;clear hK K hOld;refine C.rd 16 fun K hK=>?_
    rw [if_pos (by rfl)];refine wp_store_row 259 _ _ rfl _ (fldA M wh OW OT 0#64 fc) rfl rfl 259 ZF h5.1 (by rw [xl (qa hMs)];exact info20) (by rw [xl (qa hMs)];rfl) (qa hon) ?_;refine hK.out _ _ (hHeld.put h5.2.1 h5.2.2 _) (fun hHeld=>?_);clear hK K;simp only [C.py];refine wpAnyH_done (by kernel_rfl) ?_ _;go_wp2_with fail;go_meet
    case rel=>exact ⟨_,rfl,setRow_heap _ _ _ _ _ _ h5.1,h5.2.1,hHeld⟩
   ·go_simp;have hOld:=hHeld;refine hK.out _ _ (hHeld.alloc _ _) (fun hHeld=>?_);have h5:=fo_new hOld;clear hK K hOld;refine C.rd 11 fun K hK=>?_
    go_simp;refine (qa hsd2 _).mono ?_;rintro e wa ⟨rfl,hga⟩;refine hK.out _ _ (hHeld.next hga) (fun hHeld=>?_);replace h5:=And.intro ((Below.block hga _ (Array.getElem?_eq_some_iff.1 h5.1).1).trans h5.1) h5.2;clear hK K hga;refine C.ty 14 (.agg (fldA M wh OW OT 0#64 fc)) rfl (zm (by rfl) 259 #[(0,.tmp 12),(1,.tmp 14),(2,.tmp 18),(3,.tmp 23),(5,.tmp 25)] rfl _ (by simp only [List.map_toArray,List.map_cons,List.map_nil];exact qj1 M (qa hMs) wh OW OT fc)) hHeld ?_;refine C.rd 16 fun K hK=>?_
    rw [if_pos (by rfl)];refine wp_store_row 259 _ _ rfl _ (fldA M wh OW OT 0#64 fc) rfl rfl 259 ZF h5.1 (by rw [xl (qa hMs)];exact info20) (by rw [xl (qa hMs)];rfl) (qa hon) ?_;refine hK.out _ _ (hHeld.put h5.2.1 h5.2.2 _) (fun hHeld=>?_);clear hK K;simp only [C.py];refine wpAnyH_done (by kernel_rfl) ?_ _;go_wp2_with fail;go_meet
    case rel=>exact ⟨_,rfl,setRow_heap _ _ _ _ _ _ h5.1,h5.2.1,hHeld⟩
  ·go_simp;have hOld:=hHeld;refine hK.out _ _ (hHeld.alloc _ _) (fun hHeld=>?_);have h5:=fo_new hOld;clear hK K hOld;refine C.rd 6 fun K hK=>?_
   go_simp;refine (qa hsd _).mono ?_;rintro e wa ⟨rfl,hga⟩;refine hK.out _ _ (hHeld.next hga) (fun hHeld=>?_);replace h5:=And.intro ((Below.block hga _ (Array.getElem?_eq_some_iff.1 h5.1).1).trans h5.1) h5.2;clear hK K hga;refine C.rd 11 fun K hK=>?_
   go_simp;refine (qa hsd2 _).mono ?_;rintro e wa ⟨rfl,hga⟩;refine hK.out _ _ (hHeld.next hga) (fun hHeld=>?_);replace h5:=And.intro ((Below.block hga _ (Array.getElem?_eq_some_iff.1 h5.1).1).trans h5.1) h5.2;clear hK K hga;refine C.ty 14 (.agg (fldA M wh OW OT 0#64 fc)) rfl (zm (by rfl) 259 #[(0,.tmp 12),(1,.tmp 14),(2,.tmp 18),(3,.tmp 23),(5,.tmp 25)] rfl _ (by simp only [List.map_toArray,List.map_cons,List.map_nil];exact qj1 M (qa hMs) wh OW OT fc)) hHeld ?_;refine C.rd 16 fun K hK=>?_
   rw [if_pos (by rfl)];refine wp_store_row 259 _ _ rfl _ (fldA M wh OW OT 0#64 fc) rfl rfl 259 ZF h5.1 (by rw [xl (qa hMs)];exact info20) (by rw [xl (qa hMs)];rfl) (qa hon) ?_;refine hK.out _ _ (hHeld.put h5.2.1 h5.2.2 _) (fun hHeld=>?_);clear hK K;simp only [C.py];refine wpAnyH_done (by kernel_rfl) ?_ _;go_wp2_with fail;go_meet
   case rel=>exact ⟨_,rfl,setRow_heap _ _ _ _ _ _ h5.1,h5.2.1,hHeld⟩
 case rest =>
  obtain ⟨B5,rfl,h5,hB5,hF⟩:=hcut;have hFb:Hid (Fo7 z wh fc w PA B3 M wc):=hide hF;have cb:wc.cell? ⟨w.heap.size,69,none⟩=some (.int .i64 b):=by rw [cell_of_row _ _ _ _ _ _ hF.pa];exact (qa hr).b
  have hres:=hF.res;have hgw:=hF.gr;clear hF hsd hsd2 hF4;by_cases hb:0<=b
  ·obtain ⟨n,rfl⟩:∃ n:Nat,b=(n:Int):=⟨b.toNat,by omega⟩;have hn:n<64:=by omega
   have hone:=hide (fun W=>zp (n:Int) (by omega) (by omega) W);rw [qzb n hn] at hone;have hbe:Hid (behB (n:Int)=1#64 <<< n):=hide (by unfold behB;rw [if_pos hb];simp);have c5:wc.cell? ⟨B5,15,none⟩=some (.int .u64 (U 0#64)):=by rw [cell_of_row _ _ _ _ _ _ h5,fldA,Array.getElem?_append_right (by rw [qa hMs];omega),qa hMs];rfl
   have f5:wc.frozen? ⟨B5,15,none⟩=false:=by simp [World.frozen?,h5]
   have h52:(wc.setCell ⟨B5,15,none⟩ (.int .u64 (U (1#64 <<< n)))).heap[B5]?=some (.cells (fldA M wh OW OT (1#64 <<< n) fc) 259):=by
    rw [qx h5,fldA_beh (qa hMs)]
   have hres2:(wc.setCell ⟨B5,15,none⟩ (.int .u64 (U (1#64 <<< n)))).heap[w.heap.size+1]?=some (.cells ZF 259):=by rw [Below.heap_setCell _ _ _ _ (show w.heap.size+1≠B5 by omega)];exact hres
   have hgw2:Gr w (wc.setCell ⟨B5,15,none⟩ (.int .u64 (U (1#64 <<< n)))):=Below.setCell hgw (show w.heap.size<=B5 by omega) _
   have ho2:Hid ((fldA M wh OW OT (1#64 <<< n) fc).all (·.oneCell')=true):=hide (by
    have:=qa hon;unfold fldA at this ⊢;rw [Array.all_append] at this ⊢;simp [Value.oneCell'] at this ⊢;exact this)
   go_upto_region 5 with (go_at_call 139;refine (qa hone _).mono ?_;rintro e wo ⟨rfl,hww⟩;have hww':=hww.symm;subst hww';clear hww);generalize (wc.setCell ⟨B5,15,none⟩ (.int .u64 (U (1#64 <<< n))))=wz at h52 hres2 hgw2 ⊢;have hi2:(Tryz.prog.info? 259).map (·.size)=some (fldA M wh OW OT (1#64 <<< n) fc).size:=by rw [xl (qa hMs)];exact info20
   have hz2:ZF.size=(fldA M wh OW OT (1#64 <<< n) fc).size:=by rw [xl (qa hMs)];rfl
   have hFl:=hide (qa hfin (1#64 <<< n));generalize fldA M wh OW OT (1#64 <<< n) fc=F2 at h52 hi2 hz2 ho2 hFl;go_wp2_with (first|(refine wpList_load_row rfl 259 _ rfl B5 rfl 259 F2 (0,0) _ h52 Tryz.underlying259 rfl hi2 ?_)|(refine wpList_store_row rfl 259 _ _ rfl (w.heap.size+1) F2 rfl rfl 259 ZF hres2 hi2 hz2 (qa ho2) ?_));exact bodyPost_ret (v:=.agg F2) (results_cell_row Tryz.results172 _ _ (w.heap.size+1) 259 F2 (0,0) _ rfl (setRow_heap _ _ _ _ _ _ hres2) Tryz.underlying259 rfl hi2) rfl ⟨F2,rfl,(by rw [qa hbe,qa hOW',qa hOT'];exact qa hFl),hgw2.setRow _ (by omega) _⟩
  ·have hbm:b=-1:=by omega
   have hbe:Hid (behB b=0#64):=hide (by unfold behB;rw [if_neg hb]);have hi2:(Tryz.prog.info? 259).map (·.size)=some (fldA M wh OW OT 0#64 fc).size:=by rw [xl (qa hMs)];exact info20
   have hz2:ZF.size=(fldA M wh OW OT 0#64 fc).size:=by rw [xl (qa hMs)];rfl
   have hFl:=hide (qa hfin 0#64);have hb2:decide (0<=b)=false:=by simp;omega
   clear hbm hb hfin;generalize fldA M wh OW OT 0#64 fc=F2 at h5 hi2 hz2 hon hFl;go_wp2_with (first|(refine wpList_load_row rfl 259 _ rfl B5 rfl 259 F2 (0,0) _ h5 Tryz.underlying259 rfl hi2 ?_)|(refine wpList_store_row rfl 259 _ _ rfl (w.heap.size+1) F2 rfl rfl 259 ZF hres hi2 hz2 (qa hon) ?_));exact bodyPost_ret (v:=.agg F2) (results_cell_row Tryz.results172 _ _ (w.heap.size+1) 259 F2 (0,0) _ rfl (setRow_heap _ _ _ _ _ _ hres) Tryz.underlying259 rfl hi2) rfl ⟨F2,rfl,(by rw [qa hbe,qa hOW',qa hOT'];exact qa hFl),hgw.setRow _ (by omega) _⟩
end Go.Proofs.YtnfakamfmkhlbaaGreatDoor.C
namespace Go.Proofs.YtnfakamfmkhlbaaGreatDoor.C
open Go.ChangeShapes Go.WideShapes Go.ChangeAt Go.RowKit Go.Shelf
open Go.Proofs.YtnfakamfmkhlbaaGreatDoor.P
attribute [local go_sem] qd qi Oper.semAt_some
def kndN (wh:Bool) (k:Nat):Nat:=if k=0 then (if wh then 1 else 2) else k+2
theorem knd_I (wh:Bool) (k:Nat):kindI (!wh) k=((kndN wh k:Nat):Int):=by
 unfold kindI kndN;cases wh<;>split<;>simp_all
def toS (m:Nat->BitVec 64) (wh:Bool) (beh:BitVec 64) (k f t:Nat):List Mv:=if legalB m wh beh k f t then turnsB (decide (k=0)) f t else []
def fromS (m:Nat->BitVec 64) (wh:Bool) (own oth beh:BitVec 64) (fc:Nat->Bool) (k f:Nat):List Mv:=(sqs (targB m wh own oth beh fc k (kndN wh k) f)).flatMap (toS m wh beh k f)
def placeS (m:Nat->BitVec 64) (wh:Bool) (own oth beh:BitVec 64) (fc:Nat->Bool) (k:Nat):List Mv:=(sqs (m (bg wh+k))).flatMap (fromS m wh own oth beh fc k)
def uptoS (m:Nat->BitVec 64) (wh:Bool) (own oth beh:BitVec 64) (fc:Nat->Bool) (k:Nat):List Mv:=(List.range k).flatMap (placeS m wh own oth beh fc)
theorem flat_pre {α β:Type} {pre xs:List α} (f:α->List β) (h:pre <+: xs):pre.flatMap f <+: xs.flatMap f:=by
 obtain ⟨r,rfl⟩:=h;rw [List.flatMap_append];exact List.prefix_append _ _
theorem qxc {α β:Type} {pre xs:List α} {x:α} (f:α->List β) (h:pre++[x] <+: xs):pre.flatMap f++f x <+: xs.flatMap f:=by
 have:=flat_pre f h;simpa using this
theorem upto_pre (m:Nat->BitVec 64) (wh:Bool) (own oth beh:BitVec 64) (fc:Nat->Bool) {k:Nat} (hk:k<6):uptoS m wh own oth beh fc k++placeS m wh own oth beh fc k <+: uptoS m wh own oth beh fc 6:=by
 have:List.range k++[k] <+: List.range 6:=by
  refine ⟨(List.range 6).drop (k+1),?_⟩;have:k=0\/k=1\/k=2\/k=3\/k=4\/k=5:=by omega
  rcases this with rfl|rfl|rfl|rfl|rfl|rfl<;>decide
 exact qxc (placeS m wh own oth beh fc) this
def markD (D:Nat):Deferred:={ target:=.collected D,args:=#[] }
def Marks (B:Nat) (Ds:List Nat) (w:World):Prop:=Ds.Nodup/\∀ D∈Ds,B<=D/\w.heap[D]?=some (.deferred (some []))
theorem Marks.fr {B:Nat} {Ds:List Nat} {w w':World} {Q:Nat->Obj->Prop} (h:Marks B Ds w) (f:Fr Q w w') (hq:∀ k o,B<=k->o.isCells=false->w.heap[k]?=some o->k∈Ds->Q k o):Marks B Ds w' :=
 ⟨h.1,fun D hD=>⟨(h.2 D hD).1,f.same _ _ (h.2 D hD).2 (hq _ _ (h.2 D hD).1 rfl (h.2 D hD).2 hD)⟩⟩
theorem xe {n:Nat} {fn:Func} (hfn:fn.results=#[]) {tmps:Array Value} {R:Ending->World->Prop} {T:Obj->Prop} (hT:∀ o,T o->o.isCells=true) {B:Nat}:∀ (Ds:List Nat) (w:World),Marks B Ds w →
  (∀ v w',Fr (Own1 B T) w w'->R (.returned v) w')->LeavesInM Fence.wide n Tryz.prog fn tmps R (Ds.map markD) .returning w:=by
 intro Ds;induction Ds with
 | nil =>
  intro w _ hR;exact ⟨_,results_none hfn _ _ _,hR _ _ (Fr.refl _ _)⟩
 | cons D Ds ih =>
  intro w hM hR;obtain ⟨hB,hD⟩:=hM.2 D (by simp)
  have f:Fr (Own1 B T) w (w.putObj D (.deferred none)):=(Fr.refl _ _).putObj _ (fun o e q=>by
   rw [hD] at e;cases e;rcases q with q|q
   ·omega
   ·have:=hT _ q;cases this)
  refine ⟨by simp,.inl ⟨D,_,rfl,run_takeDeferred hD,ih _ ⟨(List.nodup_cons.1 hM.1).2,fun D' hD'=>⟨(hM.2 D' (List.mem_cons_of_mem _ hD')).1,?_⟩⟩ (fun v w' f'=>hR v w' (f.trans f'))⟩⟩;have hne:D'≠D:=fun e=>(List.nodup_cons.1 hM.1).1 (e▸hD')
  exact (World.putObj_heap_other hne).trans (hM.2 D' (List.mem_cons_of_mem _ hD')).2
theorem jd {F:Fence} {n:Nat} {ops:Array Oper} {rest:List Oper} {o:Oper} {a:Act} {w:World} {FA:Array Value} {Q:Exit->Act->World->Prop} (hg:o.guard=none) (x:Operand) (ho:o.op=.load 259 x) (b:Nat) (hx:a.eval x=.pointer (some ⟨b,0,none⟩)) (hz:FA.size=20) (hh:FAt b FA w)
  (h:wpListIn F n Tryz.prog ops Q rest (a.put o.dst (.agg FA)) w):wpListIn F n Tryz.prog ops Q (o :: rest) a w :=
 wpListIn_plain hg fun K hK=>by
  refine ⟨fun f hf=>?_,?_⟩
  ·simp [Oper.about,ho] at hf
  ·rw [Oper.semAt_eq _ _ _ (by rw [ho];intro c e;cases e)]
   have hr:(execOp a.eval o).run Tryz.prog w=.ok (.value (.agg FA)) w:=by
    have:=run_loadVar_mid (P:=Tryz.prog) w b 0 259 FA.toList _ hh.2 Tryz.underlying259 rfl (by rw [info20];simp [hz]);rw [Array.toArray_toList] at this;unfold execOp;simp only [ho,hx,Instr.loadAt,Instr.sureAddr,Sem.run_bind,Sem.run_pure,Result.andThen_ok,this]
   rw [hr,Oper.uponIn_value];exact hK _ _ h
theorem Fld.ones {m:Nat->BitVec 64} {wh:Bool} {own oth beh:BitVec 64} {fc:Nat->Bool} {FA:Array Value} (r:Fld m wh own oth beh fc FA):FA.all (·.oneCell')=true:=by
 rw [Array.all_eq_true];intro i hi;have hz:=r.size;by_cases h12:i<12
 ·have:=r.men i h12;rw [Array.getElem?_eq_getElem hi] at this;rw [Option.some.inj this];rfl
 ·have hcase:i=12\/i=13\/i=14\/i=15\/i=16+0\/i=16+1\/i=16+2\/i=16+3:=by omega
  rcases hcase with rfl|rfl|rfl|rfl|rfl|rfl|rfl|rfl
  ·have:=r.wh;rw [Array.getElem?_eq_getElem hi] at this;rw [Option.some.inj this];rfl
  ·have:=r.own;rw [Array.getElem?_eq_getElem hi] at this;rw [Option.some.inj this];rfl
  ·have:=r.oth;rw [Array.getElem?_eq_getElem hi] at this;rw [Option.some.inj this];rfl
  ·have:=r.beh;rw [Array.getElem?_eq_getElem hi] at this;rw [Option.some.inj this];rfl
  ·have:=r.c 0 (by omega);rw [Array.getElem?_eq_getElem hi] at this;rw [Option.some.inj this];rfl
  ·have:=r.c 1 (by omega);rw [Array.getElem?_eq_getElem hi] at this;rw [Option.some.inj this];rfl
  ·have:=r.c 2 (by omega);rw [Array.getElem?_eq_getElem hi] at this;rw [Option.some.inj this];rfl
  ·have:=r.c 3 (by omega);rw [Array.getElem?_eq_getElem hi] at this;rw [Option.some.inj this];rfl
structure Mk (l B Wb Bf:Nat) (FA:Array Value) (Ds:List Nat) (W:World):Prop where
 yb:W.heap[Wb]?=some (.cells #[.func (.yield l) #[] #[]] 252)
 fb:W.heap[Bf]?=some (.cells FA 259)
 ms:Marks B Ds W
 tb:TabIn W
 ct:CasTab W
theorem TabIn.fr {Q:Nat->Obj->Prop} {w w':World} (h:TabIn w) (f:Fr Q w w') (hq:∀ o,Q 2 o):TabIn w':=⟨h.1.fr f hq,Nat.lt_of_lt_of_le h.2 f.size⟩
theorem CasTab.fr {Q:Nat->Obj->Prop} {w w':World} (h:CasTab w) (f:Fr Q w w') (hq:∀ o,Q 3 o):CasTab w' :=
 ⟨fun j v hv=>f.cell (h.1 j v hv) (fun o _=>hq o),Nat.lt_of_lt_of_le h.2 f.size⟩
theorem Mk.fr {l B Wb Bf:Nat} {FA:Array Value} {Ds:List Nat} {W W':World} {Q:Nat->Obj->Prop} (h:Mk l B Wb Bf FA Ds W) (f:Fr Q W W') (hq:∀ k o,(k=Wb\/k=Bf\/k∈Ds\/k=2\/k=3)->Q k o):Mk l B Wb Bf FA Ds W' :=
 ⟨f.same _ _ h.yb (hq _ _ (.inl rfl)),f.same _ _ h.fb (hq _ _ (.inr (.inl rfl))),h.ms.fr f (fun k o _ _ _ hk=>hq k o (.inr (.inr (.inl hk)))),h.tb.fr f (fun o=>hq _ o (.inr (.inr (.inr (.inl rfl))))),h.ct.fr f (fun o=>hq _ o (.inr (.inr (.inr (.inr rfl)))))⟩
theorem Fr.ext {Q R:Nat->Obj->Prop} {a b c:World} (h:Fr Q a b) (f:Fr R b c) (i:∀ k o,a.heap[k]?=some o->Q k o->R k o):Fr Q a c :=
 ⟨f.os.trans h.os,f.tape.trans h.tape,f.output.trans h.output,Nat.le_trans h.size f.size,fun k o e q=>f.same k o (h.same k o e q) (i k o e q)⟩
theorem take_four (f t k:Nat) (hk:k<4):(List.range (k+1)).map (fun i=>((f,t,tnU i):Mv)) <+: [(f,t,113),(f,t,114),(f,t,98),(f,t,110)]:=by
 have:k=0\/k=1\/k=2\/k=3:=by omega
 rcases this with rfl|rfl|rfl|rfl
 ·exact ⟨[(f,t,114),(f,t,98),(f,t,110)],rfl⟩
 ·exact ⟨[(f,t,98),(f,t,110)],rfl⟩
 ·exact ⟨[(f,t,110)],rfl⟩
 ·exact ⟨[],rfl⟩
theorem ytS_any (place f t:Nat) (hp:place<6) (ht:t<64) (l B:Nat) (T:Obj->Prop) (C:Nat->Prop) (hTu:∀ c fr,¬ T (.cells c 5 fr)) (J Jx:List Mv->World->Prop) (hJ:Stable B T J) (xs dn:List Mv) (hpre:dn++turnsB (decide (place=0)) f t <+: xs)
  (hY:∀ pre x W1,pre++[x] <+: xs->J pre W1->YieldAt Fence.wide 0 Tryz.prog l (encM x) W1 fun e W'=>Fr (Rnd1 B T C) W1 W'/\((e=.returned (.bool true)/\J (pre++[x]) W')\/(e=.returned (.bool false)/\Jx (pre++[x]) W')))
  (W:World) (hB:B<=W.heap.size) (h0:J dn W) :
  Calls Tryz.prog 177 #[.int .i64 (place:Int),.int .i64 (f:Int),.int .i64 (t:Int),.func (.yield l) #[] #[]] W fun e W'=>Fr (Rnd1 B T C) W W'/\((e=.returned (.bool true)/\J (dn++turnsB (decide (place=0)) f t) W')\/(e=.returned (.bool false)/\∃ q,q <+: xs/\Jx q W')):=by
 by_cases hn:(decide (place=0)&&lastB.getLsbD t)=true
 ·have hn2:=hn;rw [Bool.and_eq_true] at hn2;have h00:place=0:=of_decide_eq_true hn2.1;have hlt:lastB.getLsbD t=true:=hn2.2;clear hn2;subst h00;have e4:turnsB (decide (0=0)) f t=(List.range 4).map fun i=>((f,t,tnU i):Mv):=by unfold turnsB;rw [hn,if_pos rfl];rfl
  rw [e4] at hpre ⊢;have hp4:∀ k,k<4->dn++(List.range (k+1)).map (fun i=>((f,t,tnU i):Mv)) <+: xs:=fun k hk=>(List.prefix_append_right_inj dn).2 (take_four f t k hk) |>.trans hpre
  refine (ytS_four f t ht hlt l B T C hTu J Jx hJ dn W hB (fun k W1 hk hj=>?_) h0).mono ?_
  ·have:=hY (dn++(List.range k).map fun i=>(f,t,tnU i)) (f,t,tnU k) W1 (by
    have:=hp4 k hk
    rwa [List.range_succ,List.map_append,<-List.append_assoc] at this) hj
   rw [List.range_succ,List.map_append,<-List.append_assoc];exact this
  ·rintro e W' ⟨f1,⟨h1,h2⟩|⟨h1,k,hk,h2⟩⟩
   ·exact ⟨f1,.inl ⟨h1,h2⟩⟩
   ·exact ⟨f1,.inr ⟨h1,_,hp4 k hk,h2⟩⟩
 ·have hn':(decide (place=0)&&lastB.getLsbD t)=false:=by simpa using hn
  have e1:turnsB (decide (place=0)) f t=[(f,t,0)]:=by unfold turnsB;rw [hn'];rfl
  rw [e1] at hpre ⊢;refine (ytS_one place f t hp ht hn' l B T C J Jx dn W (hY dn _ W hpre h0)).mono ?_;rintro e W' ⟨f1,⟨h1,h2⟩|⟨h1,h2⟩⟩
  ·exact ⟨f1,.inl ⟨h1,h2⟩⟩
  ·exact ⟨f1,.inr ⟨h1,_,hpre,h2⟩⟩
theorem knd_bd (wh:Bool) (k:Nat) (h:k<6):1<=kndN wh k/\kndN wh k<=7:=by
 unfold kndN;cases wh<;>split<;>simp<;>omega
end Go.Proofs.YtnfakamfmkhlbaaGreatDoor.C
