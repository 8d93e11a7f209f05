import Derived.Test.YtnfakamfmkhlbabGreatDoorKb27
import Derived.Test.YtnfakamfmkhlbabGreatDoorKb26
import Derived.Test.YtnfakamfmkhlbabGreatDoorKb24
import Derived.Test.YtnfakamfmkhlbabGreatDoorKz2
import Derived.Test.YtnfakamfmkhlbabGreatDoorKz3
set_option maxRecDepth 100000
set_option maxHeartbeats 4000000
set_option linter.unusedSimpArgs false
namespace Go.Proofs.YtnfakamfmkhlbabGreatDoor.C
open Go.ChangeShapes Go.WideShapes Go.ChangeAt Go.RowKit Go.Shelf
open Go.Proofs.YtnfakamfmkhlbabGreatDoor.P
attribute [local go_sem] setCell_drewN alloc_drewN Oper.semAt_some
theorem owns_fx {g base s n:Nat} {e:TypeId} {v:Value} {xs:List Value} {W W':World} (h:W.ownsRow base e s v n xs) (f:Fx g W W') (hb:g<base):W'.ownsRow base e s v n xs:=by
 refine ⟨h.1,?_⟩;rcases h.2 with h2|⟨g',cap,cur,hv,hb',hg',rest⟩
 ·exact .inl h2
 ·exact .inr ⟨g',cap,cur,hv,hb',f.at hg' (by omega),rest⟩
structure Dl (g n:Nat) (I:World->Prop) (ga gm:Nat) (wn:Int) (PA:Array Value) (b1 b2:Nat) (base:Nat) (v:Value) (l:List Ct2) (w W:World):Prop where
 c:W.heap[b1]?=some (.cells (ctrA ga gm wn g n) 78)
 p:W.heap[b2]?=some (.cells PA 70)
 wt:Wt W
 i:I W
 fx:Fx g w W
 own:Cts base v l W
theorem Dl.next {g n:Nat} {I:World->Prop} {ga gm:Nat} {wn:Int} {PA:Array Value} {b1 b2 base:Nat} {v:Value} {l:List Ct2} {w W W':World} (h:Dl g n I ga gm wn PA b1 b2 base v l w W) (a:Away g) (f:Fx g W W') (h1:b1≠g) (h2:b2≠g) (hb:g<base) (hi:I W'):Dl g n I ga gm wn PA b1 b2 base v l w W' :=
 ⟨f.at h.c h1,f.at h.p h2,h.wt.fx a f,hi,Fx.trans h.fx f,owns_fx h.own f hb⟩
structure Dq (ga gm:Nat) (wn:Int) (g n:Nat) (PA:Array Value) (b1 b2 b3 f t:Nat) (u:UInt8) (W:World):Prop where
 c:W.heap[b1]?=some (.cells (ctrA ga gm wn g n) 78)
 p:W.heap[b2]?=some (.cells PA 70)
 m:W.heap[b3]?=some (.cells #[.int .i64 (f:Int),.int .i64 (t:Int),.int .u8 (u.toNat:Int)] 87)
theorem Dq.next {ga gm:Nat} {wn:Int} {g n:Nat} {PA:Array Value} {b1 b2 b3 f t:Nat} {u:UInt8} {W W':World} (h:Dq ga gm wn g n PA b1 b2 b3 f t u W) (x:Fx g W W') (h1:b1≠g) (h2:b2≠g) (h3:b3≠g):Dq ga gm wn g n PA b1 b2 b3 f t u W':=⟨x.at h.c h1,x.at h.p h2,x.at h.m h3⟩
theorem Dq.grown {ga gm:Nat} {wn:Int} {g n:Nat} {PA:Array Value} {b1 b2 b3 f t:Nat} {u:UInt8} {W W':World} {base:Nat} {v:Value} {l:List Ct2} (h:Dq ga gm wn g n PA b1 b2 b3 f t u W) (own:Cts base v l W) (k:W.grownBy W' v.ownBlock):Dq ga gm wn g n PA b1 b2 b3 f t u W':=by
 have no:∀ q c ty,W.heap[q]?=some (.cells c ty)->ty≠37->some q≠v.ownBlock:=fun q c ty e hn e'=>by
  rcases own.2 with ⟨rfl,_⟩|⟨g',cap,cur,rfl,_,hg',_⟩
  ·simp [Value.ownBlock] at e'
  ·obtain rfl:q=g':=by simpa [Value.ownBlock] using e'
   rw [e] at hg';injection hg' with hg';injection hg' with _ hg' _;exact hn hg'
 exact ⟨(k.block _ (heap_lt h.c) (no _ _ _ h.c (by decide))).trans h.c,(k.block _ (heap_lt h.p) (no _ _ _ h.p (by decide))).trans h.p,(k.block _ (heap_lt h.m) (no _ _ _ h.m (by decide))).trans h.m⟩
theorem ctr_cells {b1 ga gm g n:Nat} {wn:Int} {W:World} (h:W.heap[b1]?=some (.cells (ctrA ga gm wn g n) 78)):W.cell? ⟨b1,0,none⟩=some (.func (.func ga) #[] #[])/\W.cell? ⟨b1,1,none⟩=some (.func (.func gm) #[] #[])/\W.cell? ⟨b1,2,none⟩=some (.int .i64 wn)/\W.cell? ⟨b1,3,none⟩=some (svN g n):=by
 refine ⟨?_,?_,?_,?_⟩<;>(rw [cells_at h];rfl)
theorem divideC_any {g n:Nat} {I:World->Prop} {ga gm gi:Nat} {wn:Int} (mi:MemI g n I) (aw:Away g) (wy:WayN wn ga gm gi) (d:Nat) (hd:d+1<=3) {z:Nat->UInt8} {wh:Bool} {fc:Nat->Bool} {b h gg:Int} {PA:Array Value} (o:Ok z wh fc b h gg) (r:Row z wh fc b h gg PA) (w:World) (hi:I w) (hw:Wt w) :
  Calls Tryz.prog 26 #[.agg (ctrA ga gm wn g n),.agg PA,.int .i64 ((d+1:Nat):Int)] w fun e w'=>∃ v,e=.returned v/\Cts w.heap.size v (divL d z wh fc b (sortM (movS z wh fc b))) w'/\Fx g w w'/\I w':=by
 have hz:=r.size;obtain ⟨i0,hi0',hz0,hz1,hz2⟩:=info_parts infoCt;have hi':=hide hi0';clear hi0';obtain ⟨S0,fr0,hob⟩:=mi.ob w hi;have hgl:g<w.heap.size:=(Array.getElem?_eq_some_iff.1 hob).1;obtain ⟨x1,x2⟩:=heapTwo w (.cells (ctrA ga gm wn g n) 78) (.cells PA 70);have hg0:Gr w ((w.alloc (.cells (ctrA ga gm wn g n) 78)).alloc (.cells PA 70)):=((Gr.refl w).alloc _ _).alloc _ _;have hs0:((w.alloc (.cells (ctrA ga gm wn g n) 78)).alloc (.cells PA 70)).heap.size=w.heap.size+2:=by simp
 obtain ⟨ys,hys⟩:∃ l,Hid (l=sortM (movS z wh fc b)):=⟨_,hide rfl⟩;obtain ⟨val,hval⟩:∃ f,Hid (f=behN d z wh fc b):=⟨_,hide rfl⟩;obtain ⟨cf,hcf⟩:∃ cf:Mv->Ct2,Hid (cf=fun x=>(str (txt x),val x)):=⟨_,hide rfl⟩;have hdl:divL d z wh fc b (sortM (movS z wh fc b))=ys.map cf:=by rw [unhide hcf,unhide hval,unhide hys];rfl
 rw [hdl];clear hdl;go_enter Tryz.func26,Tryz.ntmps26;go_upto_region 2 with fail;show Code.wp _ _ _ _ ((w.alloc (.cells (ctrA ga gm wn g n) 78)).alloc (.cells PA 70));generalize ((w.alloc (.cells (ctrA ga gm wn g n) 78)).alloc (.cells PA 70))=w0 at x1 x2 hg0 hs0 ⊢;have hiw0:I w0:=mi.st _ _ hi (Fr.of_gr hg0);have hw0:=hw.gr hg0;obtain ⟨xs,hsrt,mk⟩:=wy.list r o w0 hw0;have hgm:Hid (Calls Tryz.prog 49 #[.agg (wayA ga gm),.agg PA] w0 fun e w'=>∃ v,e=.returned v/\w'.ownsRow w0.heap.size 87 3 v xs.length (rowM (sortM xs))/\Gr w0 w'):=hide (gameMoves_any hz mk);have hxl:xs.length=(sortM xs).length:=(sortM_len xs).symm;rw [hsrt,<-unhide hys] at hgm hxl;rw [hxl] at hgm;have hlen:ys.length<=1000000:=by rw [unhide hys,sortM_len];exact movS_len z wh fc b
 have hst:Hid (∀ W W',I W->Gr W W'->I W'):=hide fun W W' hi k=>mi.st W W' hi (Fr.of_gr k)
 have hsti:Hid (∀ W W',I W->Fr (fun k _=>k=g) W W'->I W'):=hide mi.st
 have hcalls:Hid (∀ f t u,(f,t,u)∈sortM (movS z wh fc b)->(∀ W:World,Calls Tryz.prog 38 #[.agg #[.int .i64 (f:Int),.int .i64 (t:Int),.int .u8 (u.toNat:Int)]] W fun e w'=>e=.returned (.string (str (txt (f,t,u))))/\Gr W w')/\(∀ W:World,Homes W->Calls Tryz.prog 50 #[.agg PA,.agg #[.int .i64 (f:Int),.int .i64 (t:Int),.int .u8 (u.toNat:Int)]] W fun e w'=>∃ Q,e=.returned (.agg Q)/\(∀ V:World,I V->Wt V->Calls Tryz.prog 25 #[.agg (ctrA ga gm wn g n),.agg Q,.int .i64 (d:Int)] V fun e w'=>e=.returned (.int .u64 ((behN d z wh fc b (f,t,u):Nat):Int))/\Fx g V w'/\I w')/\Gr W w')):=hide fun f t u hx=>by
  have hx':=(sortM_perm _).mem_iff.1 hx;obtain ⟨c0,c1,c2,c3⟩:=o.clk;obtain ⟨hf,ht,hu,k1,k2⟩:=o.mv hx';refine ⟨fun W=>moveP_any f t hf ht u W,fun W hH=>(afterP_any r f t u hf ht k1 k2 c0 c1 c2 c3 W hH).mono ?_⟩;rintro e w' ⟨Q,rfl,hq,hg⟩;exact ⟨Q,rfl,fun V hi hw=>paths_any mi aw wy d (by omega) (o.next hx') hq V hi hw,hg⟩
 rw [<-unhide hys,<-unhide hval] at hcalls;clear hob o r hsrt hxl mk mi wy hys hval;obtain ⟨d0,d1,d2,d3⟩:=ctr_cells x1
 go_upto_region 3 with (first
  | (refine wpList_load_row rfl 70 _ rfl (w.heap.size+1) rfl 70 PA (0,0) _ (by with_reducible exact x2) Tryz.underlying70 rfl (by rw [hz];exact infoP) ?_)
  | (go_at_call 49;refine (unhide hgm).mono ?_;rintro e w1 ⟨v,rfl,hv,hg1⟩;obtain ⟨pp,cap,rfl,hcap,hel⟩:=row_form hv))
 have hel':=hide hel;have hD1:Dl g n I ga gm wn PA w.heap.size (w.heap.size+1) w1.heap.size (.slice none 0 0) [] w1 w1:=⟨(Below.block hg1 _ (heap_lt x1)).trans x1,(Below.block hg1 _ (heap_lt x2)).trans x2,hw0.gr hg1,unhide hst _ _ hiw0 hg1,Fx.refl _ _,⟨rfl,.inl ⟨rfl,rfl⟩⟩⟩;have hwt1:=hide hD1.wt;have hgb:g<w1.heap.size:=by have:=Below.size hg1;omega
 have hgW:=Gr.trans hg0 hg1;have hb1:w.heap.size≠g:=by omega
 have hb2:w.heap.size+1≠g:=by omega
 have hsz1:=Below.size hgW
 have hblk:Hid (∀ k (hk:k<ys.length),∀ g',pp=some ⟨g',0,none⟩->g'≠g):=hide fun k hk g' e=>by
  rcases hv.2 with ⟨e',_⟩|⟨g2,cap2,cur2,e',hb',_⟩
  ·injection e' with e' _ _;rw [e] at e';cases e'
  ·injection e' with e' _ _;rw [e] at e';injection e' with e';injection e' with e' _ _;omega
 clear hgm hel hv hg1 x1 x2 d0 d1 d2 d3 hiw0 hw0 hg0 hs0 hi hw;go_loopg [7,9,15] ys.length (fun gk v _ i wr=>∃ k:Nat,k+gk=ys.length/\i=.int .i64 (k:Int)/\Dl g n I ga gm wn PA w.heap.size (w.heap.size+1) w1.heap.size v ((ys.take k).map cf) w1 wr)
 case atStart=>exact ⟨0,by omega,rfl,hD1⟩
 case round =>
  clear hD1;obtain ⟨k,k1,rfl,hD⟩:=hrel;by_cases hlt:k<ys.length
  ·obtain ⟨g',hpp,x0,x1,x2⟩:=unhide hel' k hlt hlt;have hg'g:=unhide hblk k hlt g' hpp;subst hpp;have x0:=Fr.cell hD.fx x0 (fun _ _=>hg'g);have x1:=Fr.cell hD.fx x1 (fun _ _=>hg'g);have x2:=Fr.cell hD.fx x2 (fun _ _=>hg'g);have hmem:ys[k]∈ys:=List.getElem_mem _;have htk:Hid (ys.take (k+1)=ys.take k++[ys[k]]):=hide (List.take_succ_eq_append_getElem hlt);generalize ys[k]=y at x0 x1 x2 hmem htk;obtain ⟨f,t,u⟩:=y;obtain ⟨htx,haf⟩:=unhide hcalls f t u hmem;have htx':=hide htx;have haf':=hide haf;have hcy:Hid (cf (f,t,u)=(str (txt (f,t,u)),val (f,t,u))):=hide (by rw [unhide hcf]);generalize str (txt (f,t,u))=S at htx' hcy;generalize val (f,t,u)=xv at haf' hcy;have hll:((ys.take k).map cf).length=k:=by rw [List.length_map,List.length_take];omega
   have hl2:Hid ((ys.take (k+1)).map cf=(ys.take k).map cf++[(S,xv)]):=hide (by rw [unhide htk,List.map_append,<-unhide hcy];rfl);obtain ⟨l0,hl0⟩:∃ l,Hid (l=(ys.take k).map cf):=⟨_,hide rfl⟩;rw [<-unhide hl0] at hD hll hl2;clear hl0 htk hcy;have hD':=hide hD;clear hD htx haf hmem hcalls;go_upto_region 5 with fail;have hm0:=World.alloc_heap_new wr (.cells #[.int .i64 (f:Int),.int .i64 (t:Int),.int .u8 (u.toNat:Int)] 87);have hga:Gr wr (wr.alloc (.cells #[.int .i64 (f:Int),.int .i64 (t:Int),.int .u8 (u.toNat:Int)] 87)):=(Gr.refl _).alloc _ _;have hwz:=Fx.size (unhide hD').fx;have hb3:wr.heap.size≠g:=by omega
   have hD0:=(unhide hD').next aw (Fx.of hga.drew) hb1 hb2 hgb (unhide hst _ _ (unhide hD').i hga.drew);have hS0:Dq ga gm wn g n PA w.heap.size (w.heap.size+1) wr.heap.size f t u (wr.alloc (.cells #[.int .i64 (f:Int),.int .i64 (t:Int),.int .u8 (u.toNat:Int)] 87)).drew:=⟨hD0.c,hD0.p,hm0⟩;have ed:IntKind.i64.wrap (((d+1:Nat):Int)-1)=(d:Int):=by rw [IntKind.wrap_i64];omega
   have edd:IntKind.i64.wrap (d:Int)=(d:Int):=by rw [IntKind.wrap_i64];omega
   clear hD' x0 x1 x2 hm0 hga;refine wp_region_held_drew (S:=Dq ga gm wn g n PA w.heap.size (w.heap.size+1) wr.heap.size f t u) (by kernel_rfl) hS0 (fun hHeld=>?_);clear hS0;refine C.tq 0 (u7) hHeld ?_
   refine wpAnyH_take (i:=1) (v:=.agg #[.int .i64 (f:Int),.int .i64 (t:Int),.int .u8 (u.toNat:Int)]) rfl (by kernel_rfl) (by kernel_rfl) (by kernel_rfl) (fun _ _ _ h=>h) (Or.inl ⟨by rfl,fun w' hw=>(by
    obtain ⟨e0,e1,e2⟩:=mv_cells hw.m;go_simp;try rfl)⟩) hHeld ?_
   simp only [C.py]
   refine wpAnyH_take (i:=3) (v:=.agg (ctrA ga gm wn g n)) rfl (by kernel_rfl) (by kernel_rfl) (by kernel_rfl) (fun _ _ _ h=>h) (Or.inl ⟨by rfl,fun w' hw=>(by
    obtain ⟨e0,e1,e2,e3⟩:=ctr_cells hw.c;go_simp;rfl)⟩) hHeld ?_
   simp only [C.py];refine C.ty 4 (.agg PA) rfl (y_pos hz (by rfl) _ rfl (w.heap.size+1) rfl (fun _ h=>rowAt_of h.p)) hHeld ?_
   refine wpAnyH_take (i:=5) (v:=.agg #[.int .i64 (f:Int),.int .i64 (t:Int),.int .u8 (u.toNat:Int)]) rfl (by kernel_rfl) (by kernel_rfl) (by kernel_rfl) (fun _ _ _ h=>h) (Or.inl ⟨by rfl,fun w' hw=>(by
    obtain ⟨e0,e1,e2⟩:=mv_cells hw.m;go_simp;try rfl)⟩) hHeld ?_
   simp only [C.py];refine C.ty 7 (.int .i64 ((d+1:Nat):Int)) rfl (Or.inl ⟨by rfl,fun w' hw=>(by go_simp;try rfl)⟩) hHeld ?_;refine C.ty 8 (.int .i64 (d:Int)) rfl (Or.inl ⟨by rfl,fun w' hw=>(by go_simp;first|done|exact ed|exact edd)⟩) hHeld ?_;refine C.rd 2 fun K hK=>?_
   go_simp;refine (unhide htx' _).mono ?_;rintro e w2 ⟨rfl,hg2⟩;refine hK.out _ _ (hHeld.next (Fx.of hg2) hb1 hb2 hb3) (fun hHeld=>?_);have hD2:=hD0.next aw (Fx.of hg2) hb1 hb2 hgb (unhide hst _ _ hD0.i hg2);clear hg2 hD0;clear hK K
   try simp only [C.py]
   refine C.rd 6 fun K hK=>?_
   go_simp;refine (unhide haf' _ hD2.wt.hom).mono ?_;rintro e w3 ⟨Q,rfl,hq,hg3⟩;refine hK.out _ _ (hHeld.next (Fx.of hg3) hb1 hb2 hb3) (fun hHeld=>?_);have hD3:=hD2.next aw (Fx.of hg3) hb1 hb2 hgb (unhide hst _ _ hD2.i hg3);clear hg3 hD2;clear hK K
   try simp only [C.py]
   refine C.rd 9 fun K hK=>?_
   go_simp;refine (hq _ hD3.i hD3.wt).mono ?_;rintro e w4 ⟨rfl,hf4,hi4⟩;refine hK.out _ _ (hHeld.next hf4 hb1 hb2 hb3) (fun hHeld=>?_);have hD4:=hD3.next aw hf4 hb1 hb2 hgb hi4;clear hf4 hi4 hD3 hq;clear hK K
   try simp only [C.py]
   refine C.tq 10 (.agg #[.string S,.int .u64 (xv:Int)]) hHeld ?_;have hg5:Gr w4 (w4.alloc (.cells #[.string S,.int .u64 (xv:Int)] 37)):=(Gr.refl w4).alloc _ _;have hD5:=hD4.next aw (Fx.of hg5) hb1 hb2 hgb (unhide hst _ _ hD4.i hg5);have hS5:=hHeld.next (Fx.of hg5) hb1 hb2 hb3;have hcl:=cells_new2 w4 S xv;clear hg5 hD4;refine C.rd 11 fun K hK=>?_
   go_simp;refine hK.out _ _ hS5 (fun hHeld=>?_);clear hK K
   try simp only [C.py]
   clear hS5;refine C.rd 12 fun K hK=>?_
   rw [if_pos (by rfl)];refine wp_append_own _ (.tmp 19) (.tmp 30) 33 rfl w1.heap.size 37 i0 (.agg #[.string ⟨#[]⟩,.int .u64 0]) 2 24 Tryz.underlying33 (unhide hi') hz0 hz1 hz2 rfl (by decide) u7 l0.length (rowC l0) rfl hD5.own ⟨w4.heap.size,0,none⟩ 1 1 [.string S,.int .u64 (xv:Int)] rfl rfl hcl (by simp [Value.oneCell']) (by unfold maxLen;omega) (by omega) (Fx.size hD5.fx) ?_;intro v' w7 hown' hgrow _;have hS7:=hHeld.grown hD5.own hgrow
   have hD7:Dl g n I ga gm wn PA w.heap.size (w.heap.size+1) w1.heap.size v' (l0++[(S,xv)]) w1 w7:=by
    have blk:∀ q o,(w4.alloc (.cells #[.string S,.int .u64 (xv:Int)] 37)).heap[q]?=some o->q<w1.heap.size->w7.heap[q]?=some o:=fun q o e hq=>by
     rw [hgrow.block q (heap_lt e) (fun e'=>by have:=cts_block hD5.own q e'.symm;omega)];exact e
    have hfr:Fr (fun q _=>q<w1.heap.size) (w4.alloc (.cells #[.string S,.int .u64 (xv:Int)] 37)) w7:=⟨hgrow.os,hgrow.tape,hgrow.output,hgrow.size,fun q o e hq=>blk q o e hq⟩;refine ⟨hS7.c,hS7.p,hD5.wt.low (unhide hwt1) hfr,unhide hsti _ _ hD5.i (hfr.mono fun q o _ e=>by rw [e];exact hgb),⟨hgrow.os.trans hD5.fx.os,hgrow.tape.trans hD5.fx.tape,hgrow.output.trans hD5.fx.output,Nat.le_trans hD5.fx.size hgrow.size,fun q o e hq=>blk q o (hD5.fx.at e hq) (heap_lt e)⟩,?_⟩;unfold Cts;rw [rowC_snoc,List.length_append];exact hown'
   refine hK.out _ _ hS7 (fun hHeld=>?_);clear hK K hD5 hS7 hcl hgrow hown'
   try simp only [C.py]
   refine C.rd 13 fun K hK=>?_
   go_simp;refine hK.out _ _ hHeld (fun hHeld=>?_);clear hK K
   try simp only [C.py]
   refine wpAnyH_done (by kernel_rfl) ?_ _;have hD8:=hide hD7;clear hHeld hD7;go_wp2_with fail;go_roundg (gk-1)
   case measure=>omega
   case rel=>exact ⟨k+1,by omega,by go_num,by rw [unhide hl2];exact unhide hD8⟩
  ·have ek:k=ys.length:=by omega
   subst ek;rw [List.take_length] at hD;have hD':=hide hD;clear hD hel' hcalls hblk;go_wp2_with fail;go_ret;exact ⟨_,rfl,owns_mono (unhide hD').own hsz1,Fx.trans (Fx.of hgW) (unhide hD').fx,(unhide hD').i⟩
def TocEnd (s:ByteArray) (d lo n:Int) (e:Ending):Prop :=
 (∃ k,k≠0/\BadK s k/\e=.returned (.tuple #[.agg Tryz.zeroCells70,.agg nilW,.int .i64 k])) ∨
 (∃ p,readS s=some p/\posCan p=true/\¬ (lo<=d/\d<=3)/\e=.returned (.tuple #[.agg Tryz.zeroCells70,.agg nilW,.int .i64 5])) ∨
 (∃ p,readS s=some p/\posCan p=true/\(lo<=d/\d<=3)/\¬ (n=1\/n=2)/\e=.returned (.tuple #[.agg Tryz.zeroCells70,.agg nilW,.int .i64 3])) ∨
 (∃ p ga gm gi,readS s=some p/\posCan p=true/\(lo<=d/\d<=3)/\WayN n ga gm gi/\e=.returned (.tuple #[.agg (posV p),.agg (wayA ga gm),.int .i64 0]))
structure Tk (w W:World):Prop where
 ps:W.heap[w.heap.size]?=some (.cells Tryz.zeroCells70 70)
 mv:W.heap[w.heap.size+1]?=some (.cells nilW 74)
 lt:w.heap.size+1<W.heap.size
 gr:Gr w W
theorem Tk.next {w W W':World} (h:Tk w W) (g:Gr W W'):Tk w W' :=
 ⟨(Below.block g _ (Nat.lt_of_succ_lt h.lt)).trans h.ps,(Below.block g _ h.lt).trans h.mv,Nat.lt_of_lt_of_le h.lt (Below.size g),Gr.trans h.gr g⟩
theorem Tk.start (w:World):Tk w ((w.alloc (.cells Tryz.zeroCells70 70)).alloc (.cells nilW 74)):=by
 obtain ⟨e1,e2⟩:=heapTwo w (.cells Tryz.zeroCells70 70) (.cells nilW 74);exact ⟨e1,e2,by rw [World.size_alloc,World.size_alloc];omega,((Gr.refl w).alloc _ _).alloc _ _⟩
theorem Tk.out {w W:World} (h:Tk w W) (A M:Array Value):((W.setRow w.heap.size A).setRow (w.heap.size+1) M).heap[w.heap.size]?=some (.cells A 70)/\((W.setRow w.heap.size A).setRow (w.heap.size+1) M).heap[w.heap.size+1]?=some (.cells M 74)/\Gr w ((W.setRow w.heap.size A).setRow (w.heap.size+1) M) :=
 ⟨by rw [setRow_other _ _ _ _ (by omega)];exact setRow_heap _ _ _ _ _ _ h.ps,setRow_heap _ _ _ _ _ _ (by rw [setRow_other _ _ _ _ (by omega)];exact h.mv),(h.gr.setRow _ (Nat.le_refl _) _).setRow _ (by omega) _⟩
theorem Tk.second {w W:World} (h:Tk w W) (A:Array Value):(W.setRow w.heap.size A).heap[w.heap.size+1]?=some (.cells nilW 74):=by rw [setRow_other _ _ _ _ (by omega)];exact h.mv
structure Tk3 (w:World) (b1:Nat) (A:Array Value) (b2:Nat) (M:Array Value) (W:World):Prop where
 ps:∃ R,R.size=72/\W.heap[w.heap.size]?=some (.cells R 70)
 mv:∃ R,R.size=2/\W.heap[w.heap.size+1]?=some (.cells R 74)
 gr:Gr w W
 p:W.heap[b1]?=some (.cells A 70)
 m:W.heap[b2]?=some (.cells M 74)
 h1:w.heap.size+1<b1
 h2:w.heap.size+1<b2
theorem Tk3.putP {w W:World} {b1 b2:Nat} {A M:Array Value} (h:Tk3 w b1 A b2 M W) (X:Array Value) (hX:X.size=72):Tk3 w b1 A b2 M (W.setRow w.heap.size X):=by
 obtain ⟨R,r1,r2⟩:=h.ps;obtain ⟨R',r3,r4⟩:=h.mv;have:=h.h1;have:=h.h2;exact ⟨⟨X,hX,setRow_heap _ _ _ _ _ _ r2⟩,⟨R',r3,by rw [setRow_other _ _ _ _ (by omega)];exact r4⟩,h.gr.setRow _ (Nat.le_refl _) _,by rw [setRow_other _ _ _ _ (by omega)];exact h.p,by rw [setRow_other _ _ _ _ (by omega)];exact h.m,h.h1,h.h2⟩
theorem Tk3.putM {w W:World} {b1 b2:Nat} {A M:Array Value} (h:Tk3 w b1 A b2 M W) (X:Array Value) (hX:X.size=2):Tk3 w b1 A b2 M (W.setRow (w.heap.size+1) X):=by
 obtain ⟨R,r1,r2⟩:=h.ps;obtain ⟨R',r3,r4⟩:=h.mv;have:=h.h1;have:=h.h2;exact ⟨⟨R,r1,by rw [setRow_other _ _ _ _ (by omega)];exact r2⟩,⟨X,hX,setRow_heap _ _ _ _ _ _ r4⟩,h.gr.setRow _ (by omega) _,by rw [setRow_other _ _ _ _ (by omega)];exact h.p,by rw [setRow_other _ _ _ _ (by omega)];exact h.m,h.h1,h.h2⟩
theorem Tk3.c0 {w W:World} {b1 b2 ga gm:Nat} {A:Array Value} (h:Tk3 w b1 A b2 (wayA ga gm) W):W.cell? ⟨b2,0,none⟩=some (.func (.func ga) #[] #[]):=by rw [cell_of_row _ _ _ _ _ _ h.m];rfl
theorem Tk3.c1 {w W:World} {b1 b2 ga gm:Nat} {A:Array Value} (h:Tk3 w b1 A b2 (wayA ga gm) W):W.cell? ⟨b2,1,none⟩=some (.func (.func gm) #[] #[]):=by rw [cell_of_row _ _ _ _ _ _ h.m];rfl
theorem toCount_any (s:ByteArray) (hs:s.size<4294967281) (d lo n:Int) (m:Int) (w:World) (hc:Ct m w):Calls Tryz.prog 21 #[.string s,.int .i64 d,.int .i64 lo,.int .i64 n] w fun e w'=>TocEnd s d lo n e/\Gr w w':=by
 have hT0:=Tk.start w;have h1:Hid (∀ W,Gr w W->Calls Tryz.prog 34 #[.string s] W fun e w'=>ParseEnd s e/\Gr W w'):=hide (fun W g=>parse_any s hs m W (hc.gr g).mx (hc.gr g).ml (hc.gr g).tab (hc.gr g).homes);rcases parse_split s with ⟨p,hr,hcan,hone⟩|⟨k,hk,hbad,hone⟩
 ·have h2:Hid (∀ W,Gr w W->Calls Tryz.prog 34 #[.string s] W fun e w'=>e=.returned (.tuple #[.agg (posV p),.int .i64 0])/\Gr W w'):=hide (fun W g=>(unhide h1 W g).mono fun e w' h=>⟨hone e h.1,h.2⟩);have hrow:=row_read hr;have hz:=hrow.size;have ho:=hide (row_ones hrow);have hend5:Hid (¬ (lo<=d/\d<=3)->TocEnd s d lo n (.returned (.tuple #[.agg Tryz.zeroCells70,.agg nilW,.int .i64 5]))):=hide (fun e=>.inr (.inl ⟨p,hr,hcan,e,rfl⟩));have hend3:Hid ((lo<=d/\d<=3)->¬ (n=1\/n=2)->TocEnd s d lo n (.returned (.tuple #[.agg Tryz.zeroCells70,.agg nilW,.int .i64 3]))):=hide (fun e q=>.inr (.inr (.inl ⟨p,hr,hcan,e,q,rfl⟩)));have hend0:Hid (∀ ga gm gi,(lo<=d/\d<=3)->WayN n ga gm gi->TocEnd s d lo n (.returned (.tuple #[.agg (posV p),.agg (wayA ga gm),.int .i64 0]))):=hide (fun ga gm gi e q=>.inr (.inr (.inr ⟨p,ga,gm,gi,hr,hcan,e,q,rfl⟩)));generalize posV p=A at h2 hz ho hend0;clear h1 hone hc hs hrow hr hcan;go_enter Tryz.func21,Tryz.ntmps21;go_upto_region 1 with fail;show Code.wp _ _ _ _ ((w.alloc (.cells Tryz.zeroCells70 70)).alloc (.cells nilW 74));generalize ((w.alloc (.cells Tryz.zeroCells70 70)).alloc (.cells nilW 74))=w0 at hT0 ⊢;have hg0:=hT0.gr
  go_upto_region 4 with (first
   | (go_at_call 34;refine (unhide h2 _ hg0).mono ?_;rintro e w3 ⟨rfl,hg3⟩)
   | (refine wpList_store_row rfl 70 _ _ rfl w3.heap.size A rfl rfl 70 _ (heap_alloc_new _ _) (by rw [hz];exact infoP) (by rw [hz];exact zeroP.symm) (unhide ho) ?_))
  have hg4:Gr w3 ((w3.alloc (.cells Tryz.zeroCells70 70)).setRow w3.heap.size A):=((Gr.refl w3).alloc Tryz.zeroCells70 70).setRow w3.heap.size (Nat.le_refl _) A;have hT4:=hT0.next (Gr.trans hg3 hg4);have hb1:((w3.alloc (.cells Tryz.zeroCells70 70)).setRow w3.heap.size A).heap[w3.heap.size]?=some (.cells A 70):=setRow_heap _ _ _ _ _ _ (heap_alloc_new w3 _);have hlb:w3.heap.size<((w3.alloc (.cells Tryz.zeroCells70 70)).setRow w3.heap.size A).heap.size:=by rw [size_setRow,World.size_alloc];omega
  show Code.wp _ _ _ _ ((w3.alloc (.cells Tryz.zeroCells70 70)).setRow w3.heap.size A);generalize (w3.alloc (.cells Tryz.zeroCells70 70)).setRow w3.heap.size A=w4 at hT4 hb1 hlb ⊢;have hlo1:w.heap.size+1<w3.heap.size:=Nat.lt_of_lt_of_le hT0.lt (Below.size hg3);generalize w3.heap.size=b1 at hb1 hlb hlo1 ⊢;clear hT0 hg0 hg3 hg4 h2;by_cases hd:lo<=d/\d<=3
  ·have q1:¬ d<lo:=by omega
   have q2:¬ 3<d:=by omega
   go_upto_region 6 with fail;by_cases hn:n=1\/n=2
   ·obtain ⟨ga,gm,gi,hway,hof⟩:∃ ga gm gi,WayN n ga gm gi/\ofV n=.tuple #[.agg (wayA ga gm),.bool true]:=by
     rcases hn with rfl|rfl
     ·exact ⟨_,_,_,⟨.inl ⟨rfl,rfl,rfl,rfl⟩⟩,rfl⟩
     ·exact ⟨_,_,_,⟨.inr ⟨rfl,rfl,rfl,rfl⟩⟩,rfl⟩
    have hofc:Hid (∀ W,Calls Tryz.prog 35 #[.int .i64 n] W fun e w'=>e=.returned (.tuple #[.agg (wayA ga gm),.bool true])/\Gr W w'):=hide fun W=>by rw [<-hof];exact of_any n W
    have hend:=hide (unhide hend0 ga gm gi hd hway);clear hend5 hend3 hend0 hof hn hway hd q1 q2
    go_upto_region 7 with (first
     | (go_at_call 35;refine (unhide hofc _).mono ?_;rintro e w5 ⟨rfl,hg5⟩)
     | (refine wpList_store_row rfl 74 _ _ rfl w5.heap.size (wayA ga gm) rfl rfl 74 nilW (heap_alloc_new _ _) infoW rfl (wayA_ones _ _) ?_))
    have hg6:Gr w5 ((w5.alloc (.cells nilW 74)).setRow w5.heap.size (wayA ga gm)):=((Gr.refl w5).alloc nilW 74).setRow w5.heap.size (Nat.le_refl _) (wayA ga gm);have hT6:=(hT4.next hg5).next hg6;have hb1':=(Below.block (Gr.trans hg5 hg6) _ hlb).trans hb1;have hb2:((w5.alloc (.cells nilW 74)).setRow w5.heap.size (wayA ga gm)).heap[w5.heap.size]?=some (.cells (wayA ga gm) 74):=setRow_heap _ _ _ _ _ _ (heap_alloc_new w5 _);show Code.wp _ _ _ _ ((w5.alloc (.cells nilW 74)).setRow w5.heap.size (wayA ga gm));generalize (w5.alloc (.cells nilW 74)).setRow w5.heap.size (wayA ga gm)=w6 at hT6 hb1' hb2 ⊢;have hlo2:w.heap.size+1<w5.heap.size:=Nat.lt_of_lt_of_le hT4.lt (Below.size hg5);generalize w5.heap.size=b2 at hb2 hlo2 ⊢;clear hT4 hb1 hlb hg5 hg6 hofc;go_upto_region 9 with fail;have hS:Tk3 w b1 A b2 (wayA ga gm) w6.drew:=⟨⟨_,zeroP,hT6.ps⟩,⟨_,rfl,hT6.mv⟩,hT6.gr.drew,hb1',hb2,hlo1,hlo2⟩;clear hT6 hb1' hb2;have hAo:=unhide ho;refine wp_region_held_drew (S:=Tk3 w b1 A b2 (wayA ga gm)) (by kernel_rfl) hS (fun hHeld=>?_);clear hS;refine C.ty 0 (.agg A) rfl (y_pos hz (by rfl) _ rfl b1 rfl (fun _ h=>rowAt_of h.p)) hHeld ?_;refine C.ty 1 (.agg (wayA ga gm)) rfl (Or.inl ⟨by rfl,fun w' hw=>(by have c0:=hw.c0;have c1:=hw.c1;go_simp;rfl)⟩) hHeld ?_;refine C.rd 2 fun K hK=>?_
    rw [if_pos (by rfl)];obtain ⟨R1,r1,r2⟩:=hHeld.ps;refine wp_store_row 70 _ _ rfl w.heap.size A rfl rfl 70 R1 r2 (by rw [hz];exact infoP) (by rw [hz,r1]) hAo ?_;refine hK.out _ _ (hHeld.putP A hz) (fun hHeld=>?_);clear hK K
    try simp only [C.py]
    refine C.rd 3 fun K hK=>?_
    rw [if_pos (by rfl)];obtain ⟨R3,r5,r6⟩:=hHeld.mv;refine wp_store_row 74 _ _ rfl (w.heap.size+1) (wayA ga gm) rfl rfl 74 R3 r6 infoW (by rw [r5];rfl) (wayA_ones _ _) ?_;have hp9:_:=setRow_heap _ _ _ A _ _ r2;refine hK.out _ _ (hHeld.putM (wayA ga gm) rfl) (fun hHeld=>?_);clear hK K
    try simp only [C.py]
    refine C.rd 4 fun K hK=>?_
    go_simp;refine hK.out _ _ hHeld (fun hHeld=>?_);clear hK K
    try simp only [C.py]
    refine wpAnyH_done (by kernel_rfl) ?_ _;have hgf:=hide hHeld.gr;go_wp2_with fail;exact bodyPost_ret (v:=.tuple #[.agg A,.agg (wayA ga gm),.int .i64 0]) (results_cct Tryz.results21 _ _ w.heap.size (w.heap.size+1) 70 74 _ _ (0,0) (0,0) _ _ rfl (by rw [setRow_other _ _ _ _ (by omega)];exact hp9) Tryz.underlying70 rfl (by rw [hz];exact infoP) rfl (setRow_heap _ _ _ _ _ _ r6) Tryz.underlying74 rfl infoW) rfl ⟨unhide hend,unhide hgf⟩
   ·have hof:ofV n=.tuple #[.agg nilW,.bool false]:=by unfold ofV;rw [if_neg (fun h=>hn (.inl h)),if_neg (fun h=>hn (.inr h))]
    have hofc:Hid (∀ W,Calls Tryz.prog 35 #[.int .i64 n] W fun e w'=>e=.returned (.tuple #[.agg nilW,.bool false])/\Gr W w'):=hide fun W=>by rw [<-hof];exact of_any n W
    have hend:=hide (unhide hend3 hd hn);clear hend5 hend3 hend0 hof hn hd q1 q2
    go_upto_region 7 with (first
     | (go_at_call 35;refine (unhide hofc _).mono ?_;rintro e w5 ⟨rfl,hg5⟩)
     | (refine wpList_store_row rfl 74 _ _ rfl w5.heap.size nilW rfl rfl 74 nilW (heap_alloc_new _ _) infoW rfl nilW_ones ?_))
    have hT6:=(hT4.next hg5).next (((Gr.refl w5).alloc nilW 74).setRow w5.heap.size (Nat.le_refl _) nilW);show Code.wp _ _ _ _ ((w5.alloc (.cells nilW 74)).setRow w5.heap.size nilW);generalize (w5.alloc (.cells nilW 74)).setRow w5.heap.size nilW=w6 at hT6 ⊢;have hps:=hide hT6.ps;have hmv:=hide (hT6.second Tryz.zeroCells70);have hout:=hide (hT6.out Tryz.zeroCells70 nilW);clear hT4 hT6 hb1 hlb hg5 hofc
    go_wp2_with (first
     | (refine wpList_store_row rfl 70 _ _ rfl w.heap.size Tryz.zeroCells70 rfl rfl 70 Tryz.zeroCells70 (unhide hps) (by rw [zeroP];exact infoP) rfl zeroP_ones ?_)
     | (refine wpList_store_row rfl 74 _ _ rfl (w.heap.size+1) nilW rfl rfl 74 nilW (unhide hmv) infoW rfl nilW_ones ?_))
    exact bodyPost_ret (v:=.tuple #[.agg Tryz.zeroCells70,.agg nilW,.int .i64 3]) (results_cct Tryz.results21 _ _ w.heap.size (w.heap.size+1) 70 74 _ _ (0,0) (0,0) _ _ rfl (unhide hout).1 Tryz.underlying70 rfl (by rw [zeroP];exact infoP) rfl (unhide hout).2.1 Tryz.underlying74 rfl infoW) rfl ⟨unhide hend,(unhide hout).2.2⟩
  ·have hend:=hide (unhide hend5 hd);have hps:=hide hT4.ps;have hmv:=hide (hT4.second Tryz.zeroCells70);have hout:=hide (hT4.out Tryz.zeroCells70 nilW);clear hend5 hend3 hend0 hT4 hb1 hlb;by_cases q1:d<lo
   ·clear hd
    go_wp2_with (first
     | (refine wpList_store_row rfl 70 _ _ rfl w.heap.size Tryz.zeroCells70 rfl rfl 70 Tryz.zeroCells70 (unhide hps) (by rw [zeroP];exact infoP) rfl zeroP_ones ?_)
     | (refine wpList_store_row rfl 74 _ _ rfl (w.heap.size+1) nilW rfl rfl 74 nilW (unhide hmv) infoW rfl nilW_ones ?_))
    exact bodyPost_ret (v:=.tuple #[.agg Tryz.zeroCells70,.agg nilW,.int .i64 5]) (results_cct Tryz.results21 _ _ w.heap.size (w.heap.size+1) 70 74 _ _ (0,0) (0,0) _ _ rfl (unhide hout).1 Tryz.underlying70 rfl (by rw [zeroP];exact infoP) rfl (unhide hout).2.1 Tryz.underlying74 rfl infoW) rfl ⟨unhide hend,(unhide hout).2.2⟩
   ·have q2:3<d:=by omega
    clear hd
    go_wp2_with (first
     | (refine wpList_store_row rfl 70 _ _ rfl w.heap.size Tryz.zeroCells70 rfl rfl 70 Tryz.zeroCells70 (unhide hps) (by rw [zeroP];exact infoP) rfl zeroP_ones ?_)
     | (refine wpList_store_row rfl 74 _ _ rfl (w.heap.size+1) nilW rfl rfl 74 nilW (unhide hmv) infoW rfl nilW_ones ?_))
    exact bodyPost_ret (v:=.tuple #[.agg Tryz.zeroCells70,.agg nilW,.int .i64 5]) (results_cct Tryz.results21 _ _ w.heap.size (w.heap.size+1) 70 74 _ _ (0,0) (0,0) _ _ rfl (unhide hout).1 Tryz.underlying70 rfl (by rw [zeroP];exact infoP) rfl (unhide hout).2.1 Tryz.underlying74 rfl infoW) rfl ⟨unhide hend,(unhide hout).2.2⟩
 ·have h2:Hid (∀ W,Gr w W->Calls Tryz.prog 34 #[.string s] W fun e w'=>e=.returned (.tuple #[.agg Tryz.zeroCells70,.int .i64 k])/\Gr W w'):=hide (fun W g=>(unhide h1 W g).mono fun e w' h=>⟨hone e h.1,h.2⟩);have hend:Hid (TocEnd s d lo n (.returned (.tuple #[.agg Tryz.zeroCells70,.agg nilW,.int .i64 k]))):=hide (.inl ⟨k,hk,hbad,rfl⟩);have k2:(k != 0)=true:=by rw [bne_iff_ne];exact hk
  clear h1 hone hbad hc hs hk;go_enter Tryz.func21,Tryz.ntmps21;go_upto_region 1 with fail;show Code.wp _ _ _ _ ((w.alloc (.cells Tryz.zeroCells70 70)).alloc (.cells nilW 74));generalize ((w.alloc (.cells Tryz.zeroCells70 70)).alloc (.cells nilW 74))=w0 at hT0 ⊢;have hg0:=hT0.gr
  go_upto_region 2 with (first
   | (go_at_call 34;refine (unhide h2 _ hg0).mono ?_;rintro e w3 ⟨rfl,hg3⟩)
   | (refine wpList_store_row rfl 70 _ _ rfl w3.heap.size Tryz.zeroCells70 rfl rfl 70 _ (heap_alloc_new _ _) (by rw [zeroP];exact infoP) rfl zeroP_ones ?_))
  have hT4:=hT0.next (Gr.trans hg3 (((Gr.refl w3).alloc Tryz.zeroCells70 70).setRow w3.heap.size (Nat.le_refl _) Tryz.zeroCells70));generalize (w3.alloc (.cells Tryz.zeroCells70 70)).setRow w3.heap.size Tryz.zeroCells70=w4 at hT4 ⊢;have hps:=hide hT4.ps;have hmv:=hide (hT4.second Tryz.zeroCells70);have hout:=hide (hT4.out Tryz.zeroCells70 nilW);clear hT4 hT0 hg0 hg3 h2
  go_wp2_with (first
   | (refine wpList_store_row rfl 70 _ _ rfl w.heap.size Tryz.zeroCells70 rfl rfl 70 Tryz.zeroCells70 (unhide hps) (by rw [zeroP];exact infoP) rfl zeroP_ones ?_)
   | (refine wpList_store_row rfl 74 _ _ rfl (w.heap.size+1) nilW rfl rfl 74 nilW (unhide hmv) infoW rfl nilW_ones ?_))
  exact bodyPost_ret (v:=.tuple #[.agg Tryz.zeroCells70,.agg nilW,.int .i64 k]) (results_cct Tryz.results21 _ _ w.heap.size (w.heap.size+1) 70 74 _ _ (0,0) (0,0) _ _ rfl (unhide hout).1 Tryz.underlying70 rfl (by rw [zeroP];exact infoP) rfl (unhide hout).2.1 Tryz.underlying74 rfl infoW) rfl ⟨unhide hend,(unhide hout).2.2⟩
theorem infoSl:(Tryz.prog.info? 168).map (fun i=>(i.zero,i.size,i.bytes))=some (some (.agg Tryz.zeroCells168),75,120):=by kernel_rfl
theorem infoMm:(Tryz.prog.info? 56).map (·.size)=some 1:=by kernel_rfl
theorem newM_any (n:Nat) (hn:n<=4096) (w:World):Calls Tryz.prog 20 #[.int .i64 (n:Int)] w fun e w'=>e=.returned (.agg #[svN (w.heap.size+1) n])/\w'.ownsRow w.heap.size 168 75 (svN (w.heap.size+1) n) n (madeCells Tryz.zeroCells168 (n*75)).toList/\Gr w w':=by
 obtain ⟨i0,hi,hz0,hz1,hz2⟩:=info_parts infoSl;have hi':=hide hi;have hb2:i0.bytes*n<=281474976710656:=by rw [hz2];omega
 clear hi;have y1:=heap_alloc_new w (.cells #[.slice none 0 0] 56);have hg0:Gr w (w.alloc (.cells #[.slice none 0 0] 56)):=(Gr.refl w).alloc _ _;have hs0:(w.alloc (.cells #[.slice none 0 0] 56)).heap.size=w.heap.size+1:=World.size_alloc _ _;go_enter Tryz.func20,Tryz.ntmps20;go_upto_region 1 with fail;generalize w.alloc (.cells #[.slice none 0 0] 56)=w0 at y1 hg0 hs0 ⊢;go_wp2_with (at_make;refine wpList_make_full _ rfl _ _ 54 rfl w.heap.size 168 i0 (.agg Tryz.zeroCells168) 75 Tryz.underlying54 (unhide hi') hz0 hz1 _ _ _ _ n rfl rfl rfl rfl hb2 (by unfold maxLen;omega) (by omega) ?_;intro w1 hown hgrow;rw [hs0] at hown;rw [hs0];have hbx:w1.heap[w.heap.size]?=some (.cells #[.slice none 0 0] 56):=by { rw [hgrow.block w.heap.size (by omega) (by simp)];exact y1 };have c1:=(cell_of_box_l hbx).1;have f1:=(cell_of_box_l hbx).2);refine bodyPost_ret (v:=.agg #[svN (w.heap.size+1) n]) (results_cell_row Tryz.results20 _ _ w.heap.size 56 #[svN (w.heap.size+1) n] (0,0) _ rfl (set_box hbx) Tryz.underlying56 rfl infoMm) rfl ⟨rfl,?_,?_⟩
 ·refine ⟨hown.1,?_⟩;rcases hown.2 with ⟨e,_⟩|⟨g,cap,cur,hv,hb,hg,rest⟩
  ·cases e
  ·refine .inr ⟨g,cap,cur,hv,hb,?_,rest⟩
   have:w.heap.size+1=g:=by
    injection hv with hv _ _;injection hv with hv;injection hv
   rw [Below.heap_setCell _ _ _ _ (by simp;omega)];exact hg
 ·exact Below.setCell (Gr.trans hg0 (Below.grown (Gr.refl w0) hgrow (Nat.le_refl _) (fun k h=>by cases h))) (Nat.le_refl _) _
theorem built_ctr (ga gm:Nat) (wn:Int) (g n:Nat):Tryz.prog.built 78 [(0,.agg (wayA ga gm)),(1,.int .i64 wn),(2,.agg #[svN g n])]=some (ctrA ga gm wn g n):=by kernel_rfl
theorem ctr_ones (ga gm:Nat) (wn:Int) (g n:Nat):(ctrA ga gm wn g n).all (·.oneCell')=true:=by simp [ctrA,svN,Value.oneCell']
theorem by_any (ga gm:Nat) (wn:Int) (g n:Nat) (w:World):Calls Tryz.prog 24 #[.agg (wayA ga gm),.int .i64 wn,.agg #[svN g n]] w fun e w'=>e=.returned (.agg (ctrA ga gm wn g n))/\Gr w w':=by
 obtain ⟨x1,x2,x3,x4⟩:=heapThree w (.cells (wayA ga gm) 74) (.cells #[svN g n] 56) (.cells #[.nilFunc,.nilFunc,.int .i64 0,.slice none 0 0] 78);have hg0:Gr w (((w.alloc (.cells (wayA ga gm) 74)).alloc (.cells #[svN g n] 56)).alloc (.cells #[.nilFunc,.nilFunc,.int .i64 0,.slice none 0 0] 78)):=(((Gr.refl w).alloc _ _).alloc _ _).alloc _ _;go_enter Tryz.func24,Tryz.ntmps24;go_upto_region 1 with fail;show Code.wp _ _ _ _ (((w.alloc (.cells (wayA ga gm) 74)).alloc (.cells #[svN g n] 56)).alloc (.cells #[.nilFunc,.nilFunc,.int .i64 0,.slice none 0 0] 78));generalize (((w.alloc (.cells (wayA ga gm) 74)).alloc (.cells #[svN g n] 56)).alloc (.cells #[.nilFunc,.nilFunc,.int .i64 0,.slice none 0 0] 78))=w0 at x1 x2 x3 hg0 ⊢;clear x4
 go_wp2_with (first
  | (refine wpList_load_row rfl 74 _ rfl w.heap.size rfl 74 (wayA ga gm) (0,0) _ (by with_reducible exact x1) Tryz.underlying74 rfl infoW ?_)
  | (refine wpList_load_row rfl 56 _ rfl (w.heap.size+1) rfl 56 #[svN g n] (0,0) _ (by with_reducible exact x2) Tryz.underlying56 rfl infoMm ?_)
  | (refine wpList_built rfl 78 #[(0,.tmp 7),(1,.tmp 8),(2,.tmp 9)] rfl (ctrA ga gm wn g n) ?_ ?_;focus (first|(go_simp;exact built_ctr ga gm wn g n)|(simp;exact built_ctr ga gm wn g n)))
  | (refine wpList_store_row rfl 78 _ _ rfl (w.heap.size+2) (ctrA ga gm wn g n) rfl rfl 78 #[.nilFunc,.nilFunc,.int .i64 0,.slice none 0 0] (by with_reducible exact x3) infoCr rfl (ctr_ones _ _ _ _ _) ?_))
 exact bodyPost_ret (v:=.agg (ctrA ga gm wn g n)) (results_cell_row Tryz.results24 _ _ (w.heap.size+2) 78 _ (0,0) _ rfl (setRow_heap _ _ _ _ _ _ x3) Tryz.underlying78 rfl infoCr) rfl ⟨rfl,hg0.setRow _ (by omega) _⟩
end Go.Proofs.YtnfakamfmkhlbabGreatDoor.C
