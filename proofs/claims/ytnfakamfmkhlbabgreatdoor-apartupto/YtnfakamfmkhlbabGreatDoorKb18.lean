import Derived.Test.YtnfakamfmkhlbabGreatDoorKb17
import Derived.Test.YtnfakamfmkhlbabGreatDoorKb13
set_option maxRecDepth 100000
set_option maxHeartbeats 4000000
set_option linter.unusedSimpArgs false
namespace Go.Proofs.YtnfakamfmkhlbabGreatDoor.C
open Go.ChangeShapes Go.WideShapes Go.ChangeAt Go.RowKit Go.Shelf
open Go.Proofs.YtnfakamfmkhlbabGreatDoor.P
attribute [local go_sem] setCell_drewN alloc_drewN
def ahM (wh:Bool) (f:Nat):Nat:=if f/8=(if wh then 1 else 6) then 2 else 1
def ahS (wh:Bool):Int:=if wh then 1 else -1
theorem set_two {W:World} {b:Nat} {x y x' y':Value} {t:TypeId} (h:W.heap[b]?=some (.cells #[x,y] t)):((W.setCell ⟨b,0,none⟩ x').setCell ⟨b,1,none⟩ y').heap[b]?=some (.cells #[x',y'] t):=by
 have e1:=set_row3 (i:=0) (v:=x') h;have e2:=set_row3 (i:=1) (v:=y') e1;exact e2
theorem Ah.of {z:Nat->UInt8} {wh:Bool} {fc:Nat->Bool} {b:Int} {f:Nat} {a c:Int} {most B1 B2 B3 B4 Bp:Nat} {W:World} {t1 t2 t3 t4:TypeId} (ps:Ps z wh fc b Bp W) (b1:W.heap[B1]?=some (.cells #[.pointer (some ⟨Bp,0,none⟩)] t1)) (b2:W.heap[B2]?=some (.cells #[.int .i64 (f:Int)] t2)) (b3:W.heap[B3]?=some (.cells #[.int .i64 a,.int .i64 c] t3)) (b4:W.heap[B4]?=some (.cells #[.int .i64 (most:Int)] t4)):Ah z wh fc b f a c most B1 B2 B3 B4 Bp W :=
 ⟨(cell_of_box_l b1).1,(cell_of_box_l b2).1,(two_cells b3).1,(two_cells b3).2,(cell_of_box_l b4).1,ps⟩
theorem two_open {V:World} {b:Nat} {x y:Value} {t:TypeId} (h:V.heap[b]?=some (.cells #[x,y] t)):V.frozen? ⟨b,0,none⟩=false/\V.frozen? ⟨b,1,none⟩=false:=by
 constructor<;>simp [World.frozen?,h]
theorem ahead_mk {z:Nat->UInt8} {wh:Bool} {fc:Nat->Bool} {b:Int} {Bp:Nat} (f:Nat) (hf:f<64) (w:World) (h:Ps z wh fc b Bp w) :
  Calls Tryz.prog 270 #[.pointer (some ⟨Bp,0,none⟩),.int .i64 (f:Int)] w fun e w'=>∃ B1 B2 B3 B4,e=.returned (.func (.func 315) #[] #[.pointer (some ⟨B1,0,none⟩),.pointer (some ⟨B2,0,none⟩),.pointer (some ⟨B3,0,none⟩),.pointer (some ⟨B4,0,none⟩)])/\Ah z wh fc b f 0 (ahS wh) (ahM wh f) B1 B2 B3 B4 Bp w'/\(∀ k,(k=B1\/k=B2\/k=B3\/k=B4)->Far w.heap.size k w')/\Gr w w':=by
 have hmf:∀ (fn:Fn) (first cap:Array Value) (w:World),(Instr.makeFunc fn first cap).run Tryz.prog w=.ok (.func fn first cap) w:=fun _ _ _ _=>rfl
 obtain ⟨h1,h2,h3,h4⟩:=heapThree w (.cells #[.pointer (some ⟨Bp,0,none⟩)] 229) (.cells #[.int .i64 (f:Int)] 3) (.cells #[.int .i64 0,.int .i64 (-1)] 221);have hg3:Gr w (((w.alloc (.cells #[.pointer (some ⟨Bp,0,none⟩)] 229)).alloc (.cells #[.int .i64 (f:Int)] 3)).alloc (.cells #[.int .i64 0,.int .i64 (-1)] 221)):=(((Gr.refl w).alloc _ _).alloc _ _).alloc _ _;have c1:=(cell_of_box_l h1).1;have c2:=(cell_of_box_l h2).1;have cw:=(h.gr hg3).wh;go_enter Tryz.func270,Tryz.ntmps270;go_upto_region 2 with fail;generalize (((w.alloc (.cells #[.pointer (some ⟨Bp,0,none⟩)] 229)).alloc (.cells #[.int .i64 (f:Int)] 3)).alloc (.cells #[.int .i64 0,.int .i64 (-1)] 221))=w3 at h1 h2 h3 h4 hg3 c1 c2 cw ⊢;cases wh
 ·by_cases hm:f/8=6
  ·have hmb:((f:Int)/8==6)=true:=by simp only [beq_iff_eq];omega
   have hmo:Hid (ahM false f=2):=hide (by unfold ahM;simp [hm]);have hx3:=h3;have hgs:=hg3;have hs4:=h4;have k1:=h1;have k2:=h2;have c2':=c2;have c2a:=(Below.cell ((Gr.refl w3).alloc #[.int .i64 1] 3) (World.block_lt_of_cell? _ _ c2')).trans c2'
   have hfin:Hid (∃ B1 B2 B3 B4,B1=w.heap.size/\B2=w.heap.size+1/\B3=w.heap.size+2/\B4=w.heap.size+3/\Ah z false fc b f 0 (ahS false) (ahM false f) B1 B2 B3 B4 Bp (w3.alloc (.cells #[.int .i64 2] 3))/\(∀ k,(k=B1\/k=B2\/k=B3\/k=B4)->Far w.heap.size k (w3.alloc (.cells #[.int .i64 2] 3)))/\Gr w (w3.alloc (.cells #[.int .i64 2] 3))):=hide (by
    have hga:Gr w3 (w3.alloc (.cells #[.int .i64 2] 3)):=(Gr.refl _).alloc _ _;have e4:=World.alloc_heap_new w3 (.cells #[.int .i64 2] 3);rw [hs4] at e4;rw [unhide hmo];exact ⟨_,_,_,_,rfl,rfl,rfl,rfl,Ah.of (h.gr (Gr.trans hgs hga)) ((Below.block hga _ (Array.getElem?_eq_some_iff.1 k1).1).trans k1) ((Below.block hga _ (Array.getElem?_eq_some_iff.1 k2).1).trans k2) ((Below.block hga _ (Array.getElem?_eq_some_iff.1 hx3).1).trans hx3) e4,(by rintro k (rfl|rfl|rfl|rfl)<;>first|exact far_of (by omega) (by decide) e4|exact far_of (by omega) (by decide) ((Below.block hga _ (Array.getElem?_eq_some_iff.1 k1).1).trans k1)|exact far_of (by omega) (by decide) ((Below.block hga _ (Array.getElem?_eq_some_iff.1 k2).1).trans k2)|exact far_of (by omega) (by decide) ((Below.block hga _ (Array.getElem?_eq_some_iff.1 hx3).1).trans hx3)),Gr.trans hgs hga⟩)
   clear hm hmo k1 k2 hx3 h1 h2;go_wp2_with fail;go_ret;obtain ⟨B1,B2,B3,B4,rfl,rfl,rfl,rfl,r1,r2⟩:=unhide hfin;exact ⟨_,_,_,_,rfl,r1,r2⟩
  ·have hmb:((f:Int)/8==6)=false:=by rw [beq_eq_false_iff_ne];omega
   have hmo:Hid (ahM false f=1):=hide (by unfold ahM;simp [hm]);have hx3:=h3;have hgs:=hg3;have hs4:=h4;have k1:=h1;have k2:=h2;have c2':=c2;have c2a:=(Below.cell ((Gr.refl w3).alloc #[.int .i64 1] 3) (World.block_lt_of_cell? _ _ c2')).trans c2'
   have hfin:Hid (∃ B1 B2 B3 B4,B1=w.heap.size/\B2=w.heap.size+1/\B3=w.heap.size+2/\B4=w.heap.size+3/\Ah z false fc b f 0 (ahS false) (ahM false f) B1 B2 B3 B4 Bp (w3.alloc (.cells #[.int .i64 1] 3))/\(∀ k,(k=B1\/k=B2\/k=B3\/k=B4)->Far w.heap.size k (w3.alloc (.cells #[.int .i64 1] 3)))/\Gr w (w3.alloc (.cells #[.int .i64 1] 3))):=hide (by
    have hga:Gr w3 (w3.alloc (.cells #[.int .i64 1] 3)):=(Gr.refl _).alloc _ _;have e4:=World.alloc_heap_new w3 (.cells #[.int .i64 1] 3);rw [hs4] at e4;rw [unhide hmo];exact ⟨_,_,_,_,rfl,rfl,rfl,rfl,Ah.of (h.gr (Gr.trans hgs hga)) ((Below.block hga _ (Array.getElem?_eq_some_iff.1 k1).1).trans k1) ((Below.block hga _ (Array.getElem?_eq_some_iff.1 k2).1).trans k2) ((Below.block hga _ (Array.getElem?_eq_some_iff.1 hx3).1).trans hx3) e4,(by rintro k (rfl|rfl|rfl|rfl)<;>first|exact far_of (by omega) (by decide) e4|exact far_of (by omega) (by decide) ((Below.block hga _ (Array.getElem?_eq_some_iff.1 k1).1).trans k1)|exact far_of (by omega) (by decide) ((Below.block hga _ (Array.getElem?_eq_some_iff.1 k2).1).trans k2)|exact far_of (by omega) (by decide) ((Below.block hga _ (Array.getElem?_eq_some_iff.1 hx3).1).trans hx3)),Gr.trans hgs hga⟩)
   clear hm hmo k1 k2 hx3 h1 h2;go_wp2_with fail;go_ret;obtain ⟨B1,B2,B3,B4,rfl,rfl,rfl,rfl,r1,r2⟩:=unhide hfin;exact ⟨_,_,_,_,rfl,r1,r2⟩
 ·by_cases hm:f/8=1
  ·have hmb:((f:Int)/8==1)=true:=by simp only [beq_iff_eq];omega
   have hmo:Hid (ahM true f=2):=hide (by unfold ahM;simp [hm]);obtain ⟨o1,o2⟩:=two_open h3;obtain ⟨o3,o4⟩:=two_cells h3;have hx3:=set_two (x':=.int .i64 0) (y':=.int .i64 1) h3;have fs:Fr (fun k _=>k≠w.heap.size+2) w3 ((w3.setCell ⟨w.heap.size+2,0,none⟩ (.int .i64 0)).setCell ⟨w.heap.size+2,1,none⟩ (.int .i64 1)):=((Fr.refl _ _).setCell _ (fun o _ q=>q rfl)).setCell _ (fun o _ q=>q rfl);have hgs:Gr w ((w3.setCell ⟨w.heap.size+2,0,none⟩ (.int .i64 0)).setCell ⟨w.heap.size+2,1,none⟩ (.int .i64 1)):=Below.setCell (Below.setCell hg3 (show w.heap.size<=w.heap.size+2 by omega) _) (show w.heap.size<=w.heap.size+2 by omega) _;have hs4:((w3.setCell ⟨w.heap.size+2,0,none⟩ (.int .i64 0)).setCell ⟨w.heap.size+2,1,none⟩ (.int .i64 1)).heap.size=w.heap.size+3:=by simp [World.setCell,h4]
   have k1:=fs.same _ _ h1 (by omega);have k2:=fs.same _ _ h2 (by omega);have c2':=(cell_of_box_l k2).1;have c2a:=(Below.cell ((Gr.refl ((w3.setCell ⟨w.heap.size+2,0,none⟩ (.int .i64 0)).setCell ⟨w.heap.size+2,1,none⟩ (.int .i64 1))).alloc #[.int .i64 1] 3) (World.block_lt_of_cell? _ _ c2')).trans c2'
   have hfin:Hid (∃ B1 B2 B3 B4,B1=w.heap.size/\B2=w.heap.size+1/\B3=w.heap.size+2/\B4=w.heap.size+3/\Ah z true fc b f 0 (ahS true) (ahM true f) B1 B2 B3 B4 Bp (((w3.setCell ⟨w.heap.size+2,0,none⟩ (.int .i64 0)).setCell ⟨w.heap.size+2,1,none⟩ (.int .i64 1)).alloc (.cells #[.int .i64 2] 3))/\(∀ k,(k=B1\/k=B2\/k=B3\/k=B4)->Far w.heap.size k (((w3.setCell ⟨w.heap.size+2,0,none⟩ (.int .i64 0)).setCell ⟨w.heap.size+2,1,none⟩ (.int .i64 1)).alloc (.cells #[.int .i64 2] 3)))/\Gr w (((w3.setCell ⟨w.heap.size+2,0,none⟩ (.int .i64 0)).setCell ⟨w.heap.size+2,1,none⟩ (.int .i64 1)).alloc (.cells #[.int .i64 2] 3))):=hide (by
    have hga:Gr ((w3.setCell ⟨w.heap.size+2,0,none⟩ (.int .i64 0)).setCell ⟨w.heap.size+2,1,none⟩ (.int .i64 1)) (((w3.setCell ⟨w.heap.size+2,0,none⟩ (.int .i64 0)).setCell ⟨w.heap.size+2,1,none⟩ (.int .i64 1)).alloc (.cells #[.int .i64 2] 3)):=(Gr.refl _).alloc _ _;have e4:=World.alloc_heap_new ((w3.setCell ⟨w.heap.size+2,0,none⟩ (.int .i64 0)).setCell ⟨w.heap.size+2,1,none⟩ (.int .i64 1)) (.cells #[.int .i64 2] 3);rw [hs4] at e4;rw [unhide hmo];exact ⟨_,_,_,_,rfl,rfl,rfl,rfl,Ah.of (h.gr (Gr.trans hgs hga)) ((Below.block hga _ (Array.getElem?_eq_some_iff.1 k1).1).trans k1) ((Below.block hga _ (Array.getElem?_eq_some_iff.1 k2).1).trans k2) ((Below.block hga _ (Array.getElem?_eq_some_iff.1 hx3).1).trans hx3) e4,(by rintro k (rfl|rfl|rfl|rfl)<;>first|exact far_of (by omega) (by decide) e4|exact far_of (by omega) (by decide) ((Below.block hga _ (Array.getElem?_eq_some_iff.1 k1).1).trans k1)|exact far_of (by omega) (by decide) ((Below.block hga _ (Array.getElem?_eq_some_iff.1 k2).1).trans k2)|exact far_of (by omega) (by decide) ((Below.block hga _ (Array.getElem?_eq_some_iff.1 hx3).1).trans hx3)),Gr.trans hgs hga⟩)
   clear hm hmo k1 k2 hx3 h1 h2;go_wp2_with fail;go_ret;obtain ⟨B1,B2,B3,B4,rfl,rfl,rfl,rfl,r1,r2⟩:=unhide hfin;exact ⟨_,_,_,_,rfl,r1,r2⟩
  ·have hmb:((f:Int)/8==1)=false:=by rw [beq_eq_false_iff_ne];omega
   have hmo:Hid (ahM true f=1):=hide (by unfold ahM;simp [hm]);obtain ⟨o1,o2⟩:=two_open h3;obtain ⟨o3,o4⟩:=two_cells h3;have hx3:=set_two (x':=.int .i64 0) (y':=.int .i64 1) h3;have fs:Fr (fun k _=>k≠w.heap.size+2) w3 ((w3.setCell ⟨w.heap.size+2,0,none⟩ (.int .i64 0)).setCell ⟨w.heap.size+2,1,none⟩ (.int .i64 1)):=((Fr.refl _ _).setCell _ (fun o _ q=>q rfl)).setCell _ (fun o _ q=>q rfl);have hgs:Gr w ((w3.setCell ⟨w.heap.size+2,0,none⟩ (.int .i64 0)).setCell ⟨w.heap.size+2,1,none⟩ (.int .i64 1)):=Below.setCell (Below.setCell hg3 (show w.heap.size<=w.heap.size+2 by omega) _) (show w.heap.size<=w.heap.size+2 by omega) _;have hs4:((w3.setCell ⟨w.heap.size+2,0,none⟩ (.int .i64 0)).setCell ⟨w.heap.size+2,1,none⟩ (.int .i64 1)).heap.size=w.heap.size+3:=by simp [World.setCell,h4]
   have k1:=fs.same _ _ h1 (by omega);have k2:=fs.same _ _ h2 (by omega);have c2':=(cell_of_box_l k2).1;have c2a:=(Below.cell ((Gr.refl ((w3.setCell ⟨w.heap.size+2,0,none⟩ (.int .i64 0)).setCell ⟨w.heap.size+2,1,none⟩ (.int .i64 1))).alloc #[.int .i64 1] 3) (World.block_lt_of_cell? _ _ c2')).trans c2'
   have hfin:Hid (∃ B1 B2 B3 B4,B1=w.heap.size/\B2=w.heap.size+1/\B3=w.heap.size+2/\B4=w.heap.size+3/\Ah z true fc b f 0 (ahS true) (ahM true f) B1 B2 B3 B4 Bp (((w3.setCell ⟨w.heap.size+2,0,none⟩ (.int .i64 0)).setCell ⟨w.heap.size+2,1,none⟩ (.int .i64 1)).alloc (.cells #[.int .i64 1] 3))/\(∀ k,(k=B1\/k=B2\/k=B3\/k=B4)->Far w.heap.size k (((w3.setCell ⟨w.heap.size+2,0,none⟩ (.int .i64 0)).setCell ⟨w.heap.size+2,1,none⟩ (.int .i64 1)).alloc (.cells #[.int .i64 1] 3)))/\Gr w (((w3.setCell ⟨w.heap.size+2,0,none⟩ (.int .i64 0)).setCell ⟨w.heap.size+2,1,none⟩ (.int .i64 1)).alloc (.cells #[.int .i64 1] 3))):=hide (by
    have hga:Gr ((w3.setCell ⟨w.heap.size+2,0,none⟩ (.int .i64 0)).setCell ⟨w.heap.size+2,1,none⟩ (.int .i64 1)) (((w3.setCell ⟨w.heap.size+2,0,none⟩ (.int .i64 0)).setCell ⟨w.heap.size+2,1,none⟩ (.int .i64 1)).alloc (.cells #[.int .i64 1] 3)):=(Gr.refl _).alloc _ _;have e4:=World.alloc_heap_new ((w3.setCell ⟨w.heap.size+2,0,none⟩ (.int .i64 0)).setCell ⟨w.heap.size+2,1,none⟩ (.int .i64 1)) (.cells #[.int .i64 1] 3);rw [hs4] at e4;rw [unhide hmo];exact ⟨_,_,_,_,rfl,rfl,rfl,rfl,Ah.of (h.gr (Gr.trans hgs hga)) ((Below.block hga _ (Array.getElem?_eq_some_iff.1 k1).1).trans k1) ((Below.block hga _ (Array.getElem?_eq_some_iff.1 k2).1).trans k2) ((Below.block hga _ (Array.getElem?_eq_some_iff.1 hx3).1).trans hx3) e4,(by rintro k (rfl|rfl|rfl|rfl)<;>first|exact far_of (by omega) (by decide) e4|exact far_of (by omega) (by decide) ((Below.block hga _ (Array.getElem?_eq_some_iff.1 k1).1).trans k1)|exact far_of (by omega) (by decide) ((Below.block hga _ (Array.getElem?_eq_some_iff.1 k2).1).trans k2)|exact far_of (by omega) (by decide) ((Below.block hga _ (Array.getElem?_eq_some_iff.1 hx3).1).trans hx3)),Gr.trans hgs hga⟩)
   clear hm hmo k1 k2 hx3 h1 h2;go_wp2_with fail;go_ret;obtain ⟨B1,B2,B3,B4,rfl,rfl,rfl,rfl,r1,r2⟩:=unhide hfin;exact ⟨_,_,_,_,rfl,r1,r2⟩
theorem castlings_mk {z:Nat->UInt8} {wh:Bool} {fc:Nat->Bool} {b:Int} {Bp:Nat} (k:Nat) (w:World) (h:Ps z wh fc b Bp w) (hS:StTab w) :
  Calls Tryz.prog 271 #[.pointer (some ⟨Bp,0,none⟩),.int .i64 (k:Int)] w fun e w'=>∃ B1 B2 B3,e=.returned (.func (.func 316) #[] #[.pointer (some ⟨B1,0,none⟩),.pointer (some ⟨B2,0,none⟩),.pointer (some ⟨B3,0,none⟩)])/\Cg z wh fc b k B1 B2 B3 Bp w'/\Far w.heap.size B1 w'/\Far w.heap.size B2 w'/\Far w.heap.size B3 w'/\Gr w w':=by
 have hmf:∀ (fn:Fn) (first cap:Array Value) (w:World),(Instr.makeFunc fn first cap).run Tryz.prog w=.ok (.func fn first cap) w:=fun _ _ _ _=>rfl
 have key:∀ m:Int,m=(cgF wh:Int)->Hid (∃ B1 B2 B3,B1=w.heap.size/\B3=w.heap.size+1/\B2=w.heap.size+2/\Cg z wh fc b k B1 B2 B3 Bp (((w.alloc (.cells #[.pointer (some ⟨Bp,0,none⟩)] 229)).alloc (.cells #[.int .i64 (k:Int)] 3)).alloc (.cells #[.int .i64 m] 3))/\Far w.heap.size B1 (((w.alloc (.cells #[.pointer (some ⟨Bp,0,none⟩)] 229)).alloc (.cells #[.int .i64 (k:Int)] 3)).alloc (.cells #[.int .i64 m] 3))/\Far w.heap.size B2 (((w.alloc (.cells #[.pointer (some ⟨Bp,0,none⟩)] 229)).alloc (.cells #[.int .i64 (k:Int)] 3)).alloc (.cells #[.int .i64 m] 3))/\Far w.heap.size B3 (((w.alloc (.cells #[.pointer (some ⟨Bp,0,none⟩)] 229)).alloc (.cells #[.int .i64 (k:Int)] 3)).alloc (.cells #[.int .i64 m] 3))/\Gr w (((w.alloc (.cells #[.pointer (some ⟨Bp,0,none⟩)] 229)).alloc (.cells #[.int .i64 (k:Int)] 3)).alloc (.cells #[.int .i64 m] 3))):=fun m hm=>hide (by
  obtain ⟨h1,h2,h3,h4⟩:=heapThree w (.cells #[.pointer (some ⟨Bp,0,none⟩)] 229) (.cells #[.int .i64 (k:Int)] 3) (.cells #[.int .i64 m] 3);have hg3:Gr w (((w.alloc (.cells #[.pointer (some ⟨Bp,0,none⟩)] 229)).alloc (.cells #[.int .i64 (k:Int)] 3)).alloc (.cells #[.int .i64 m] 3)):=(((Gr.refl w).alloc _ _).alloc _ _).alloc _ _;exact ⟨_,_,_,rfl,rfl,rfl,⟨(cell_of_box_l h1).1,by rw [<-hm];exact (cell_of_box_l h3).1,(cell_of_box_l h2).1,h.gr hg3,hS.gr hg3⟩,far_of (by omega) (by decide) h1,far_of (by omega) (by decide) h3,far_of (by omega) (by decide) h2,hg3⟩)
 obtain ⟨h1,h2,h3,h4⟩:=heapThree w (.cells #[.pointer (some ⟨Bp,0,none⟩)] 229) (.cells #[.int .i64 (k:Int)] 3) (.cells #[.int .i64 2] 3);have hg3:Gr w (((w.alloc (.cells #[.pointer (some ⟨Bp,0,none⟩)] 229)).alloc (.cells #[.int .i64 (k:Int)] 3)).alloc (.cells #[.int .i64 2] 3)):=(((Gr.refl w).alloc _ _).alloc _ _).alloc _ _;have c1:=(cell_of_box_l h1).1;have c2:=(cell_of_box_l h2).1;have cw:=(h.gr hg3).wh;cases wh
 ·have hfin:=key 2 rfl;clear key h1 h2 h3 hg3;go_enter Tryz.func271,Tryz.ntmps271;go_wp2;go_ret;obtain ⟨B1,B2,B3,rfl,rfl,rfl,r1,r2⟩:=unhide hfin;exact ⟨_,_,_,rfl,r1,r2⟩
 ·have hfin:=key 0 rfl;clear key h1 h2 h3 hg3;go_enter Tryz.func271,Tryz.ntmps271;go_wp2;go_ret;obtain ⟨B1,B2,B3,rfl,rfl,rfl,r1,r2⟩:=unhide hfin;exact ⟨_,_,_,rfl,r1,r2⟩
def tgL (z:Nat->UInt8) (wh:Bool) (fc:Nat->Bool) (b:Int) (f:Nat):List Nat :=
 (attU z f 16).filter (mayB z wh b f)++(if pawnB (z f) then ahT z (ahM wh f) (wkL z (0,ahS wh) f) else if kingB (z f) then cgR z wh fc f++cgM z wh fc f else [])
theorem att_lt {z:Nat->UInt8} {f x:Nat} (hf:f<64) (h:x∈attU z f 16):x<64:=by
 unfold attU at h;obtain ⟨k,_,hk⟩:=List.mem_flatMap.1 h;unfold attS at hk;split at hk
 ·split at hk
  ·exact wk_lt hf hk
  ·exact wk_lt hf (List.mem_of_mem_take hk)
 ·cases hk
theorem ahM_le (wh:Bool) (f:Nat):ahM wh f<=2:=by
 unfold ahM;by_cases h:f/8=(if wh then 1 else 6)<;>simp [h]
def Kept (Bp:Nat) (w w':World) (C:Nat->Prop):Prop:=∀ k,C k->k=Bp\/k=0\/Far w.heap.size k w'
theorem targets_any {z:Nat->UInt8} {wh:Bool} {fc:Nat->Bool} {b:Int} {Bp:Nat} (f:Nat) (hf:f<64) (hh:kingB (z f)=true->(fc (cgF wh)||fc (cgF wh+1))=true->f=4\/f=60) (w:World) (h:Ps z wh fc b Bp w) (hS:StTab w) :
  Calls Tryz.prog 224 #[.pointer (some ⟨Bp,0,none⟩),.int .i64 (f:Int)] w fun e w'=>∃ gi lb C,e=.returned (.func (.func gi) #[] lb)/\Gr w w'/\(∀ args w,(callFunc gi args).run Tryz.prog w=.ok (.enter gi args) w)/\(∀ k,C k->k<w'.heap.size)/\Kept Bp w w' C/\∀ T,OnlyMv T->It Tryz.prog gi lb encI T C (tgL z wh fc b f) w':=by
 have hmf:∀ (fn:Fn) (first cap:Array Value) (w:World),(Instr.makeFunc fn first cap).run Tryz.prog w=.ok (.func fn first cap) w:=fun _ _ _ _=>rfl
 obtain ⟨h1,h2⟩:=heapTwo w (.cells #[.pointer (some ⟨Bp,0,none⟩)] 229) (.cells #[.int .i64 (f:Int)] 3);have hg2:Gr w ((w.alloc (.cells #[.pointer (some ⟨Bp,0,none⟩)] 229)).alloc (.cells #[.int .i64 (f:Int)] 3)):=((Gr.refl w).alloc _ _).alloc _ _;have hs2:((w.alloc (.cells #[.pointer (some ⟨Bp,0,none⟩)] 229)).alloc (.cells #[.int .i64 (f:Int)] 3)).heap.size=w.heap.size+2:=by simp
 have hp2:=h.gr hg2;go_enter Tryz.func224,Tryz.ntmps224;go_upto_region 1 with fail;generalize ((w.alloc (.cells #[.pointer (some ⟨Bp,0,none⟩)] 229)).alloc (.cells #[.int .i64 (f:Int)] 3))=w2 at h1 h2 hg2 hs2 hp2 ⊢;have c1:=(cell_of_box_l h1).1;have c2:=(cell_of_box_l h2).1;have hatt:=hide (fun W g=>attacks_mk (z:=z) (A:=Bp) hf W (hp2.gr g).bd);have honl:=hide (fun g lb W=>onlyI_mk g 267 lb #[.pointer (some ⟨w.heap.size,0,none⟩),.pointer (some ⟨w.heap.size+1,0,none⟩)] W);have hin:Hid (∀ w',Gr w2 w'->Gr w2 w'/\w'.cell? ⟨w.heap.size,0,none⟩=some (.pointer (some ⟨Bp,0,none⟩))/\w'.cell? ⟨w.heap.size+1,0,none⟩=some (.int .i64 (f:Int))):=hide (fun w' g=>⟨g,(Below.cell g (World.block_lt_of_cell? _ _ c1)).trans c1,(Below.cell g (World.block_lt_of_cell? _ _ c2)).trans c2⟩);go_region_held3 (fun w'=>Gr w2 w'/\w'.cell? ⟨w.heap.size,0,none⟩=some (.pointer (some ⟨Bp,0,none⟩))/\w'.cell? ⟨w.heap.size+1,0,none⟩=some (.int .i64 (f:Int))) (first|exact unhide hin _ (Gr.refl _).drew|exact unhide hin _ (by assumption)) (first|(go_at_call 266;refine (unhide hatt _ (heldL (by assumption))).mono ?_;rintro e w4 ⟨rfl,a1,a2,a3,ga,sa⟩;have hg4:=Gr.trans (heldL (by assumption)) ga)|(go_at_call 265;refine (unhide honl _ _ _).mono ?_;rintro e w5 ⟨rfl,o1,o2,go⟩;have hg5:=Gr.trans (heldL (by assumption)) go))
 all_goals
  have sd:w2.drew.heap.size=w.heap.size+2:=hs2;have hs4:w4.heap.size=w.heap.size+5:=by rw [sa,sd]
  rw [sd] at a1 a2 a3;rw [hs4] at o1 o2;have b1:=(Below.block go _ (Array.getElem?_eq_some_iff.1 a1).1).trans a1;have b2:=(Below.block go _ (Array.getElem?_eq_some_iff.1 a2).1).trans a2;have b3:=(Below.block go _ (Array.getElem?_eq_some_iff.1 a3).1).trans a3;have b4:=(Below.block hg5 _ (Array.getElem?_eq_some_iff.1 h1).1).trans h1;have b5:=(Below.block hg5 _ (Array.getElem?_eq_some_iff.1 h2).1).trans h2;have hgw:Gr w w5:=Gr.trans hg2 hg5;have hp5:=h.gr hgw;have hS5:=hS.gr hgw;have hs5:w.heap.size+7<=w5.heap.size:=by have:=(Array.getElem?_eq_some_iff.1 o2).1;omega
  have hfar:Hid (∀ k,w.heap.size<=k->k<w.heap.size+7->Far w.heap.size k w5):=hide (fun k k1 k2=>by
   have:k=w.heap.size\/k=w.heap.size+1\/k=w.heap.size+2\/k=w.heap.size+2+1\/k=w.heap.size+2+2\/k=w.heap.size+5\/k=w.heap.size+5+1:=by omega
   rcases this with rfl|rfl|rfl|rfl|rfl|rfl|rfl
   ·exact far_of k1 (by decide) b4
   ·exact far_of k1 (by decide) b5
   ·exact far_of k1 (by decide) b1
   ·exact far_of k1 (by decide) b2
   ·exact far_of k1 (by decide) b3
   ·exact far_of k1 (by decide) o1
   ·exact far_of k1 (by decide) o2)
  have hIt:Hid (∀ T,OnlyMv T->It Tryz.prog 312 #[.pointer (some ⟨w.heap.size+2+3,0,none⟩),.pointer (some ⟨w.heap.size+2+3+1,0,none⟩)] encI T (fun k=>(w.heap.size<=k/\k<w.heap.size+7)\/k=Bp\/k=0) ((attU z f 16).filter (mayB z wh b f)) w5):=hide (fun T hT=>by
   have hatI:=(attacks_it z f hf (w.heap.size+2+2) (w.heap.size+2) (w.heap.size+2+1) Bp T hT w5 (cell_of_box_l b3).1 (cell_of_box_l b1).1 (cell_of_box_l b2).1 hp5.bd hS5).mono (C':=fun k=>(w.heap.size<=k/\k<w.heap.size+7)\/k=Bp\/k=0) (by
    rintro k (rfl|rfl|rfl|rfl|rfl)
    ·exact .inl ⟨by omega,by omega⟩
    ·exact .inl ⟨by omega,by omega⟩
    ·exact .inl ⟨by omega,by omega⟩
    ·exact .inr (.inl rfl)
    ·exact .inr (.inr rfl))
   refine (onlyI_it hatI (enters_of Tryz.func313 (by kernel_rfl) rfl) (enters_of Tryz.func267 (by kernel_rfl) rfl) hT ?_ (w.heap.size+2+3) (w.heap.size+2+3+1) (mayB z wh b f) o1 o2 ?_).mono ?_
   ·rintro k (hk|rfl|rfl)
    ·omega
    ·exact hp5.lt
    ·exact hS5.2
   ·intro x hx W fW;exact manN_any (hp5.fr fW (fun _ _=>.inr (.inl rfl))) w.heap.size (w.heap.size+1) f x hf (att_lt hf hx) (fW.cell (cell_of_box_l b4).1 (fun _ _=>.inl ⟨show w.heap.size<=w.heap.size by omega,show w.heap.size<w.heap.size+7 by omega⟩)) (fW.cell (cell_of_box_l b5).1 (fun _ _=>.inl ⟨show w.heap.size<=w.heap.size+1 by omega,show w.heap.size+1<w.heap.size+7 by omega⟩))
   ·rintro k (hk|rfl|rfl)
    ·exact hk
    ·exact .inl ⟨by omega,by omega⟩
    ·exact .inl ⟨by omega,by omega⟩)
  have htg:Hid (tgL z wh fc b f=(attU z f 16).filter (mayB z wh b f)++(if pawnB (z f) then ahT z (ahM wh f) (wkL z (0,ahS wh) f) else if kingB (z f) then cgR z wh fc f++cgM z wh fc f else [])):=hide rfl;have d1:=(cell_of_box_l b4).1;have d2:=(cell_of_box_l b5).1;have d3:=hp5.bd f hf;have hf0:(0:Int)<=(f:Int):=by omega
  have hf1:(f:Int)<64:=by omega
  have hpw:=hide (fun W=>isPawn_any (z f) W);have hkg:=hide (fun W=>isKing_any (z f) W);have hgw':=hide hgw;have hp5':=hide hp5;have hS5':=hide hS5;clear hin honl hatt a1 a2 a3 ga sa o1 o2 go hg4 hg5 b1 b2 b3 b4 b5 c1 c2 h1 h2 hg2 hs2 hp2 h hS hgw hp5 hS5 hmf hs4 sd;generalize pawnB (z f)=pw at hpw htg;cases pw
  ·generalize hkb:kingB (z f)=kb at hkg htg hh;cases kb
   ·have htg2:Hid (tgL z wh fc b f=(attU z f 16).filter (mayB z wh b f)):=hide (by rw [unhide htg];simp);go_upto_region 2 with fail;go_quiet ((go_at_call 121;exact Calls.quiet_of_same (unhide hpw _)));have hgq:Hid (Gr w5 (w5.drewN nq)):=hide ((Gr.refl w5).drewN _);have e1:(w5.drewN nq).cell? ⟨w.heap.size,0,none⟩=some (.pointer (some ⟨Bp,0,none⟩)):=d1;have e2:(w5.drewN nq).cell? ⟨w.heap.size+1,0,none⟩=some (.int .i64 (f:Int)):=d2;have e3:(w5.drewN nq).cell? ⟨Bp,f,none⟩=some (.int .u8 ((z f).toNat:Int)):=d3;generalize w5.drewN nq=wq at hgq e1 e2 e3 ⊢;clear d1 d2 d3;go_upto_region 4 with fail;go_quiet ((go_at_call 120;exact Calls.quiet_of_same (unhide hkg _)));go_wp2;go_ret;refine ⟨_,_,_,rfl,Gr.trans (unhide hgw') (Gr.trans (unhide hgq) ((Gr.refl wq).drewN _)),enters_of Tryz.func312 (by kernel_rfl) rfl,?_,?_,fun T hT=>by rw [unhide htg2];exact (unhide hIt T hT).gr (Gr.trans (unhide hgq) ((Gr.refl wq).drewN _))⟩
    ·rintro k (hk|rfl|rfl)
     ·exact Nat.lt_of_lt_of_le (Nat.lt_of_lt_of_le hk.2 hs5) (Below.size (Gr.trans (unhide hgq) ((Gr.refl wq).drewN _)))
     ·exact Nat.lt_of_lt_of_le (unhide hp5').lt (Below.size (Gr.trans (unhide hgq) ((Gr.refl wq).drewN _)))
     ·exact Nat.lt_of_lt_of_le (unhide hS5').2 (Below.size (Gr.trans (unhide hgq) ((Gr.refl wq).drewN _)))
    ·rintro k (hk|rfl|rfl)
     ·obtain ⟨q1,c,ty,fr,q2,q3⟩:=unhide hfar k hk.1 hk.2;exact .inr (.inr ⟨q1,c,ty,fr,q2,(Below.block (Gr.trans (unhide hgq) ((Gr.refl wq).drewN _)) _ (Array.getElem?_eq_some_iff.1 q3).1).trans q3⟩)
     ·exact .inl rfl
     ·exact .inr (.inl rfl)
   ·have hcs:=hide (fun W hp hS=>castlings_mk (z:=z) (wh:=wh) (fc:=fc) (b:=b) (Bp:=Bp) f W hp hS);have htg2:Hid (tgL z wh fc b f=(attU z f 16).filter (mayB z wh b f)++(cgR z wh fc f++cgM z wh fc f)):=hide (by rw [unhide htg];simp);go_upto_region 2 with fail;go_quiet ((go_at_call 121;exact Calls.quiet_of_same (unhide hpw _)));have hgq:Hid (Gr w5 (w5.drewN nq)):=hide ((Gr.refl w5).drewN _);have e1:(w5.drewN nq).cell? ⟨w.heap.size,0,none⟩=some (.pointer (some ⟨Bp,0,none⟩)):=d1;have e2:(w5.drewN nq).cell? ⟨w.heap.size+1,0,none⟩=some (.int .i64 (f:Int)):=d2;have e3:(w5.drewN nq).cell? ⟨Bp,f,none⟩=some (.int .u8 ((z f).toNat:Int)):=d3;generalize w5.drewN nq=wq at hgq e1 e2 e3 ⊢;clear d1 d2 d3;go_upto_region 4 with fail;go_quiet ((go_at_call 120;exact Calls.quiet_of_same (unhide hkg _)))
    go_wp2_with (first
     | (go_at_call 271;refine (unhide hcs _ ((unhide hp5').gr (Gr.trans (unhide hgq) ((Gr.refl wq).drewN _))) ((unhide hS5').gr (Gr.trans (unhide hgq) ((Gr.refl wq).drewN _)))).mono ?_;rintro e w6 ⟨B1,B2,B3,rfl,hCg,f1,f2,f3,hg6⟩)
     | (go_at_call 269;refine (chain_mk _ _ rfl).mono ?_;rintro e w9 ⟨rfl,x9,hg9⟩))
    go_ret;have hx8:=World.alloc_heap_new w6 (.cells #[.func (.func 312) #[] #[.pointer (some ⟨w.heap.size+2+3,0,none⟩),.pointer (some ⟨w.heap.size+2+3+1,0,none⟩)],.func (.func 316) #[] #[.pointer (some ⟨B1,0,none⟩),.pointer (some ⟨B2,0,none⟩),.pointer (some ⟨B3,0,none⟩)]] 207);have hs8:=World.size_alloc w6 (.cells #[.func (.func 312) #[] #[.pointer (some ⟨w.heap.size+2+3,0,none⟩),.pointer (some ⟨w.heap.size+2+3+1,0,none⟩)],.func (.func 316) #[] #[.pointer (some ⟨B1,0,none⟩),.pointer (some ⟨B2,0,none⟩),.pointer (some ⟨B3,0,none⟩)]] 207);have hg68:Gr w6 (w6.alloc (.cells #[.func (.func 312) #[] #[.pointer (some ⟨w.heap.size+2+3,0,none⟩),.pointer (some ⟨w.heap.size+2+3+1,0,none⟩)],.func (.func 316) #[] #[.pointer (some ⟨B1,0,none⟩),.pointer (some ⟨B2,0,none⟩),.pointer (some ⟨B3,0,none⟩)]] 207)):=(Gr.refl _).alloc _ _;generalize (w6.alloc (.cells #[.func (.func 312) #[] #[.pointer (some ⟨w.heap.size+2+3,0,none⟩),.pointer (some ⟨w.heap.size+2+3+1,0,none⟩)],.func (.func 316) #[] #[.pointer (some ⟨B1,0,none⟩),.pointer (some ⟨B2,0,none⟩),.pointer (some ⟨B3,0,none⟩)]] 207))=w8 at hx8 hs8 hg68 x9 hg9;have hg69:=Gr.trans hg68 hg9;have hg56:Gr w5 w6:=Gr.trans (Gr.trans (unhide hgq) ((Gr.refl wq).drewN _)) hg6;have hg59:=Gr.trans hg56 hg69;have x8:=(Below.block hg9 _ (Array.getElem?_eq_some_iff.1 hx8).1).trans hx8;rw [hs8] at x9;have h56:=Below.size hg56;have h69:=Below.size hg69;have hp9:=(unhide hp5').gr hg59;have hS9:=(unhide hS5').gr hg59;have hlt9:w6.heap.size+1<w9.heap.size:=(Array.getElem?_eq_some_iff.1 x9).1
    have far6:∀ k,(k=B1\/k=B2\/k=B3)->Far w.heap.size k w6:=fun k hk=>by
     rcases hk with rfl|rfl|rfl
     ·exact ⟨Nat.le_trans (Nat.le_trans (show w.heap.size<=w5.heap.size by omega) (Below.size (unhide hgq))) f1.1,f1.2⟩
     ·exact ⟨Nat.le_trans (Nat.le_trans (show w.heap.size<=w5.heap.size by omega) (Below.size (unhide hgq))) f2.1,f2.2⟩
     ·exact ⟨Nat.le_trans (Nat.le_trans (show w.heap.size<=w5.heap.size by omega) (Below.size (unhide hgq))) f3.1,f3.2⟩
    have farg:∀ k {A B:World},Far w.heap.size k A->Gr A B->Far w.heap.size k B:=fun k A B h g=>⟨h.1,by obtain ⟨c,ty,fr,q1,q2⟩:=h.2;exact ⟨c,ty,fr,q1,(Below.block g _ (Array.getElem?_eq_some_iff.1 q2).1).trans q2⟩⟩
    have farlt:∀ k {A:World},Far w.heap.size k A->k<A.heap.size:=fun k A h=>by obtain ⟨c,ty,fr,q1,q2⟩:=h.2;exact (Array.getElem?_eq_some_iff.1 q2).1
    have hCb:∀ k,((((w.heap.size<=k/\k<w.heap.size+7)\/k=Bp\/k=0)\/(k=B1\/k=B2\/k=B3)))->k<w9.heap.size:=by
     rintro k ((hk|rfl|rfl)|hk)
     ·exact farlt k (farg k (unhide hfar k hk.1 hk.2) hg59)
     ·exact hp9.lt
     ·exact hS9.2
     ·exact farlt k (farg k (far6 k hk) hg69)
    refine ⟨314,#[.pointer (some ⟨w6.heap.size+1,0,none⟩)],fun k=>((((w.heap.size<=k/\k<w.heap.size+7)\/k=Bp\/k=0)\/(k=B1\/k=B2\/k=B3)))\/k=w6.heap.size+1\/k=w6.heap.size,rfl,Gr.trans (unhide hgw') hg59,enters_of Tryz.func314 (by kernel_rfl) rfl,?_,?_,fun T hT=>?_⟩
    ·rintro k (hk|rfl|rfl)
     ·exact hCb k hk
     ·exact hlt9
     ·omega
    ·rintro k (((hk|rfl|rfl)|hk)|rfl|rfl)
     ·exact .inr (.inr (farg k (unhide hfar k hk.1 hk.2) hg59))
     ·exact .inl rfl
     ·exact .inr (.inl rfl)
     ·exact .inr (.inr (farg k (far6 k hk) hg69))
     ·exact .inr (.inr (far_of (by omega) (by decide) x9))
     ·exact .inr (.inr (far_of (by omega) (by decide) x8))
    ·rw [unhide htg2];refine chain_it (gN:=fun k=>if k=0 then 312 else 316) (lbN:=fun k=>if k=0 then #[.pointer (some ⟨w.heap.size+2+3,0,none⟩),.pointer (some ⟨w.heap.size+2+3+1,0,none⟩)] else #[.pointer (some ⟨B1,0,none⟩),.pointer (some ⟨B2,0,none⟩),.pointer (some ⟨B3,0,none⟩)]) (xsN:=fun k=>if k=0 then (attU z f 16).filter (mayB z wh b f) else (cgR z wh fc f++cgM z wh fc f)) (C:=fun k=>((((w.heap.size<=k/\k<w.heap.size+7)\/k=Bp\/k=0)\/(k=B1\/k=B2\/k=B3)))) ?_ ?_ hT hCb (w6.heap.size+1) w6.heap.size (cell_of_box_l x9).1 ?_
     ·intro k hk;rcases (show k=0\/k=1 by omega) with rfl|rfl
      ·exact ((unhide hIt T hT).gr hg59).mono (fun k hk=>.inl hk)
      ·exact ((castlings_it hf (hh (by trivial)) T w9 (hCg.gr hg69)).mono (by rintro k (rfl|rfl|rfl|rfl|rfl)<;>simp))
     ·intro k hk;rcases (show k=0\/k=1 by omega) with rfl|rfl
      ·exact enters_of Tryz.func312 (by kernel_rfl) rfl
      ·exact enters_of Tryz.func316 (by kernel_rfl) rfl
     ·intro k hk;rcases (show k=0\/k=1 by omega) with rfl|rfl
      ·exact (two_cells x8).1
      ·exact (two_cells x8).2
  ·have hah:=hide (fun W hp=>ahead_mk (z:=z) (wh:=wh) (fc:=fc) (b:=b) (Bp:=Bp) f hf W hp);have htg2:Hid (tgL z wh fc b f=(attU z f 16).filter (mayB z wh b f)++ahT z (ahM wh f) (wkL z (0,ahS wh) f)):=hide (by rw [unhide htg];simp);go_upto_region 2 with fail;go_quiet ((go_at_call 121;exact Calls.quiet_of_same (unhide hpw _)))
   go_wp2_with (first
    | (go_at_call 270;refine (unhide hah _ ((unhide hp5').gr ((Gr.refl w5).drewN _))).mono ?_;rintro e w6 ⟨B1,B2,B3,B4,rfl,hAh,hfA,hg6⟩)
    | (go_at_call 269;refine (chain_mk _ _ rfl).mono ?_;rintro e w9 ⟨rfl,x9,hg9⟩))
   go_ret;have hx8:=World.alloc_heap_new w6 (.cells #[.func (.func 312) #[] #[.pointer (some ⟨w.heap.size+2+3,0,none⟩),.pointer (some ⟨w.heap.size+2+3+1,0,none⟩)],.func (.func 315) #[] #[.pointer (some ⟨B1,0,none⟩),.pointer (some ⟨B2,0,none⟩),.pointer (some ⟨B3,0,none⟩),.pointer (some ⟨B4,0,none⟩)]] 207);have hs8:=World.size_alloc w6 (.cells #[.func (.func 312) #[] #[.pointer (some ⟨w.heap.size+2+3,0,none⟩),.pointer (some ⟨w.heap.size+2+3+1,0,none⟩)],.func (.func 315) #[] #[.pointer (some ⟨B1,0,none⟩),.pointer (some ⟨B2,0,none⟩),.pointer (some ⟨B3,0,none⟩),.pointer (some ⟨B4,0,none⟩)]] 207);have hg68:Gr w6 (w6.alloc (.cells #[.func (.func 312) #[] #[.pointer (some ⟨w.heap.size+2+3,0,none⟩),.pointer (some ⟨w.heap.size+2+3+1,0,none⟩)],.func (.func 315) #[] #[.pointer (some ⟨B1,0,none⟩),.pointer (some ⟨B2,0,none⟩),.pointer (some ⟨B3,0,none⟩),.pointer (some ⟨B4,0,none⟩)]] 207)):=(Gr.refl _).alloc _ _;generalize (w6.alloc (.cells #[.func (.func 312) #[] #[.pointer (some ⟨w.heap.size+2+3,0,none⟩),.pointer (some ⟨w.heap.size+2+3+1,0,none⟩)],.func (.func 315) #[] #[.pointer (some ⟨B1,0,none⟩),.pointer (some ⟨B2,0,none⟩),.pointer (some ⟨B3,0,none⟩),.pointer (some ⟨B4,0,none⟩)]] 207))=w8 at hx8 hs8 hg68 x9 hg9;have hg69:=Gr.trans hg68 hg9;have hg56:Gr w5 w6:=Gr.trans ((Gr.refl w5).drewN _) hg6;have hg59:=Gr.trans hg56 hg69;have x8:=(Below.block hg9 _ (Array.getElem?_eq_some_iff.1 hx8).1).trans hx8;rw [hs8] at x9;have h56:=Below.size hg56;have h69:=Below.size hg69;have hp9:=(unhide hp5').gr hg59;have hS9:=(unhide hS5').gr hg59;have hlt9:w6.heap.size+1<w9.heap.size:=(Array.getElem?_eq_some_iff.1 x9).1
   have far6:∀ k,(k=B1\/k=B2\/k=B3\/k=B4)->Far w.heap.size k w6:=fun k hk=>by
    obtain ⟨q1,q2⟩:=hfA k hk;exact ⟨by have:(w5.drewN 0).heap.size=w5.heap.size:=rfl;exact Nat.le_trans (show w.heap.size<=w5.heap.size by omega) q1,q2⟩
   have farg:∀ k {A B:World},Far w.heap.size k A->Gr A B->Far w.heap.size k B:=fun k A B h g=>⟨h.1,by obtain ⟨c,ty,fr,q1,q2⟩:=h.2;exact ⟨c,ty,fr,q1,(Below.block g _ (Array.getElem?_eq_some_iff.1 q2).1).trans q2⟩⟩
   have farlt:∀ k {A:World},Far w.heap.size k A->k<A.heap.size:=fun k A h=>by obtain ⟨c,ty,fr,q1,q2⟩:=h.2;exact (Array.getElem?_eq_some_iff.1 q2).1
   have hCb:∀ k,((((w.heap.size<=k/\k<w.heap.size+7)\/k=Bp\/k=0)\/(k=B1\/k=B2\/k=B3\/k=B4)))->k<w9.heap.size:=by
    rintro k ((hk|rfl|rfl)|hk)
    ·exact farlt k (farg k (unhide hfar k hk.1 hk.2) hg59)
    ·exact hp9.lt
    ·exact hS9.2
    ·exact farlt k (farg k (far6 k hk) hg69)
   refine ⟨314,#[.pointer (some ⟨w6.heap.size+1,0,none⟩)],fun k=>((((w.heap.size<=k/\k<w.heap.size+7)\/k=Bp\/k=0)\/(k=B1\/k=B2\/k=B3\/k=B4)))\/k=w6.heap.size+1\/k=w6.heap.size,rfl,Gr.trans (unhide hgw') hg59,enters_of Tryz.func314 (by kernel_rfl) rfl,?_,?_,fun T hT=>?_⟩
   ·rintro k (hk|rfl|rfl)
    ·exact hCb k hk
    ·exact hlt9
    ·omega
   ·rintro k (((hk|rfl|rfl)|hk)|rfl|rfl)
    ·exact .inr (.inr (farg k (unhide hfar k hk.1 hk.2) hg59))
    ·exact .inl rfl
    ·exact .inr (.inl rfl)
    ·exact .inr (.inr (farg k (far6 k hk) hg69))
    ·exact .inr (.inr (far_of (by omega) (by decide) x9))
    ·exact .inr (.inr (far_of (by omega) (by decide) x8))
   ·rw [unhide htg2];refine chain_it (gN:=fun k=>if k=0 then 312 else 315) (lbN:=fun k=>if k=0 then #[.pointer (some ⟨w.heap.size+2+3,0,none⟩),.pointer (some ⟨w.heap.size+2+3+1,0,none⟩)] else #[.pointer (some ⟨B1,0,none⟩),.pointer (some ⟨B2,0,none⟩),.pointer (some ⟨B3,0,none⟩),.pointer (some ⟨B4,0,none⟩)]) (xsN:=fun k=>if k=0 then (attU z f 16).filter (mayB z wh b f) else ahT z (ahM wh f) (wkL z (0,ahS wh) f)) (C:=fun k=>((((w.heap.size<=k/\k<w.heap.size+7)\/k=Bp\/k=0)\/(k=B1\/k=B2\/k=B3\/k=B4)))) ?_ ?_ hT hCb (w6.heap.size+1) w6.heap.size (cell_of_box_l x9).1 ?_
    ·intro k hk;rcases (show k=0\/k=1 by omega) with rfl|rfl
     ·exact ((unhide hIt T hT).gr hg59).mono (fun k hk=>.inl hk)
     ·exact ((ahead_it hf (a:=0) (c:=ahS wh) (by unfold small ahS;cases wh<;>decide) (.inr (by unfold ahS;cases wh<;>decide)) (most:=ahM wh f) (ahM_le wh f) T hT w9 (hAh.gr hg69)).mono (by rintro k (rfl|rfl|rfl|rfl|rfl)<;>simp))
    ·intro k hk;rcases (show k=0\/k=1 by omega) with rfl|rfl
     ·exact enters_of Tryz.func312 (by kernel_rfl) rfl
     ·exact enters_of Tryz.func315 (by kernel_rfl) rfl
    ·intro k hk;rcases (show k=0\/k=1 by omega) with rfl|rfl
     ·exact (two_cells x8).1
     ·exact (two_cells x8).2
end Go.Proofs.YtnfakamfmkhlbabGreatDoor.C
