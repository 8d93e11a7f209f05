import Derived.Test.YtnfakamfmkhlbabGreatDoorUm16
import Derived.Test.YtnfakamfmkhlbabGreatDoorUm12
import Derived.Test.YtnfakamfmkhlbabGreatDoorIb
import Derived.Test.YtnfakamfmkhlbabGreatDoorUm11
set_option maxRecDepth 100000
set_option maxHeartbeats 4000000
set_option linter.unusedSimpArgs false
namespace Go.Proofs.YtnfakamfmkhlbabGreatDoor.C
open Go.ChangeShapes Go.WideShapes Go.ChangeAt Go.RowKit Go.Shelf Go.Proofs.YtnfakamfmkhlbabGreatDoor.P
section
attribute [local go_sem] qd qe
def yx(wh:Bool)(f:Nat):Nat:=if f/8=(if wh then 1 else 6)then 2 else 1
def uM(wh:Bool):Int:=if wh then 1 else -1
theorem ic{W:World}{b:Nat}{x y x' y':Value}{t:TypeId}(h:W.heap[b]?=some (.cells #[x,y] t)):((W.setCell ⟨b,0,none⟩ x').setCell ⟨b,1,none⟩ y').heap[b]?=some (.cells #[x',y'] t):=by
 have e1:=qv (i:=0) (v:=x') h;have e2:=qv (i:=1) (v:=y') e1;exact e2
theorem Ah.of{z:Nat->UInt8}{wh:Bool}{fc:Nat->Bool}{b:Int}{f:Nat}{a c:Int}{most B1 B2 B3 B4 Bp:Nat}{W:World}{t1 t2 t3 t4:TypeId}(ps:Ps z wh fc b Bp W)(b1:W.heap[B1]?=some (.cells #[.pointer (some ⟨Bp,0,none⟩)] t1))(b2:W.heap[B2]?=some (.cells #[.int .i64 (f:Int)] t2))(b3:W.heap[B3]?=some (.cells #[.int .i64 a,.int .i64 c] t3))(b4:W.heap[B4]?=some (.cells #[.int .i64 (most:Int)] t4)):Ah z wh fc b f a c most B1 B2 B3 B4 Bp W :=
 ⟨(qi b1).1,(qi b2).1,(xg b3).1,(xg b3).2,(qi b4).1,ps⟩
theorem c9{V:World}{b:Nat}{x y:Value}{t:TypeId}(h:V.heap[b]?=some (.cells #[x,y] t)):V.frozen? ⟨b,0,none⟩=false/\V.frozen? ⟨b,1,none⟩=false:=by
 constructor<;>simp[World.frozen?,h]
theorem wR{z:Nat->UInt8}{wh:Bool}{fc:Nat->Bool}{b:Int}{Bp:Nat}(f:Nat)(hf:f<64)(w:World)(h:Ps z wh fc b Bp w) :
  Calls Tryz.prog 270 #[.pointer (some ⟨Bp,0,none⟩),.int .i64 (f:Int)] w fun e w'=>∃B1 B2 B3 B4,e=.returned (.func (.func 315) #[] #[.pointer (some ⟨B1,0,none⟩),.pointer (some ⟨B2,0,none⟩),.pointer (some ⟨B3,0,none⟩),.pointer (some ⟨B4,0,none⟩)])/\Ah z wh fc b f 0 (uM wh) (yx wh f) B1 B2 B3 B4 Bp w'/\(∀k,(k=B1\/k=B2\/k=B3\/k=B4)->y9 w.heap.size k w')/\Gr w w':=by
 have hmf:∀(fn:Fn)(first cap:Array Value)(w:World),(Instr.makeFunc fn first cap).run Tryz.prog w=.ok (.func fn first cap) w:=fun _ _ _ _=>rfl
 obtain⟨h1,h2,h3,h4⟩:=jG w (.cells #[.pointer (some ⟨Bp,0,none⟩)] 229) (.cells #[.int .i64 (f:Int)] 3) (.cells #[.int .i64 0,.int .i64 (-1)] 221);have hg3:Gr w (((w.alloc (.cells #[.pointer (some ⟨Bp,0,none⟩)] 229)).alloc (.cells #[.int .i64 (f:Int)] 3)).alloc (.cells #[.int .i64 0,.int .i64 (-1)] 221)):=(((Gr.refl w).alloc _ _).alloc _ _).alloc _ _;have c1:=(qi h1).1;have c2:=(qi h2).1;have cw:=(h.gr hg3).wh;go_enter Tryz.func270,Tryz.ntmps270;go_upto_region 2 with fail;generalize (((w.alloc (.cells #[.pointer (some ⟨Bp,0,none⟩)] 229)).alloc (.cells #[.int .i64 (f:Int)] 3)).alloc (.cells #[.int .i64 0,.int .i64 (-1)] 221))=w3 at h1 h2 h3 h4 hg3 c1 c2 cw ⊢;cases wh
 ·by_cases hm:f/8=6
  ·have hmb:((f:Int)/8==6)=true:=by simp only[beq_iff_eq];omega
   have hmo:Hid (yx false f=2):=qC (by unfold yx;simp[hm]);have hx3:=h3;have hgs:=hg3;have hs4:=h4;have k1:=h1;have k2:=h2;have c2':=c2;have c2a:=(Below.cell ((Gr.refl w3).alloc #[.int .i64 1] 3) (World.block_lt_of_cell? _ _ c2')).trans c2'
   have hfin:Hid (∃B1 B2 B3 B4,B1=w.heap.size/\B2=w.heap.size+1/\B3=w.heap.size+2/\B4=w.heap.size+3/\Ah z false fc b f 0 (uM false) (yx false f) B1 B2 B3 B4 Bp (w3.alloc (.cells #[.int .i64 2] 3))/\(∀k,(k=B1\/k=B2\/k=B3\/k=B4)->y9 w.heap.size k (w3.alloc (.cells #[.int .i64 2] 3)))/\Gr w (w3.alloc (.cells #[.int .i64 2] 3))):=qC (by
    have hga:Gr w3 (w3.alloc (.cells #[.int .i64 2] 3)):=(Gr.refl _).alloc _ _;have e4:=World.alloc_heap_new w3 (.cells #[.int .i64 2] 3);rw[hs4]at e4;rw[qa hmo];exact⟨_,_,_,_,rfl,rfl,rfl,rfl,Ah.of (h.gr (Gr.trans hgs hga)) ((Below.block hga _ (qB.1 k1).1).trans k1) ((Below.block hga _ (qB.1 k2).1).trans k2) ((Below.block hga _ (qB.1 hx3).1).trans hx3) e4,(by rintro k (rfl|rfl|rfl|rfl)<;>first|exact qu (by omega) (by decide) e4|exact qu (by omega) (by decide) ((Below.block hga _ (qB.1 k1).1).trans k1)|exact qu (by omega) (by decide) ((Below.block hga _ (qB.1 k2).1).trans k2)|exact qu (by omega) (by decide) ((Below.block hga _ (qB.1 hx3).1).trans hx3)),Gr.trans hgs hga⟩)
   clear hm hmo k1 k2 hx3 h1 h2;go_wp2_with fail;go_ret;obtain⟨B1,B2,B3,B4,rfl,rfl,rfl,rfl,r1,r2⟩:=qa hfin;exact⟨_,_,_,_,rfl,r1,r2⟩
  ·have hmb:((f:Int)/8==6)=false:=by rw[qM];omega
   have hmo:Hid (yx false f=1):=qC (by unfold yx;simp[hm]);have hx3:=h3;have hgs:=hg3;have hs4:=h4;have k1:=h1;have k2:=h2;have c2':=c2;have c2a:=(Below.cell ((Gr.refl w3).alloc #[.int .i64 1] 3) (World.block_lt_of_cell? _ _ c2')).trans c2'
   have hfin:Hid (∃B1 B2 B3 B4,B1=w.heap.size/\B2=w.heap.size+1/\B3=w.heap.size+2/\B4=w.heap.size+3/\Ah z false fc b f 0 (uM false) (yx false f) B1 B2 B3 B4 Bp (w3.alloc (.cells #[.int .i64 1] 3))/\(∀k,(k=B1\/k=B2\/k=B3\/k=B4)->y9 w.heap.size k (w3.alloc (.cells #[.int .i64 1] 3)))/\Gr w (w3.alloc (.cells #[.int .i64 1] 3))):=qC (by
    have hga:Gr w3 (w3.alloc (.cells #[.int .i64 1] 3)):=(Gr.refl _).alloc _ _;have e4:=World.alloc_heap_new w3 (.cells #[.int .i64 1] 3);rw[hs4]at e4;rw[qa hmo];exact⟨_,_,_,_,rfl,rfl,rfl,rfl,Ah.of (h.gr (Gr.trans hgs hga)) ((Below.block hga _ (qB.1 k1).1).trans k1) ((Below.block hga _ (qB.1 k2).1).trans k2) ((Below.block hga _ (qB.1 hx3).1).trans hx3) e4,(by rintro k (rfl|rfl|rfl|rfl)<;>first|exact qu (by omega) (by decide) e4|exact qu (by omega) (by decide) ((Below.block hga _ (qB.1 k1).1).trans k1)|exact qu (by omega) (by decide) ((Below.block hga _ (qB.1 k2).1).trans k2)|exact qu (by omega) (by decide) ((Below.block hga _ (qB.1 hx3).1).trans hx3)),Gr.trans hgs hga⟩)
   clear hm hmo k1 k2 hx3 h1 h2;go_wp2_with fail;go_ret;obtain⟨B1,B2,B3,B4,rfl,rfl,rfl,rfl,r1,r2⟩:=qa hfin;exact⟨_,_,_,_,rfl,r1,r2⟩
 ·by_cases hm:f/8=1
  ·have hmb:((f:Int)/8==1)=true:=by simp only[beq_iff_eq];omega
   have hmo:Hid (yx true f=2):=qC (by unfold yx;simp[hm]);obtain⟨o1,o2⟩:=c9 h3;obtain⟨o3,o4⟩:=xg h3;have hx3:=ic (x':=.int .i64 0) (y':=.int .i64 1) h3;have fs:Fr (fun k _=>k≠w.heap.size+2) w3 ((w3.setCell ⟨w.heap.size+2,0,none⟩ (.int .i64 0)).setCell ⟨w.heap.size+2,1,none⟩ (.int .i64 1)):=((Fr.refl _ _).setCell _ (fun o _ q=>q rfl)).setCell _ (fun o _ q=>q rfl);have hgs:Gr w ((w3.setCell ⟨w.heap.size+2,0,none⟩ (.int .i64 0)).setCell ⟨w.heap.size+2,1,none⟩ (.int .i64 1)):=Below.setCell (Below.setCell hg3 (show w.heap.size<=w.heap.size+2 by omega) _) (show w.heap.size<=w.heap.size+2 by omega) _;have hs4:((w3.setCell ⟨w.heap.size+2,0,none⟩ (.int .i64 0)).setCell ⟨w.heap.size+2,1,none⟩ (.int .i64 1)).heap.size=w.heap.size+3:=by simp[World.setCell,h4]
   have k1:=fs.same _ _ h1 (by omega);have k2:=fs.same _ _ h2 (by omega);have c2':=(qi k2).1;have c2a:=(Below.cell ((Gr.refl ((w3.setCell ⟨w.heap.size+2,0,none⟩ (.int .i64 0)).setCell ⟨w.heap.size+2,1,none⟩ (.int .i64 1))).alloc #[.int .i64 1] 3) (World.block_lt_of_cell? _ _ c2')).trans c2'
   have hfin:Hid (∃B1 B2 B3 B4,B1=w.heap.size/\B2=w.heap.size+1/\B3=w.heap.size+2/\B4=w.heap.size+3/\Ah z true fc b f 0 (uM true) (yx true f) B1 B2 B3 B4 Bp (((w3.setCell ⟨w.heap.size+2,0,none⟩ (.int .i64 0)).setCell ⟨w.heap.size+2,1,none⟩ (.int .i64 1)).alloc (.cells #[.int .i64 2] 3))/\(∀k,(k=B1\/k=B2\/k=B3\/k=B4)->y9 w.heap.size k (((w3.setCell ⟨w.heap.size+2,0,none⟩ (.int .i64 0)).setCell ⟨w.heap.size+2,1,none⟩ (.int .i64 1)).alloc (.cells #[.int .i64 2] 3)))/\Gr w (((w3.setCell ⟨w.heap.size+2,0,none⟩ (.int .i64 0)).setCell ⟨w.heap.size+2,1,none⟩ (.int .i64 1)).alloc (.cells #[.int .i64 2] 3))):=qC (by
    have hga:Gr ((w3.setCell ⟨w.heap.size+2,0,none⟩ (.int .i64 0)).setCell ⟨w.heap.size+2,1,none⟩ (.int .i64 1)) (((w3.setCell ⟨w.heap.size+2,0,none⟩ (.int .i64 0)).setCell ⟨w.heap.size+2,1,none⟩ (.int .i64 1)).alloc (.cells #[.int .i64 2] 3)):=(Gr.refl _).alloc _ _;have e4:=World.alloc_heap_new ((w3.setCell ⟨w.heap.size+2,0,none⟩ (.int .i64 0)).setCell ⟨w.heap.size+2,1,none⟩ (.int .i64 1)) (.cells #[.int .i64 2] 3);rw[hs4]at e4;rw[qa hmo];exact⟨_,_,_,_,rfl,rfl,rfl,rfl,Ah.of (h.gr (Gr.trans hgs hga)) ((Below.block hga _ (qB.1 k1).1).trans k1) ((Below.block hga _ (qB.1 k2).1).trans k2) ((Below.block hga _ (qB.1 hx3).1).trans hx3) e4,(by rintro k (rfl|rfl|rfl|rfl)<;>first|exact qu (by omega) (by decide) e4|exact qu (by omega) (by decide) ((Below.block hga _ (qB.1 k1).1).trans k1)|exact qu (by omega) (by decide) ((Below.block hga _ (qB.1 k2).1).trans k2)|exact qu (by omega) (by decide) ((Below.block hga _ (qB.1 hx3).1).trans hx3)),Gr.trans hgs hga⟩)
   clear hm hmo k1 k2 hx3 h1 h2;go_wp2_with fail;go_ret;obtain⟨B1,B2,B3,B4,rfl,rfl,rfl,rfl,r1,r2⟩:=qa hfin;exact⟨_,_,_,_,rfl,r1,r2⟩
  ·have hmb:((f:Int)/8==1)=false:=by rw[qM];omega
   have hmo:Hid (yx true f=1):=qC (by unfold yx;simp[hm]);obtain⟨o1,o2⟩:=c9 h3;obtain⟨o3,o4⟩:=xg h3;have hx3:=ic (x':=.int .i64 0) (y':=.int .i64 1) h3;have fs:Fr (fun k _=>k≠w.heap.size+2) w3 ((w3.setCell ⟨w.heap.size+2,0,none⟩ (.int .i64 0)).setCell ⟨w.heap.size+2,1,none⟩ (.int .i64 1)):=((Fr.refl _ _).setCell _ (fun o _ q=>q rfl)).setCell _ (fun o _ q=>q rfl);have hgs:Gr w ((w3.setCell ⟨w.heap.size+2,0,none⟩ (.int .i64 0)).setCell ⟨w.heap.size+2,1,none⟩ (.int .i64 1)):=Below.setCell (Below.setCell hg3 (show w.heap.size<=w.heap.size+2 by omega) _) (show w.heap.size<=w.heap.size+2 by omega) _;have hs4:((w3.setCell ⟨w.heap.size+2,0,none⟩ (.int .i64 0)).setCell ⟨w.heap.size+2,1,none⟩ (.int .i64 1)).heap.size=w.heap.size+3:=by simp[World.setCell,h4]
   have k1:=fs.same _ _ h1 (by omega);have k2:=fs.same _ _ h2 (by omega);have c2':=(qi k2).1;have c2a:=(Below.cell ((Gr.refl ((w3.setCell ⟨w.heap.size+2,0,none⟩ (.int .i64 0)).setCell ⟨w.heap.size+2,1,none⟩ (.int .i64 1))).alloc #[.int .i64 1] 3) (World.block_lt_of_cell? _ _ c2')).trans c2'
   have hfin:Hid (∃B1 B2 B3 B4,B1=w.heap.size/\B2=w.heap.size+1/\B3=w.heap.size+2/\B4=w.heap.size+3/\Ah z true fc b f 0 (uM true) (yx true f) B1 B2 B3 B4 Bp (((w3.setCell ⟨w.heap.size+2,0,none⟩ (.int .i64 0)).setCell ⟨w.heap.size+2,1,none⟩ (.int .i64 1)).alloc (.cells #[.int .i64 1] 3))/\(∀k,(k=B1\/k=B2\/k=B3\/k=B4)->y9 w.heap.size k (((w3.setCell ⟨w.heap.size+2,0,none⟩ (.int .i64 0)).setCell ⟨w.heap.size+2,1,none⟩ (.int .i64 1)).alloc (.cells #[.int .i64 1] 3)))/\Gr w (((w3.setCell ⟨w.heap.size+2,0,none⟩ (.int .i64 0)).setCell ⟨w.heap.size+2,1,none⟩ (.int .i64 1)).alloc (.cells #[.int .i64 1] 3))):=qC (by
    have hga:Gr ((w3.setCell ⟨w.heap.size+2,0,none⟩ (.int .i64 0)).setCell ⟨w.heap.size+2,1,none⟩ (.int .i64 1)) (((w3.setCell ⟨w.heap.size+2,0,none⟩ (.int .i64 0)).setCell ⟨w.heap.size+2,1,none⟩ (.int .i64 1)).alloc (.cells #[.int .i64 1] 3)):=(Gr.refl _).alloc _ _;have e4:=World.alloc_heap_new ((w3.setCell ⟨w.heap.size+2,0,none⟩ (.int .i64 0)).setCell ⟨w.heap.size+2,1,none⟩ (.int .i64 1)) (.cells #[.int .i64 1] 3);rw[hs4]at e4;rw[qa hmo];exact⟨_,_,_,_,rfl,rfl,rfl,rfl,Ah.of (h.gr (Gr.trans hgs hga)) ((Below.block hga _ (qB.1 k1).1).trans k1) ((Below.block hga _ (qB.1 k2).1).trans k2) ((Below.block hga _ (qB.1 hx3).1).trans hx3) e4,(by rintro k (rfl|rfl|rfl|rfl)<;>first|exact qu (by omega) (by decide) e4|exact qu (by omega) (by decide) ((Below.block hga _ (qB.1 k1).1).trans k1)|exact qu (by omega) (by decide) ((Below.block hga _ (qB.1 k2).1).trans k2)|exact qu (by omega) (by decide) ((Below.block hga _ (qB.1 hx3).1).trans hx3)),Gr.trans hgs hga⟩)
   clear hm hmo k1 k2 hx3 h1 h2;go_wp2_with fail;go_ret;obtain⟨B1,B2,B3,B4,rfl,rfl,rfl,rfl,r1,r2⟩:=qa hfin;exact⟨_,_,_,_,rfl,r1,r2⟩
theorem cD{z:Nat->UInt8}{wh:Bool}{fc:Nat->Bool}{b:Int}{Bp:Nat}(k:Nat)(w:World)(h:Ps z wh fc b Bp w)(hS:vT w) :
  Calls Tryz.prog 271 #[.pointer (some ⟨Bp,0,none⟩),.int .i64 (k:Int)] w fun e w'=>∃B1 B2 B3,e=.returned (.func (.func 316) #[] #[.pointer (some ⟨B1,0,none⟩),.pointer (some ⟨B2,0,none⟩),.pointer (some ⟨B3,0,none⟩)])/\Cg z wh fc b k B1 B2 B3 Bp w'/\y9 w.heap.size B1 w'/\y9 w.heap.size B2 w'/\y9 w.heap.size B3 w'/\Gr w w':=by
 have hmf:∀(fn:Fn)(first cap:Array Value)(w:World),(Instr.makeFunc fn first cap).run Tryz.prog w=.ok (.func fn first cap) w:=fun _ _ _ _=>rfl
 have key:∀m:Int,m=(jC wh:Int)->Hid (∃B1 B2 B3,B1=w.heap.size/\B3=w.heap.size+1/\B2=w.heap.size+2/\Cg z wh fc b k B1 B2 B3 Bp (((w.alloc (.cells #[.pointer (some ⟨Bp,0,none⟩)] 229)).alloc (.cells #[.int .i64 (k:Int)] 3)).alloc (.cells #[.int .i64 m] 3))/\y9 w.heap.size B1 (((w.alloc (.cells #[.pointer (some ⟨Bp,0,none⟩)] 229)).alloc (.cells #[.int .i64 (k:Int)] 3)).alloc (.cells #[.int .i64 m] 3))/\y9 w.heap.size B2 (((w.alloc (.cells #[.pointer (some ⟨Bp,0,none⟩)] 229)).alloc (.cells #[.int .i64 (k:Int)] 3)).alloc (.cells #[.int .i64 m] 3))/\y9 w.heap.size B3 (((w.alloc (.cells #[.pointer (some ⟨Bp,0,none⟩)] 229)).alloc (.cells #[.int .i64 (k:Int)] 3)).alloc (.cells #[.int .i64 m] 3))/\Gr w (((w.alloc (.cells #[.pointer (some ⟨Bp,0,none⟩)] 229)).alloc (.cells #[.int .i64 (k:Int)] 3)).alloc (.cells #[.int .i64 m] 3))):=fun m hm=>qC (by
  obtain⟨h1,h2,h3,h4⟩:=jG w (.cells #[.pointer (some ⟨Bp,0,none⟩)] 229) (.cells #[.int .i64 (k:Int)] 3) (.cells #[.int .i64 m] 3);have hg3:Gr w (((w.alloc (.cells #[.pointer (some ⟨Bp,0,none⟩)] 229)).alloc (.cells #[.int .i64 (k:Int)] 3)).alloc (.cells #[.int .i64 m] 3)):=(((Gr.refl w).alloc _ _).alloc _ _).alloc _ _;exact⟨_,_,_,rfl,rfl,rfl,⟨(qi h1).1,by rw[<-hm];exact(qi h3).1,(qi h2).1,h.gr hg3,hS.gr hg3⟩,qu (by omega) (by decide) h1,qu (by omega) (by decide) h3,qu (by omega) (by decide) h2,hg3⟩)
 obtain⟨h1,h2,h3,h4⟩:=jG w (.cells #[.pointer (some ⟨Bp,0,none⟩)] 229) (.cells #[.int .i64 (k:Int)] 3) (.cells #[.int .i64 2] 3);have hg3:Gr w (((w.alloc (.cells #[.pointer (some ⟨Bp,0,none⟩)] 229)).alloc (.cells #[.int .i64 (k:Int)] 3)).alloc (.cells #[.int .i64 2] 3)):=(((Gr.refl w).alloc _ _).alloc _ _).alloc _ _;have c1:=(qi h1).1;have c2:=(qi h2).1;have cw:=(h.gr hg3).wh;cases wh
 ·have hfin:=key 2 rfl;clear key h1 h2 h3 hg3;go_enter Tryz.func271,Tryz.ntmps271;go_wp2;go_ret;obtain⟨B1,B2,B3,rfl,rfl,rfl,r1,r2⟩:=qa hfin;exact⟨_,_,_,rfl,r1,r2⟩
 ·have hfin:=key 0 rfl;clear key h1 h2 h3 hg3;go_enter Tryz.func271,Tryz.ntmps271;go_wp2;go_ret;obtain⟨B1,B2,B3,rfl,rfl,rfl,r1,r2⟩:=qa hfin;exact⟨_,_,_,rfl,r1,r2⟩
def yF(z:Nat->UInt8)(wh:Bool)(fc:Nat->Bool)(b:Int)(f:Nat):List Nat :=
 (zU z f 16).filter (yG z wh b f)++(if jD (z f)then cW z (yx wh f) (kq z (0,uM wh) f)else if jA (z f)then uz z wh fc f++pA z wh fc f else[])
theorem cP{z:Nat->UInt8}{f x:Nat}(hf:f<64)(h:x∈zU z f 16):x<64:=by
 unfold zU at h;obtain⟨k,_,hk⟩:=List.mem_flatMap.1 h;unfold yj at hk;split at hk
 ·split at hk
  ·exact ce hf hk
  ·exact ce hf (List.mem_of_mem_take hk)
 ·cases hk
theorem wT(wh:Bool)(f:Nat):yx wh f<=2:=by
 unfold yx;by_cases h:f/8=(if wh then 1 else 6)<;>simp[h]
def Kept(Bp:Nat)(w w':World)(C:Nat->Prop):Prop:=∀k,C k->k=Bp\/k=0\/y9 w.heap.size k w'
theorem bG{z:Nat->UInt8}{wh:Bool}{fc:Nat->Bool}{b:Int}{Bp:Nat}(f:Nat)(hf:f<64)(hh:jA (z f)=true->(fc (jC wh)||fc (jC wh+1))=true->f=4\/f=60)(w:World)(h:Ps z wh fc b Bp w)(hS:vT w) :
  Calls Tryz.prog 224 #[.pointer (some ⟨Bp,0,none⟩),.int .i64 (f:Int)] w fun e w'=>∃gi lb C,e=.returned (.func (.func gi) #[] lb)/\Gr w w'/\(∀args w,(callFunc gi args).run Tryz.prog w=.ok (.enter gi args) w)/\(∀k,C k->k<w'.heap.size)/\Kept Bp w w' C/\∀T,z6 T->It Tryz.prog gi lb yh T C (yF z wh fc b f) w':=by
 have hmf:∀(fn:Fn)(first cap:Array Value)(w:World),(Instr.makeFunc fn first cap).run Tryz.prog w=.ok (.func fn first cap) w:=fun _ _ _ _=>rfl
 obtain⟨h1,h2⟩:=x6 w (.cells #[.pointer (some ⟨Bp,0,none⟩)] 229) (.cells #[.int .i64 (f:Int)] 3);have hg2:Gr w ((w.alloc (.cells #[.pointer (some ⟨Bp,0,none⟩)] 229)).alloc (.cells #[.int .i64 (f:Int)] 3)):=((Gr.refl w).alloc _ _).alloc _ _;have hs2:((w.alloc (.cells #[.pointer (some ⟨Bp,0,none⟩)] 229)).alloc (.cells #[.int .i64 (f:Int)] 3)).heap.size=w.heap.size+2:=by simp
 have hp2:=h.gr hg2;go_enter Tryz.func224,Tryz.ntmps224;go_upto_region 1 with fail;generalize ((w.alloc (.cells #[.pointer (some ⟨Bp,0,none⟩)] 229)).alloc (.cells #[.int .i64 (f:Int)] 3))=w2 at h1 h2 hg2 hs2 hp2 ⊢;have c1:=(qi h1).1;have c2:=(qi h2).1;have hatt:=qC (fun W g=>iB (z:=z) (A:=Bp) hf W (hp2.gr g).bd);have honl:=qC (fun g lb W=>sC g 267 lb #[.pointer (some ⟨w.heap.size,0,none⟩),.pointer (some ⟨w.heap.size+1,0,none⟩)] W);have hin:Hid (∀w',Gr w2 w'->Gr w2 w'/\w'.cell? ⟨w.heap.size,0,none⟩=some (.pointer (some ⟨Bp,0,none⟩))/\w'.cell? ⟨w.heap.size+1,0,none⟩=some (.int .i64 (f:Int))):=qC (fun w' g=>⟨g,(Below.cell g (World.block_lt_of_cell? _ _ c1)).trans c1,(Below.cell g (World.block_lt_of_cell? _ _ c2)).trans c2⟩);go_region_held3 (fun w'=>Gr w2 w'/\w'.cell? ⟨w.heap.size,0,none⟩=some (.pointer (some ⟨Bp,0,none⟩))/\w'.cell? ⟨w.heap.size+1,0,none⟩=some (.int .i64 (f:Int))) (first|exact qa hin _ (Gr.refl _).drew|exact qa hin _ (by assumption)) (first|(go_at_call 266;refine(qa hatt _ (vy (by assumption))).mono ?_;rintro e w4 ⟨rfl,a1,a2,a3,ga,sa⟩;have hg4:=Gr.trans (vy (by assumption)) ga)|(go_at_call 265;refine(qa honl _ _ _).mono ?_;rintro e w5 ⟨rfl,o1,o2,go⟩;have hg5:=Gr.trans (vy (by assumption)) go))
 all_goals
  have sd:w2.drew.heap.size=w.heap.size+2:=hs2;have hs4:w4.heap.size=w.heap.size+5:=by rw[sa,sd]
  rw[sd]at a1 a2 a3;rw[hs4]at o1 o2;have b1:=(Below.block go _ (qB.1 a1).1).trans a1;have b2:=(Below.block go _ (qB.1 a2).1).trans a2;have b3:=(Below.block go _ (qB.1 a3).1).trans a3;have b4:=(Below.block hg5 _ (qB.1 h1).1).trans h1;have b5:=(Below.block hg5 _ (qB.1 h2).1).trans h2;have hgw:Gr w w5:=Gr.trans hg2 hg5;have hp5:=h.gr hgw;have hS5:=hS.gr hgw;have hs5:w.heap.size+7<=w5.heap.size:=by have:=(qB.1 o2).1;omega
  have hfar:Hid (∀k,w.heap.size<=k->k<w.heap.size+7->y9 w.heap.size k w5):=qC (fun k k1 k2=>by
   have:k=w.heap.size\/k=w.heap.size+1\/k=w.heap.size+2\/k=w.heap.size+2+1\/k=w.heap.size+2+2\/k=w.heap.size+5\/k=w.heap.size+5+1:=by omega
   rcases this with rfl|rfl|rfl|rfl|rfl|rfl|rfl
   ·exact qu k1 (by decide) b4
   ·exact qu k1 (by decide) b5
   ·exact qu k1 (by decide) b1
   ·exact qu k1 (by decide) b2
   ·exact qu k1 (by decide) b3
   ·exact qu k1 (by decide) o1
   ·exact qu k1 (by decide) o2)
  have hIt:Hid (∀T,z6 T->It Tryz.prog 312 #[.pointer (some ⟨w.heap.size+2+3,0,none⟩),.pointer (some ⟨w.heap.size+2+3+1,0,none⟩)] yh T (fun k=>(w.heap.size<=k/\k<w.heap.size+7)\/k=Bp\/k=0) ((zU z f 16).filter (yG z wh b f)) w5):=qC (fun T hT=>by
   have hatI:=(iC z f hf (w.heap.size+2+2) (w.heap.size+2) (w.heap.size+2+1) Bp T hT w5 (qi b3).1 (qi b1).1 (qi b2).1 hp5.bd hS5).mono (C':=fun k=>(w.heap.size<=k/\k<w.heap.size+7)\/k=Bp\/k=0) (by
    rintro k (rfl|rfl|rfl|rfl|rfl)
    ·exact .inl ⟨by omega,by omega⟩
    ·exact .inl ⟨by omega,by omega⟩
    ·exact .inl ⟨by omega,by omega⟩
    ·exact .inr (.inl rfl)
    ·exact .inr (.inr rfl))
   refine(sD hatI (enters_of Tryz.func313 (by kernel_rfl) rfl) (enters_of Tryz.func267 (by kernel_rfl) rfl) hT ?_ (w.heap.size+2+3) (w.heap.size+2+3+1) (yG z wh b f) o1 o2 ?_).mono ?_
   ·rintro k (hk|rfl|rfl)
    ·omega
    ·exact hp5.lt
    ·exact hS5.2
   ·intro x hx W fW;exact sS (hp5.fr fW (fun _ _=>.inr (.inl rfl))) w.heap.size (w.heap.size+1) f x hf (cP hf hx) (fW.cell (qi b4).1 (fun _ _=>.inl ⟨show w.heap.size<=w.heap.size by omega,show w.heap.size<w.heap.size+7 by omega⟩)) (fW.cell (qi b5).1 (fun _ _=>.inl ⟨show w.heap.size<=w.heap.size+1 by omega,show w.heap.size+1<w.heap.size+7 by omega⟩))
   ·rintro k (hk|rfl|rfl)
    ·exact hk
    ·exact .inl ⟨by omega,by omega⟩
    ·exact .inl ⟨by omega,by omega⟩)
  have htg:Hid (yF z wh fc b f=(zU z f 16).filter (yG z wh b f)++(if jD (z f)then cW z (yx wh f) (kq z (0,uM wh) f)else if jA (z f)then uz z wh fc f++pA z wh fc f else[])):=qC rfl;have d1:=(qi b4).1;have d2:=(qi b5).1;have d3:=hp5.bd f hf;have hf0:(0:Int)<=(f:Int):=by omega
  have hf1:(f:Int)<64:=by omega
  have hpw:=qC (fun W=>xz (z f) W);have hkg:=qC (fun W=>qjk (z f) W);have hgw':=qC hgw;have hp5':=qC hp5;have hS5':=qC hS5;clear hin honl hatt a1 a2 a3 ga sa o1 o2 go hg4 hg5 b1 b2 b3 b4 b5 c1 c2 h1 h2 hg2 hs2 hp2 h hS hgw hp5 hS5 hmf hs4 sd;generalize jD (z f)=pw at hpw htg;cases pw
  ·generalize hkb:jA (z f)=kb at hkg htg hh;cases kb
   ·have htg2:Hid (yF z wh fc b f=(zU z f 16).filter (yG z wh b f)):=qC (by rw[qa htg];simp);go_upto_region 2 with fail;go_quiet((go_at_call 121;exact Calls.quiet_of_same (qa hpw _)));have hgq:Hid (Gr w5 (w5.drewN nq)):=qC ((Gr.refl w5).drewN _);have e1:(w5.drewN nq).cell? ⟨w.heap.size,0,none⟩=some (.pointer (some ⟨Bp,0,none⟩)):=d1;have e2:(w5.drewN nq).cell? ⟨w.heap.size+1,0,none⟩=some (.int .i64 (f:Int)):=d2;have e3:(w5.drewN nq).cell? ⟨Bp,f,none⟩=some (.int .u8 ((z f).toNat:Int)):=d3;generalize w5.drewN nq=wq at hgq e1 e2 e3 ⊢;clear d1 d2 d3;go_upto_region 4 with fail;go_quiet((go_at_call 120;exact Calls.quiet_of_same (qa hkg _)));go_wp2;go_ret;refine⟨_,_,_,rfl,Gr.trans (qa hgw') (Gr.trans (qa hgq) ((Gr.refl wq).drewN _)),enters_of Tryz.func312 (by kernel_rfl) rfl,?_,?_,fun T hT=>by rw[qa htg2];exact(qa hIt T hT).gr (Gr.trans (qa hgq) ((Gr.refl wq).drewN _))⟩
    ·rintro k (hk|rfl|rfl)
     ·exact qN (qN hk.2 hs5) (Below.size (Gr.trans (qa hgq) ((Gr.refl wq).drewN _)))
     ·exact qN (qa hp5').lt (Below.size (Gr.trans (qa hgq) ((Gr.refl wq).drewN _)))
     ·exact qN (qa hS5').2 (Below.size (Gr.trans (qa hgq) ((Gr.refl wq).drewN _)))
    ·rintro k (hk|rfl|rfl)
     ·obtain⟨q1,c,ty,fr,q2,q3⟩:=qa hfar k hk.1 hk.2;exact .inr (.inr ⟨q1,c,ty,fr,q2,(Below.block (Gr.trans (qa hgq) ((Gr.refl wq).drewN _)) _ (qB.1 q3).1).trans q3⟩)
     ·exact .inl rfl
     ·exact .inr (.inl rfl)
   ·have hcs:=qC (fun W hp hS=>cD (z:=z) (wh:=wh) (fc:=fc) (b:=b) (Bp:=Bp) f W hp hS);have htg2:Hid (yF z wh fc b f=(zU z f 16).filter (yG z wh b f)++(uz z wh fc f++pA z wh fc f)):=qC (by rw[qa htg];simp);go_upto_region 2 with fail;go_quiet((go_at_call 121;exact Calls.quiet_of_same (qa hpw _)));have hgq:Hid (Gr w5 (w5.drewN nq)):=qC ((Gr.refl w5).drewN _);have e1:(w5.drewN nq).cell? ⟨w.heap.size,0,none⟩=some (.pointer (some ⟨Bp,0,none⟩)):=d1;have e2:(w5.drewN nq).cell? ⟨w.heap.size+1,0,none⟩=some (.int .i64 (f:Int)):=d2;have e3:(w5.drewN nq).cell? ⟨Bp,f,none⟩=some (.int .u8 ((z f).toNat:Int)):=d3;generalize w5.drewN nq=wq at hgq e1 e2 e3 ⊢;clear d1 d2 d3;go_upto_region 4 with fail;go_quiet((go_at_call 120;exact Calls.quiet_of_same (qa hkg _)))
    go_wp2_with(first
     | (go_at_call 271;refine(qa hcs _ ((qa hp5').gr (Gr.trans (qa hgq) ((Gr.refl wq).drewN _))) ((qa hS5').gr (Gr.trans (qa hgq) ((Gr.refl wq).drewN _)))).mono ?_;rintro e w6 ⟨B1,B2,B3,rfl,hCg,f1,f2,f3,hg6⟩)
     | (go_at_call 269;refine(aO _ _ rfl).mono ?_;rintro e w9 ⟨rfl,x9,hg9⟩))
    go_ret;have hx8:=World.alloc_heap_new w6 (.cells #[.func (.func 312) #[] #[.pointer (some ⟨w.heap.size+2+3,0,none⟩),.pointer (some ⟨w.heap.size+2+3+1,0,none⟩)],.func (.func 316) #[] #[.pointer (some ⟨B1,0,none⟩),.pointer (some ⟨B2,0,none⟩),.pointer (some ⟨B3,0,none⟩)]] 207);have hs8:=World.size_alloc w6 (.cells #[.func (.func 312) #[] #[.pointer (some ⟨w.heap.size+2+3,0,none⟩),.pointer (some ⟨w.heap.size+2+3+1,0,none⟩)],.func (.func 316) #[] #[.pointer (some ⟨B1,0,none⟩),.pointer (some ⟨B2,0,none⟩),.pointer (some ⟨B3,0,none⟩)]] 207);have hg68:Gr w6 (w6.alloc (.cells #[.func (.func 312) #[] #[.pointer (some ⟨w.heap.size+2+3,0,none⟩),.pointer (some ⟨w.heap.size+2+3+1,0,none⟩)],.func (.func 316) #[] #[.pointer (some ⟨B1,0,none⟩),.pointer (some ⟨B2,0,none⟩),.pointer (some ⟨B3,0,none⟩)]] 207)):=(Gr.refl _).alloc _ _;generalize (w6.alloc (.cells #[.func (.func 312) #[] #[.pointer (some ⟨w.heap.size+2+3,0,none⟩),.pointer (some ⟨w.heap.size+2+3+1,0,none⟩)],.func (.func 316) #[] #[.pointer (some ⟨B1,0,none⟩),.pointer (some ⟨B2,0,none⟩),.pointer (some ⟨B3,0,none⟩)]] 207))=w8 at hx8 hs8 hg68 x9 hg9;have hg69:=Gr.trans hg68 hg9;have hg56:Gr w5 w6:=Gr.trans (Gr.trans (qa hgq) ((Gr.refl wq).drewN _)) hg6;have hg59:=Gr.trans hg56 hg69;have x8:=(Below.block hg9 _ (qB.1 hx8).1).trans hx8;rw[hs8]at x9;have h56:=Below.size hg56;have h69:=Below.size hg69;have hp9:=(qa hp5').gr hg59;have hS9:=(qa hS5').gr hg59;have hlt9:w6.heap.size+1<w9.heap.size:=(qB.1 x9).1
    have far6:∀k,(k=B1\/k=B2\/k=B3)->y9 w.heap.size k w6:=fun k hk=>by
     rcases hk with rfl|rfl|rfl
     ·exact⟨q7 (q7 (show w.heap.size<=w5.heap.size by omega) (Below.size (qa hgq))) f1.1,f1.2⟩
     ·exact⟨q7 (q7 (show w.heap.size<=w5.heap.size by omega) (Below.size (qa hgq))) f2.1,f2.2⟩
     ·exact⟨q7 (q7 (show w.heap.size<=w5.heap.size by omega) (Below.size (qa hgq))) f3.1,f3.2⟩
    have farg:∀k {A B:World},y9 w.heap.size k A->Gr A B->y9 w.heap.size k B:=fun k A B h g=>⟨h.1,by obtain⟨c,ty,fr,q1,q2⟩:=h.2;exact⟨c,ty,fr,q1,(Below.block g _ (qB.1 q2).1).trans q2⟩⟩
    have farlt:∀k {A:World},y9 w.heap.size k A->k<A.heap.size:=fun k A h=>by obtain⟨c,ty,fr,q1,q2⟩:=h.2;exact(qB.1 q2).1
    have hCb:∀k,((((w.heap.size<=k/\k<w.heap.size+7)\/k=Bp\/k=0)\/(k=B1\/k=B2\/k=B3)))->k<w9.heap.size:=by
     rintro k ((hk|rfl|rfl)|hk)
     ·exact farlt k (farg k (qa hfar k hk.1 hk.2) hg59)
     ·exact hp9.lt
     ·exact hS9.2
     ·exact farlt k (farg k (far6 k hk) hg69)
    refine⟨314,#[.pointer (some ⟨w6.heap.size+1,0,none⟩)],fun k=>((((w.heap.size<=k/\k<w.heap.size+7)\/k=Bp\/k=0)\/(k=B1\/k=B2\/k=B3)))\/k=w6.heap.size+1\/k=w6.heap.size,rfl,Gr.trans (qa hgw') hg59,enters_of Tryz.func314 (by kernel_rfl) rfl,?_,?_,fun T hT=>?_⟩
    ·rintro k (hk|rfl|rfl)
     ·exact hCb k hk
     ·exact hlt9
     ·omega
    ·rintro k (((hk|rfl|rfl)|hk)|rfl|rfl)
     ·exact .inr (.inr (farg k (qa hfar k hk.1 hk.2) hg59))
     ·exact .inl rfl
     ·exact .inr (.inl rfl)
     ·exact .inr (.inr (farg k (far6 k hk) hg69))
     ·exact .inr (.inr (qu (by omega) (by decide) x9))
     ·exact .inr (.inr (qu (by omega) (by decide) x8))
    ·rw[qa htg2];refine aP (gN:=fun k=>if k=0 then 312 else 316) (lbN:=fun k=>if k=0 then #[.pointer (some ⟨w.heap.size+2+3,0,none⟩),.pointer (some ⟨w.heap.size+2+3+1,0,none⟩)]else #[.pointer (some ⟨B1,0,none⟩),.pointer (some ⟨B2,0,none⟩),.pointer (some ⟨B3,0,none⟩)]) (xsN:=fun k=>if k=0 then(zU z f 16).filter (yG z wh b f)else(uz z wh fc f++pA z wh fc f)) (C:=fun k=>((((w.heap.size<=k/\k<w.heap.size+7)\/k=Bp\/k=0)\/(k=B1\/k=B2\/k=B3)))) ?_ ?_ hT hCb (w6.heap.size+1) w6.heap.size (qi x9).1 ?_
     ·intro k hk;rcases(show k=0\/k=1 by omega)with rfl|rfl
      ·exact((qa hIt T hT).gr hg59).mono (fun k hk=>.inl hk)
      ·exact((cE hf (hh (by trivial)) T w9 (hCg.gr hg69)).mono (by rintro k (rfl|rfl|rfl|rfl|rfl)<;>simp))
     ·intro k hk;rcases(show k=0\/k=1 by omega)with rfl|rfl
      ·exact enters_of Tryz.func312 (by kernel_rfl) rfl
      ·exact enters_of Tryz.func316 (by kernel_rfl) rfl
     ·intro k hk;rcases(show k=0\/k=1 by omega)with rfl|rfl
      ·exact(xg x8).1
      ·exact(xg x8).2
  ·have hah:=qC (fun W hp=>wR (z:=z) (wh:=wh) (fc:=fc) (b:=b) (Bp:=Bp) f hf W hp);have htg2:Hid (yF z wh fc b f=(zU z f 16).filter (yG z wh b f)++cW z (yx wh f) (kq z (0,uM wh) f)):=qC (by rw[qa htg];simp);go_upto_region 2 with fail;go_quiet((go_at_call 121;exact Calls.quiet_of_same (qa hpw _)))
   go_wp2_with(first
    | (go_at_call 270;refine(qa hah _ ((qa hp5').gr ((Gr.refl w5).drewN _))).mono ?_;rintro e w6 ⟨B1,B2,B3,B4,rfl,hAh,hfA,hg6⟩)
    | (go_at_call 269;refine(aO _ _ rfl).mono ?_;rintro e w9 ⟨rfl,x9,hg9⟩))
   go_ret;have hx8:=World.alloc_heap_new w6 (.cells #[.func (.func 312) #[] #[.pointer (some ⟨w.heap.size+2+3,0,none⟩),.pointer (some ⟨w.heap.size+2+3+1,0,none⟩)],.func (.func 315) #[] #[.pointer (some ⟨B1,0,none⟩),.pointer (some ⟨B2,0,none⟩),.pointer (some ⟨B3,0,none⟩),.pointer (some ⟨B4,0,none⟩)]] 207);have hs8:=World.size_alloc w6 (.cells #[.func (.func 312) #[] #[.pointer (some ⟨w.heap.size+2+3,0,none⟩),.pointer (some ⟨w.heap.size+2+3+1,0,none⟩)],.func (.func 315) #[] #[.pointer (some ⟨B1,0,none⟩),.pointer (some ⟨B2,0,none⟩),.pointer (some ⟨B3,0,none⟩),.pointer (some ⟨B4,0,none⟩)]] 207);have hg68:Gr w6 (w6.alloc (.cells #[.func (.func 312) #[] #[.pointer (some ⟨w.heap.size+2+3,0,none⟩),.pointer (some ⟨w.heap.size+2+3+1,0,none⟩)],.func (.func 315) #[] #[.pointer (some ⟨B1,0,none⟩),.pointer (some ⟨B2,0,none⟩),.pointer (some ⟨B3,0,none⟩),.pointer (some ⟨B4,0,none⟩)]] 207)):=(Gr.refl _).alloc _ _;generalize (w6.alloc (.cells #[.func (.func 312) #[] #[.pointer (some ⟨w.heap.size+2+3,0,none⟩),.pointer (some ⟨w.heap.size+2+3+1,0,none⟩)],.func (.func 315) #[] #[.pointer (some ⟨B1,0,none⟩),.pointer (some ⟨B2,0,none⟩),.pointer (some ⟨B3,0,none⟩),.pointer (some ⟨B4,0,none⟩)]] 207))=w8 at hx8 hs8 hg68 x9 hg9;have hg69:=Gr.trans hg68 hg9;have hg56:Gr w5 w6:=Gr.trans ((Gr.refl w5).drewN _) hg6;have hg59:=Gr.trans hg56 hg69;have x8:=(Below.block hg9 _ (qB.1 hx8).1).trans hx8;rw[hs8]at x9;have h56:=Below.size hg56;have h69:=Below.size hg69;have hp9:=(qa hp5').gr hg59;have hS9:=(qa hS5').gr hg59;have hlt9:w6.heap.size+1<w9.heap.size:=(qB.1 x9).1
   have far6:∀k,(k=B1\/k=B2\/k=B3\/k=B4)->y9 w.heap.size k w6:=fun k hk=>by
    obtain⟨q1,q2⟩:=hfA k hk;exact⟨by have:(w5.drewN 0).heap.size=w5.heap.size:=rfl;exact q7 (show w.heap.size<=w5.heap.size by omega) q1,q2⟩
   have farg:∀k {A B:World},y9 w.heap.size k A->Gr A B->y9 w.heap.size k B:=fun k A B h g=>⟨h.1,by obtain⟨c,ty,fr,q1,q2⟩:=h.2;exact⟨c,ty,fr,q1,(Below.block g _ (qB.1 q2).1).trans q2⟩⟩
   have farlt:∀k {A:World},y9 w.heap.size k A->k<A.heap.size:=fun k A h=>by obtain⟨c,ty,fr,q1,q2⟩:=h.2;exact(qB.1 q2).1
   have hCb:∀k,((((w.heap.size<=k/\k<w.heap.size+7)\/k=Bp\/k=0)\/(k=B1\/k=B2\/k=B3\/k=B4)))->k<w9.heap.size:=by
    rintro k ((hk|rfl|rfl)|hk)
    ·exact farlt k (farg k (qa hfar k hk.1 hk.2) hg59)
    ·exact hp9.lt
    ·exact hS9.2
    ·exact farlt k (farg k (far6 k hk) hg69)
   refine⟨314,#[.pointer (some ⟨w6.heap.size+1,0,none⟩)],fun k=>((((w.heap.size<=k/\k<w.heap.size+7)\/k=Bp\/k=0)\/(k=B1\/k=B2\/k=B3\/k=B4)))\/k=w6.heap.size+1\/k=w6.heap.size,rfl,Gr.trans (qa hgw') hg59,enters_of Tryz.func314 (by kernel_rfl) rfl,?_,?_,fun T hT=>?_⟩
   ·rintro k (hk|rfl|rfl)
    ·exact hCb k hk
    ·exact hlt9
    ·omega
   ·rintro k (((hk|rfl|rfl)|hk)|rfl|rfl)
    ·exact .inr (.inr (farg k (qa hfar k hk.1 hk.2) hg59))
    ·exact .inl rfl
    ·exact .inr (.inl rfl)
    ·exact .inr (.inr (farg k (far6 k hk) hg69))
    ·exact .inr (.inr (qu (by omega) (by decide) x9))
    ·exact .inr (.inr (qu (by omega) (by decide) x8))
   ·rw[qa htg2];refine aP (gN:=fun k=>if k=0 then 312 else 315) (lbN:=fun k=>if k=0 then #[.pointer (some ⟨w.heap.size+2+3,0,none⟩),.pointer (some ⟨w.heap.size+2+3+1,0,none⟩)]else #[.pointer (some ⟨B1,0,none⟩),.pointer (some ⟨B2,0,none⟩),.pointer (some ⟨B3,0,none⟩),.pointer (some ⟨B4,0,none⟩)]) (xsN:=fun k=>if k=0 then(zU z f 16).filter (yG z wh b f)else cW z (yx wh f) (kq z (0,uM wh) f)) (C:=fun k=>((((w.heap.size<=k/\k<w.heap.size+7)\/k=Bp\/k=0)\/(k=B1\/k=B2\/k=B3\/k=B4)))) ?_ ?_ hT hCb (w6.heap.size+1) w6.heap.size (qi x9).1 ?_
    ·intro k hk;rcases(show k=0\/k=1 by omega)with rfl|rfl
     ·exact((qa hIt T hT).gr hg59).mono (fun k hk=>.inl hk)
     ·exact((wS hf (a:=0) (c:=uM wh) (by unfold small uM;cases wh<;>decide) (.inr (by unfold uM;cases wh<;>decide)) (most:=yx wh f) (wT wh f) T hT w9 (hAh.gr hg69)).mono (by rintro k (rfl|rfl|rfl|rfl|rfl)<;>simp))
    ·intro k hk;rcases(show k=0\/k=1 by omega)with rfl|rfl
     ·exact enters_of Tryz.func312 (by kernel_rfl) rfl
     ·exact enters_of Tryz.func315 (by kernel_rfl) rfl
    ·intro k hk;rcases(show k=0\/k=1 by omega)with rfl|rfl
     ·exact(xg x8).1
     ·exact(xg x8).2
end
section
attribute [local go_sem] qd qe Oper.semAt_some
def iN(z:Nat->UInt8)(wh:Bool)(fc:Nat->Bool):Prop:=∀f,f<64->kw (z f) wh=true->jA (z f)=true->(fc (jC wh)||fc (jC wh+1))=true->f=4\/f=60
def AB(z:Nat->UInt8)(f t:Nat):List Mv:=xT (jD (z f)) f t
def nh(z:Nat->UInt8)(wh:Bool)(fc:Nat->Bool)(b:Int)(f:Nat):List Mv:=if kw (z f) wh then(yF z wh fc b f).flatMap (AB z f)else[]
def ye(z:Nat->UInt8)(wh:Bool)(fc:Nat->Bool)(b:Int)(k:Nat):List Mv:=(List.range k).flatMap (nh z wh fc b)
theorem qk4(z:Nat->UInt8)(wh:Bool)(fc:Nat->Bool)(b:Int)(k:Nat):ye z wh fc b (k+1)=ye z wh fc b k++nh z wh fc b k:=by
 unfold ye;rw[List.range_succ,List.flatMap_append];simp
theorem al(z:Nat->UInt8)(wh:Bool)(fc:Nat->Bool)(b:Int)(k:Nat):∀d,ye z wh fc b k <+: ye z wh fc b (k+d)
 | 0=>List.prefix_rfl
 | d+1=>(al z wh fc b k d).trans (by rw[<-Nat.add_assoc,qk4];exact List.prefix_append _ _)
theorem Cp(z:Nat->UInt8)(wh:Bool)(fc:Nat->Bool)(b:Int){k:Nat}(hk:k<64):ye z wh fc b k++nh z wh fc b k <+: ye z wh fc b 64:=by
 rw[<-qk4];have:=al z wh fc b (k+1) (64-(k+1))
 rwa[show k+1+(64-(k+1))=64 by omega]at this
theorem C3{z:Nat->UInt8}{wh:Bool}{fc:Nat->Bool}{b:Int}{f t:Nat}(hf:f<64)(hh:jA (z f)=true->(fc (jC wh)||fc (jC wh+1))=true->f=4\/f=60)(h:t∈yF z wh fc b f):t<64:=by
 unfold yF at h;rcases List.mem_append.1 h with h|h
 ·exact cP hf ((qV.1 h).1)
 ·split at h
  ·exact ce hf (List.mem_of_mem_take (List.takeWhile_subset _ h))
  ·split at h
   ·rename_i hk;rcases List.mem_append.1 h with h|h
    ·unfold uz at h;split at h
     ·rename_i hc;rw[qH]at hc;have:=hh hk (by rw[hc.1];rfl);rw[qT.1 h];omega
     ·cases h
    ·unfold pA at h;split at h
     ·rename_i hc;rw[qH]at hc;rw[qT.1 h];omega
     ·cases h
   ·cases h
structure Al(z:Nat->UInt8)(wh:Bool)(fc:Nat->Bool)(b:Int)(l B Wb B1 Bp:Nat)(Ds:List Nat)(W:World):Prop where
 yb:W.heap[Wb]?=some (.cells #[.func (.yield l) #[] #[]] 143)
 b1:W.cell? ⟨B1,0,none⟩=some (.pointer (some ⟨Bp,0,none⟩))
 ps:Ps z wh fc b Bp W
 st:vT W
 ms:zY B Ds W
theorem Al.fr{z:Nat->UInt8}{wh:Bool}{fc:Nat->Bool}{b:Int}{l B Wb B1 Bp:Nat}{Ds:List Nat}{W W':World}{Q:Nat->Obj->Prop}(h:Al z wh fc b l B Wb B1 Bp Ds W)(f:Fr Q W W')(hq:∀k o,(k=Wb\/k=B1\/k=Bp\/k=0\/k∈Ds)->W.heap[k]?=some o->Q k o):Al z wh fc b l B Wb B1 Bp Ds W' :=
 ⟨f.same _ _ h.yb (hq _ _ (by simp) h.yb),f.cell h.b1 (fun o e=>hq _ o (by simp) e),h.ps.fr f (fun o e=>hq _ o (by simp) e),⟨fun j v hv=>f.cell (h.st.1 j v hv) (fun o e=>hq _ o (by simp) e),qN h.st.2 f.size⟩,h.ms.fr f (fun k o _ _ e hk=>hq k o (by simp[hk]) e)⟩
theorem Al.gr{z:Nat->UInt8}{wh:Bool}{fc:Nat->Bool}{b:Int}{l B Wb B1 Bp:Nat}{Ds:List Nat}{W W':World}(h:Al z wh fc b l B Wb B1 Bp Ds W)(g:Gr W W'):Al z wh fc b l B Wb B1 Bp Ds W':=h.fr (Q:=fun _ _=>True) (Fr.of_gr g) (fun _ _ _ _=>trivial)
theorem Al.lt{z:Nat->UInt8}{wh:Bool}{fc:Nat->Bool}{b:Int}{l B Wb B1 Bp:Nat}{Ds:List Nat}{W:World}(h:Al z wh fc b l B Wb B1 Bp Ds W):∀k,(k=Wb\/k=B1\/k=Bp\/k=0\/k∈Ds)->k<W.heap.size:=by
 rintro k (rfl|rfl|rfl|rfl|hk)
 ·exact(qB.1 h.yb).1
 ·exact World.block_lt_of_cell? _ _ h.b1
 ·exact h.ps.lt
 ·exact h.st.2
 ·exact(qB.1 (h.ms.2 k hk).2).1
theorem Al.below{z:Nat->UInt8}{wh:Bool}{fc:Nat->Bool}{b:Int}{l B Wb B1 Bp:Nat}{Ds:List Nat}{W W' W0:World}{T:Obj->Prop}{n:Nat}(h0:Al z wh fc b l B Wb B1 Bp Ds W0)(hn:W0.heap.size<=n)(h:Al z wh fc b l B Wb B1 Bp Ds W)(f:Fr (yv n T) W W'):Al z wh fc b l B Wb B1 Bp Ds W' :=
 h.fr f (fun k _ hk _=>.inl (qN (h0.lt k hk) hn))
theorem Al.rnd{z:Nat->UInt8}{wh:Bool}{fc:Nat->Bool}{b:Int}{l B Wb B1 Bp:Nat}{Ds:List Nat}{W W':World}{T:Obj->Prop}(h:Al z wh fc b l B Wb B1 Bp Ds W)(hT:z6 T)(hB:B<=Wb)(f:Fr (jM B T (fun k=>k=B1\/k=Bp\/k=0)) W W'):Al z wh fc b l B Wb B1 Bp Ds W':=h.fr f (fun k o hk e=>by
 rcases hk with rfl|hk|hk|hk|hk
 ·rw[h.yb]at e;cases e;exact .inr ⟨hB,hT.no (by decide)⟩
 ·exact .inl (by simp[hk])
 ·exact .inl (by simp[hk])
 ·exact .inl (by simp[hk])
 ·rw[(h.ms.2 k hk).2]at e;cases e;exact .inr ⟨(h.ms.2 k hk).1,fun q=>by have:=hT.cells _ q;cases this⟩)
theorem Al.cons{z:Nat->UInt8}{wh:Bool}{fc:Nat->Bool}{b:Int}{l B Wb B1 Bp D:Nat}{Ds:List Nat}{W:World}(h:Al z wh fc b l B Wb B1 Bp Ds W)(hD:B<=D)(hn:D∉Ds)(hK:W.heap[D]?=some (.deferred (some []))):Al z wh fc b l B Wb B1 Bp (D :: Ds) W :=
 ⟨h.yb,h.b1,h.ps,h.st,jx h.ms hD hn hK⟩
def AlI(z:Nat->UInt8)(wh:Bool)(fc:Nat->Bool)(b:Int)(l B Wb B1 Bp:Nat)(J:List Mv->World->Prop)(gk:Nat)(a:Act)(wr:World):Prop :=
 ∃(k:Nat)(Ds:List Nat)(u3 u4 u5 u6 u7 u8 u11 u12 u13 u14 u15 u16 u17 u18 u19 u20 u21 u22 u23 u24 u25 u26 u27 u28 u29 u30 u31:Value),k+gk=64/\a={ tmps:=#[.func (.yield l) #[] #[],.pointer (some ⟨B1,0,none⟩),.pointer (some ⟨Wb,0,none⟩),u3,u4,u5,u6,u7,u8,.agg (zL z).toArray,.int .i64 (k:Int),u11,u12,u13,u14,u15,u16,u17,u18,u19,u20,u21,u22,u23,u24,u25,u26,u27,u28,u29,u30,u31],defers:=Ds.map uK }/\Al z wh fc b l B Wb B1 Bp Ds wr/\J (ye z wh fc b k) wr
theorem G0(z:Nat->UInt8)(k:Nat)(hk:k<64)(w:World):(Instr.index 67 (.agg (zL z).toArray) (.int .i64 (k:Int))).run Tryz.prog w=.ok (.int .u8 ((z k).toNat:Int)) w:=G1 _ k hk _ ((gu z).2 k hk) w
theorem ak{z:Nat->UInt8}{wh:Bool}{fc:Nat->Bool}{b:Int}(hh:iN z wh fc)(B1 Bp:Nat)(T:Obj->Prop)(hTm:z6 T)(w:World)(hb1:w.cell? ⟨B1,0,none⟩=some (.pointer (some ⟨Bp,0,none⟩)))(hps:Ps z wh fc b Bp w)(hst:vT w) :
  It Tryz.prog 223 #[.pointer (some ⟨B1,0,none⟩)] vr T (fun k=>k=B1\/k=Bp\/k=0) (ye z wh fc b 64) w:=by
 intro l B J Jx W f0 hB hJ hJx hY h0
 have hA0:Al z wh fc b l B W.heap.size B1 Bp [] (W.alloc (.cells #[.func (.yield l) #[] #[]] 143)):=by
  have f1:=f0.trans ((Fr.refl (fun k _=>k=B1\/k=Bp\/k=0) W).alloc (.cells #[.func (.yield l) #[] #[]] 143));exact⟨World.alloc_heap_new W _,f1.cell hb1 (fun _ _=>by simp),hps.fr f1 (fun _ _=>by simp),hst.fr f1 (fun _=>by simp),⟨List.nodup_nil,fun D hD=>absurd hD List.not_mem_nil⟩⟩
 have hJ0:=hJ _ _ _ h0 ((Fr.refl _ W).alloc (.cells #[.func (.yield l) #[] #[]] 143));refine(callsIn_wide (n:=9)).1 ?_;refine callsIn_of_wp_marks Tryz.func223 rfl trivial ?_ rfl;simp only[Tryz.ntmps223,List.size_toArray,List.length_cons,List.length_nil,Nat.reduceAdd,Nat.reduceSub,Array.replicate_succ,Array.replicate_zero,List.push_toArray,List.append_toArray,List.nil_append,List.cons_append];refine wpIn_wide.2 ?_;clear h0 f0 hb1 hps hst;have c0:=hA0.b1;have crg:=hA0.ps.bd.range;go_wp2_with(refine wpList_load_mid rfl 67 _ rfl Bp 0 rfl (zL z) _ crg Tryz.underlying67 rfl (by rw[ub];exact x7) ?_);generalize W.alloc (.cells #[.func (.yield l) #[] #[]] 143)=w1 at hA0 hJ0 c0 crg ⊢;generalize W.heap.size=Wb at hA0 hB ⊢;clear c0 crg;refine wpIn_wide.1 (wpIn_loop_ghost (rm:=9) (AlI z wh fc b l B Wb B1 Bp J) 64 ?start ?round)
 case start=>exact⟨0,[],_,_,_,_,_,_,_,_,_,_,_,_,_,_,_,_,_,_,_,_,_,_,_,_,_,_,_,rfl,rfl,hA0,hJ0⟩
 case round =>
  clear hA0 hJ0;rintro gk a wr ⟨k,Ds,u3,u4,u5,u6,u7,u8,u11,u12,u13,u14,u15,u16,u17,u18,u19,u20,u21,u22,u23,u24,u25,u26,u27,u28,u29,u30,u31,hk,rfl,hM,hJk⟩;have hM':=qC hM;have hJk':=qC hJk;clear hJk hM;by_cases hlt:k<64
  ·have hix:=G0 z k hlt;have hsc:Hid (ye z wh fc b (k+1)=ye z wh fc b k++nh z wh fc b k):=qC (qk4 z wh fc b k);have hpr:Hid (ye z wh fc b k++nh z wh fc b k <+: ye z wh fc b 64):=qC (Cp z wh fc b hlt);have hsS:Hid (nh z wh fc b k=if kw (z k) wh then(yF z wh fc b k).flatMap (AB z k)else[]):=qC rfl;have hhk:=qC (fun hm=>hh k hlt hm);generalize nh z wh fc b k=aS at hsc hpr hsS;have hk0:(0:Int)<=(k:Int):=by omega
   have hk64:(k:Int)<64:=by omega
   obtain⟨x1,x2⟩:=x6 wr (.cells #[.int .i64 (k:Int)] 3) (.cells #[.int .u8 ((z k).toNat:Int)] 5);have hgA:Gr wr ((wr.alloc (.cells #[.int .i64 (k:Int)] 3)).alloc (.cells #[.int .u8 ((z k).toNat:Int)] 5)):=((Gr.refl wr).alloc _ _).alloc _ _;have hsA:((wr.alloc (.cells #[.int .i64 (k:Int)] 3)).alloc (.cells #[.int .u8 ((z k).toNat:Int)] 5)).heap.size=wr.heap.size+2:=by simp
   have hman:=qC (fun W=>qxy (z k) wh W);obtain⟨g1,hg1⟩:∃g,kw (z k) wh=g:=⟨_,rfl⟩;rw[hg1]at hman hsS hhk;refine wpIn_wide.2 ?_;go_upto_region 4 with fail;generalize ((wr.alloc (.cells #[.int .i64 (k:Int)] 3)).alloc (.cells #[.int .u8 ((z k).toNat:Int)] 5))=wA at x1 x2 hgA hsA ⊢;have hMA:=(qa hM').gr hgA;have c1:=(qi x1).1;have c2:=(qi x2).1;have c3:=hMA.b1;have c4:=hMA.ps.wh;go_quiet((go_at_call 148;exact Calls.quiet_of_same (qa hman _)));have hgq:Hid (Gr wr (wA.drewN nq)):=qC (hgA.drewN _);have y1:(wA.drewN nq).heap[wr.heap.size]?=some (.cells #[.int .i64 (k:Int)] 3):=x1;have y2:(wA.drewN nq).heap[wr.heap.size+1]?=some (.cells #[.int .u8 ((z k).toNat:Int)] 5):=x2;have hMq:Al z wh fc b l B Wb B1 Bp Ds (wA.drewN nq):=hMA.gr ((Gr.refl wA).drewN _);have hsq:(wA.drewN nq).heap.size=wr.heap.size+2:=hsA;generalize wA.drewN nq=wq at hgq y1 y2 hMq hsq ⊢;clear hMA c1 c2 c3 c4 x1 x2 hgA hsA hix;cases g1
   ·go_wp2_with fail;exact⟨gk-1,by omega,k+1,Ds,_,_,_,_,_,_,_,_,_,_,_,_,_,_,_,_,_,_,_,_,_,_,_,_,_,_,_,by omega,rfl,hMq,by rw[qa hsc,qa hsS];simpa using hJ _ _ _ (qa hJk') (Fr.of_gr (qa hgq))⟩
   ·have c1:=(qi y1).1;have c3:=hMq.b1;have htg:=qC (bG (z:=z) (wh:=wh) (fc:=fc) (b:=b) (Bp:=Bp) k hlt (qa hhk rfl) wq hMq.ps hMq.st);have htl:Hid (∀t∈yF z wh fc b k,t<64):=qC (fun t ht=>C3 hlt (qa hhk rfl) ht);have hsS2:Hid (aS=(yF z wh fc b k).flatMap (AB z k)):=qC (by rw[qa hsS];rfl);clear hsS hhk;generalize yF z wh fc b k=tl at htg htl hsS2;have hMq':=qC hMq;clear hMq;go_wp2_with(go_at_call 224;refine(qa htg).mono ?_;rintro e w6 ⟨gi,lb,C,rfl,hg6,hen,hCb,hKp,hIt⟩);have hgw:=Gr.trans (qa hgq) hg6;have hM6:Al z wh fc b l B Wb B1 Bp Ds w6:=(qa hMq').gr hg6;have hJ6:=hJ _ _ _ (qa hJk') (Fr.of_gr hgw);have z1:=(Below.block hg6 _ (qB.1 y1).1).trans y1;have z2:=(Below.block hg6 _ (qB.1 y2).1).trans y2;have hDs:∀D∈Ds,D<w6.heap.size:=fun D hD=>hM6.lt D (by simp[hD])
    have hWb6:Wb<w6.heap.size:=hM6.lt Wb (by simp);have hWbr:Wb<wr.heap.size:=(qa hM').lt Wb (by simp);have hs6:=Below.size hg6;have hlt6:wr.heap.size+1<w6.heap.size:=by omega
    clear htg hg6 hgw y1 y2 c1 c3;generalize wr.heap.size=Bs at hWbr z1 z2 hlt6 hsq ⊢;have hB6:B<=w6.heap.size:=by omega
    have hKp2:∀j,C j->j=Bp\/j=0\/y9 B j w6:=fun j hj=>by
     rcases hKp j hj with h|h|h
     ·exact .inl h
     ·exact .inr (.inl h)
     ·exact .inr (.inr ⟨by have:=h.1;omega,h.2⟩)
    clear hKp
    refine wpIn_wide.1 (xj (n:=9) (gf:=gi) (lb:=lb) rfl hen (hIt T hTm) hTm.cells hCb (Fr.refl _ _) (fun _=>rfl)
     (fun pre V=>Al z wh fc b l B Wb B1 Bp Ds V/\V.heap[Bs]?=some (.cells #[.int .i64 (k:Int)] 3)/\V.heap[Bs+1]?=some (.cells #[.int .u8 ((z k).toNat:Int)] 5)/\Fr (fun j _=>C j) w6 V/\J (ye z wh fc b k++pre.flatMap (AB z k)) V)
     (fun c _ V=>c=.ret/\zY B Ds V/\∃q,q <+: ye z wh fc b 64/\Jx q V)
     ?sI ?sX ⟨hM6,z1,z2,Fr.refl _ _,by simpa using hJ6⟩ ?rnd ?done ?stop)
    case sI=>exact fun s V V' h f=>⟨hM6.below (qL _) h.1 f,f.same _ _ h.2.1 (.inl (by omega)),f.same _ _ h.2.2.1 (.inl (by omega)),h.2.2.2.1.ext f (fun j o e _=>.inl (qB.1 e).1),qo hJ hB6 _ _ _ h.2.2.2.2 f⟩
    case sX=>exact fun c s V V' h f=>⟨h.1,h.2.1.fr f (fun j o _ _ _ hj=>.inl (hDs _ hj)),h.2.2.elim fun q hq=>⟨q,hq.1,qo hJx hB6 _ _ _ hq.2 f⟩⟩
    case done =>
     rintro D V hD ⟨hMV,_,_,_,hJV⟩ hK;have hne:Hid (ye z wh fc b (k+1)=ye z wh fc b k++tl.flatMap (AB z k)):=qC (by rw[qa hsc,qa hsS2]);go_wp2_with fail;exact⟨gk-1,by omega,k+1,D :: Ds,_,_,_,_,_,_,_,_,_,_,_,_,_,_,_,_,_,_,_,_,_,_,_,_,_,_,_,by omega,rfl,hMV.cons (by omega) (fun h=>by have:=hDs D h;omega) hK,by rw[qa hne];exact hJV⟩
    case stop =>
     rintro D c pre V hD hpre ⟨rfl,hms,q,hq1,hq2⟩ hK;refine wpIn_wide.2 ?_;go_wp2_with fail;exact xc (T:=T) Tryz.results223 hTm.cells (D :: Ds) V (jx hms (by omega) (fun h=>by have:=hDs D h;omega) hK) (fun v w' f=>⟨⟨v,rfl⟩,.inr ⟨q,hq1,hJx _ _ _ hq2 f⟩⟩)
    case rnd =>
     intro l1 pre t V hbl hxy hI hl;simp only[yh];gi_wp2;refine⟨Fr.refl _ _,?_⟩;intro V2 f2 hI2 hl2;obtain⟨hM2,k1,k2,hfw,hJ2⟩:=hI2;have ht64:t<64:=qa htl t (C9 hxy);have cy:=(qi hM2.yb).1;have d1:=(qi k1).1;have d2:=(qi k2).1
     have hpy:ye z wh fc b k++pre.flatMap (AB z k)++xT (jD (z k)) k t <+: ye z wh fc b 64:=by
      refine List.IsPrefix.trans ?_ (qa hpr);rw[qS,qa hsS2];exact(List.prefix_append_right_inj _).2 (qx0 (AB z k) hxy)
     have hyt:=qC (AO (z k) k t ht64 l B T (fun j=>j=B1\/j=Bp\/j=0) J Jx (ye z wh fc b 64) _ hpy hY V2 hJ2);have hM2':=qC hM2;have hfw':=qC hfw;have k1':=qC k1;have k2':=qC k2;clear hM2 hfw k1 k2 hI hl f2;gi_wp2;refine⟨trivial,CallsIn.inRound l1 (callsIn_wide.2 ((qa hyt).mono ?_))⟩;intro e V4 h4;obtain⟨f4,h4⟩:=h4;have farV:∀j,y9 B j w6->C j->y9 B j V2:=fun j hj hc=>⟨hj.1,by obtain⟨c,ty,fr,q1,q2⟩:=hj.2;exact⟨c,ty,fr,q1,(qa hfw').same _ _ q2 hc⟩⟩
     have fc1:Hid (Fr (jM w6.heap.size T C) V2 V4):=qC (eR f4 hTm hB6 (fun j hj=>by
      rcases hKp2 j hj with h|h|h
      ·exact .inl (by simp[h])
      ·exact .inl (by simp[h])
      ·exact .inr (farV j h hj)))
     have hM4:Hid (Al z wh fc b l B Wb B1 Bp Ds V4):=qC ((qa hM2').rnd hTm hB f4);have kk1:Hid (V4.heap[Bs]?=some (.cells #[.int .i64 (k:Int)] 3)):=qC ((qu (by omega) (by decide) (qa k1')).keep hTm f4 (qa k1'));have kk2:Hid (V4.heap[Bs+1]?=some (.cells #[.int .u8 ((z k).toNat:Int)] 5)):=qC ((qu (by omega) (by decide) (qa k2')).keep hTm f4 (qa k2'));have hfw4:Hid (Fr (fun j _=>C j) w6 V4):=qC ((qa hfw').ext (qa fc1) (fun j o _ q=>.inl q));rcases h4 with⟨rfl,hJ4⟩|⟨rfl,q,hq1,hq2⟩
     ·gi_wp2;exact⟨qa fc1,qa hM4,qa kk1,qa kk2,qa hfw4,by rw[List.flatMap_append,<-qS];simpa[AB]using hJ4⟩
     ·gi_wp2;exact⟨qa fc1,rfl,(qa hM4).ms,q,hq1,hq2⟩
  ·have hk64:k=64:=by omega
   subst hk64;refine wpIn_wide.2 ?_;go_wp2_with fail;exact xc (T:=T) Tryz.results223 hTm.cells Ds wr (qa hM').ms (fun v w' f=>⟨⟨v,rfl⟩,.inl (hJ _ _ _ (qa hJk') f)⟩)
end
section
attribute [local go_sem] qd qe
def zN(z:Nat->UInt8):List Int:=(List.range 64).map fun i=>((z i).toNat:Int)
theorem Br(z:Nat->UInt8)(wh:Bool):Lib.indexByte (Lib.bytesOf (zN z)) (vk wh)=xR z wh:=by
 have e:Lib.bytesOf (zN z)=(List.range 64).map z:=by
  unfold Lib.bytesOf zN;rw[List.map_map];apply List.map_congr_left;intro i _;simp
 have at':∀j,j<64->((List.range 64).map z)[j]?=some (z j):=fun j hj=>by simp[hj]
 rw[e];by_cases h:∃k,k<64/\z k=vk wh/\∀j,j<k->z j≠vk wh
 ·obtain⟨k,h1,h2,h3⟩:=h;rw[qkm (k:=k) (fun j hj=>by simpa using h3 j hj) (by simpa using h2) h1];exact sx (fun j hj=>by rw[at' j (by omega)];intro he;exact h3 j hj (qP he)) (by rw[at' k h1,h2])
 ·have hno:∀n,n<=64->∀j,j<n->z j≠vk wh:=by
   intro n;induction n with
   | zero=>intro _ j hj;omega
   | succ n ih =>
    intro hn j hj he;by_cases hjn:j=n
    ·subst hjn;exact h ⟨j,by omega,he,ih (by omega)⟩
    ·exact ih (by omega) j (by omega) he
  rw[aC (fun j hj=>by simpa using hno 64 (qL _) j hj)]
  exact sw (fun j hj=>by
   have hj64:j<64:=by simpa using hj
   rw[at' j hj64];intro he;exact hno 64 (qL _) j hj64 (qP he))
theorem gP(z:Nat->UInt8)(A:Array Value)(hA:∀i,i<64->A[i]?=some (.int .u8 ((z i).toNat:Int)))(wh:Bool)(w:World) :
  Calls Tryz.prog 154 #[.agg A,.bool wh] w fun e w'=>e=.returned (.int .i64 (xR z wh))/\Gr w w':=by
 have hb:Bz z w.heap.size (w.alloc (.cells A 67)):=n6 hA (World.alloc_heap_new w _)
 have hix:Hid (∀cv:Int,cv=((vk wh).toNat:Int)->Calls Tryz.prog 226 #[.slice (some ⟨w.heap.size,0,none⟩) 64 64,.int .u8 cv] (w.alloc (.cells A 67)) fun e w'=>e=.returned (.int .i64 (xR z wh))/\w'=(w.alloc (.cells A 67))):=qC (fun cv hcv=>by
  refine(Any.bytes_IndexByte Tryz.lays187x w.heap.size 0 64 64 (zN z) cv _ (by simp[zN]) (fun i hi=>by rw[Nat.zero_add,hb i hi];simp[zN,hi])).mono ?_;rintro e w' ⟨rfl,rfl⟩;rw[hcv,<-Br];exact⟨by simp,rfl⟩)
 clear hA hb;cases wh
 ·have h1:=qC (qa hix 107 rfl);clear hix;go_enter Tryz.func154,Tryz.ntmps154;go_wp2_with(go_at_call 226;refine(qa h1).mono ?_;rintro e w' ⟨rfl,rfl⟩);go_ret;exact⟨rfl,(Gr.refl w).alloc _ _⟩
 ·have h1:=qC (qa hix 75 rfl);clear hix;go_enter Tryz.func154,Tryz.ntmps154;go_wp2_with(go_at_call 226;refine(qa h1).mono ?_;rintro e w' ⟨rfl,rfl⟩);go_ret;exact⟨rfl,(Gr.refl w).alloc _ _⟩
def yH(c u:UInt8):UInt8:=if u=0 then c else if kw c true then u-97+65 else u
theorem Fa:∀u:UInt8,IntKind.u8.wrap (IntKind.u8.wrap ((u.toNat:Int)-97)+65)=(((u-97+65:UInt8).toNat:Nat):Int):=by
 have:∀n:Fin 256,IntKind.u8.wrap (IntKind.u8.wrap (((UInt8.ofNat n.val).toNat:Int)-97)+65)=((((UInt8.ofNat n.val)-97+65:UInt8).toNat:Nat):Int):=by decide +kernel
 intro u;have:=this ⟨u.toNat,u.toNat_lt⟩;simpa using this
theorem lq(c u:UInt8)(w:World):Calls Tryz.prog 189 #[.int .u8 (c.toNat:Int),.int .u8 (u.toNat:Int)] w fun e w'=>e=.returned (.int .u8 ((yH c u).toNat:Int))/\w'=w:=by
 have hm:=qC (fun W=>qxy c true W);obtain⟨v,hv⟩:∃v,Hid (v=yH c u):=⟨_,qC rfl⟩;have hv2:Hid (v=if u=0 then c else if kw c true then u-97+65 else u):=hv;rw[<-qa hv];clear hv;by_cases h0:u=0
 ·subst h0;have hv3:Hid (v=c):=qC (by rw[qa hv2];simp);go_enter Tryz.func189,Tryz.ntmps189;go_wp2;go_ret;exact⟨by rw[qa hv3];rfl,rfl⟩
 ·have hb:((u.toNat:Int)==0)=false:=by
   rw[qM];intro h;apply h0;apply q6.1;have:u.toNat=0:=by omega
   rw[this];rfl
  obtain⟨g,hg⟩:∃g,kw c true=g:=⟨_,rfl⟩;rw[hg]at hm hv2;have hup:=Fa u;cases g
  ·have hv3:Hid (v=u):=qC (by rw[qa hv2];simp[h0]);clear hv2 hup;go_enter Tryz.func189,Tryz.ntmps189;go_wp2_with(go_at_call 148;refine(qa hm _).mono ?_;rintro e w' ⟨rfl,rfl⟩);go_ret;exact⟨by rw[qa hv3];rfl,rfl⟩
  ·have hv3:Hid (v=u-97+65):=qC (by rw[qa hv2];simp[h0]);generalize hvv:(u-97+65:UInt8)=uu at hup hv3;clear hv2 hvv;go_enter Tryz.func189,Tryz.ntmps189;go_wp2_with(go_at_call 148;refine(qa hm _).mono ?_;rintro e w' ⟨rfl,rfl⟩);go_ret;exact⟨by rw[qa hv3,<-hup];rfl,rfl⟩
def vW(z:Nat->UInt8)(i:Nat)(c:UInt8):Nat->UInt8:=fun n=>if n=i then c else z n
def cT(z:Nat->UInt8)(A:Array Value):Prop:=A.size=64/\∀i,i<64->A[i]?=some (.int .u8 ((z i).toNat:Int))
theorem cT.set{z:Nat->UInt8}{A:Array Value}(h:cT z A)(i:Nat)(c:UInt8):cT (vW z i c) (A.setIfInBounds i (.int .u8 (c.toNat:Int))):=by
 refine⟨by rw[Array.size_setIfInBounds];exact h.1,fun j hj=>?_⟩;unfold vW;by_cases e:j=i
 ·subst e;rw[Array.getElem?_setIfInBounds,qI rfl,qI (by rw[h.1];exact hj),qI rfl]
 ·rw[Array.getElem?_setIfInBounds_ne (fun x=>e x.symm),qF e];exact h.2 j hj
theorem cT.ones{z:Nat->UInt8}{A:Array Value}(h:cT z A):A.all (·.oneCell')=true:=by
 rw[Array.all_eq_true];intro i hi;have:=h.2 i (by rw[<-h.1];exact hi);rw[qQ hi]at this;rw[qP this];rfl
theorem wL(z:Nat->UInt8):cT z (zL z).toArray:=gu z
theorem xr{V:World}{b i:Nat}{A:Array Value}{t:TypeId}(h:V.heap[b]?=some (.cells A t)):V.frozen? ⟨b,i,none⟩=false:=by
 simp[World.frozen?,h]
def zE(z:Nat->UInt8)(b:Int)(m:Mv):Nat->UInt8 :=
 let z1:=vW (vW z m.1 46) m.2.1 (yH (z m.1) m.2.2)
 if jD (z m.1)&&((m.2.1:Int)==b)then vW z1 (m.1/8*8+m.2.1%8) 46
 else if jA (z m.1)&&(m.2.1==m.1+2)then vW (vW z1 (m.1+1) (z1 (m.1+3))) (m.1+3) 46
 else if jA (z m.1)&&(m.2.1+2==m.1)then vW (vW z1 (m.1-1) (z1 (m.1-4))) (m.1-4) 46
 else z1
end
end Go.Proofs.YtnfakamfmkhlbabGreatDoor.C
