import Derived.Test.YtnfakamfmkhlbabGreatDoorUm38
import Derived.Test.YtnfakamfmkhlbabGreatDoorKz2
import Derived.Test.YtnfakamfmkhlbabGreatDoorKz3
set_option maxRecDepth 100000
set_option maxHeartbeats 4000000
set_option linter.unusedSimpArgs false
namespace Go.Proofs.YtnfakamfmkhlbabGreatDoor.C
open Go.ChangeShapes Go.WideShapes Go.ChangeAt Go.RowKit Go.Shelf Go.Proofs.YtnfakamfmkhlbabGreatDoor.P
attribute [local go_sem] qd qe Oper.semAt_some
theorem cN(a c:ByteArray):(a.toList==c.toList)=decide (a=c):=by
 by_cases e:a=c
 ·subst e;simp
 ·rw[qE e,qM];intro q;rw[Lib.toList_data,Lib.toList_data]at q;exact e (bytes_inj q)
structure Rf(w:World)(Bx B1 B2 B3:Nat)(PA M:Array Value)(tx:ByteArray)(W:World):Prop where
 q:W.heap[B1]?=some (.cells jP 74)
 pa:W.heap[B2]?=some (.cells PA 70)
 s:W.heap[B3]?=some (.cells #[.string tx] 9)
 mv:W.heap[Bx]?=some (.cells M 87)
 gr:Gr w W
theorem Rf.next{w W W':World}{Bx B1 B2 B3:Nat}{PA M:Array Value}{tx:ByteArray}(h:Rf w Bx B1 B2 B3 PA M tx W)(g:Gr W W'):Rf w Bx B1 B2 B3 PA M tx W' :=
 ⟨(Below.block g _ (qB.1 h.q).1).trans h.q,(Below.block g _ (qB.1 h.pa).1).trans h.pa,(Below.block g _ (qB.1 h.s).1).trans h.s,(Below.block g _ (qB.1 h.mv).1).trans h.mv,Gr.trans h.gr g⟩
theorem Rf.cells{w W:World}{Bx B1 B2 B3:Nat}{PA:Array Value}{tx:ByteArray}{a c d:Value}(h:Rf w Bx B1 B2 B3 PA #[a,c,d] tx W):W.cell? ⟨B1,0,none⟩=some (.func (.func 60) #[] #[])/\W.cell? ⟨B1,1,none⟩=some (.func (.func 61) #[] #[])/\W.cell? ⟨Bx,0,none⟩=some a/\W.cell? ⟨Bx,1,none⟩=some c/\W.cell? ⟨Bx,2,none⟩=some d/\W.cell? ⟨B3,0,none⟩=some (.string tx):=by
 obtain⟨m0,m1,m2⟩:=qm h.mv;exact⟨by rw[cell_of_row _ _ _ _ _ _ h.q];rfl,by rw[cell_of_row _ _ _ _ _ _ h.q];rfl,m0,m1,m2,(qi h.s).1⟩
theorem mH{z:Nat->UInt8}{wh:Bool}{fc:Nat->Bool}{b h g:Int}{PA:Array Value}(r:jE z wh fc b h g PA)(o:Ok z wh fc b h g)(tx:ByteArray)(f t:Nat)(u:UInt8)(hx:(f,t,u)∈xC z wh fc b)(B1 B2 B3:Nat)(w:World)(k1:w.heap[B1]?=some (.cells jP 74))(k2:w.heap[B2]?=some (.cells PA 70))(k3:w.heap[B3]?=some (.cells #[.string tx] 9))(hT:jF w)(hC:jQ w)(hH:vJ w) :
  Calls Tryz.prog 68 #[.agg #[.int .i64 (f:Int),.int .i64 (t:Int),.int .u8 (u.toNat:Int)],.pointer (some ⟨B1,0,none⟩),.pointer (some ⟨B2,0,none⟩),.pointer (some ⟨B3,0,none⟩)] w fun e w'=>e=.returned (.bool (decide (xJ (uj z wh fc b (f,t,u))=tx)))/\Gr w w':=by
 have hwr:=qC (fun W (gW:Gr w W)=>pe r o f t u hx W (hT.gr gW) (hC.gr gW) (hH.gr gW));have hi72:(Tryz.prog.info? 70).map (·.size)=some PA.toList.length:=by rw[Array.length_toList,r.size];exact jJ
 have g1:Gr w (w.alloc (.cells #[.int .i64 (f:Int),.int .i64 (t:Int),.int .u8 (u.toNat:Int)] 87)):=(Gr.refl w).alloc _ _;have hq:Rf w w.heap.size B1 B2 B3 PA #[.int .i64 (f:Int),.int .i64 (t:Int),.int .u8 (u.toNat:Int)] tx (w.alloc (.cells #[.int .i64 (f:Int),.int .i64 (t:Int),.int .u8 (u.toNat:Int)] 87)):=⟨(Below.block g1 _ (qB.1 k1).1).trans k1,(Below.block g1 _ (qB.1 k2).1).trans k2,(Below.block g1 _ (qB.1 k3).1).trans k3,World.alloc_heap_new w _,g1⟩;generalize xJ (uj z wh fc b (f,t,u))=SX at hwr ⊢;rw[<-cN];simp only[jP,zG]at hwr;clear hT hC hH o hx g1 k1 k2 k3 r;go_enter Tryz.func68,Tryz.ntmps68;go_upto_region 1 with fail;show Code.wp _ _ _ _ (w.alloc (.cells #[.int .i64 (f:Int),.int .i64 (t:Int),.int .u8 (u.toNat:Int)] 87));generalize (w.alloc (.cells #[.int .i64 (f:Int),.int .i64 (t:Int),.int .u8 (u.toNat:Int)] 87))=wA at hq ⊢;refine wp_region_held_drew (S:=Rf w w.heap.size B1 B2 B3 PA #[.int .i64 (f:Int),.int .i64 (t:Int),.int .u8 (u.toNat:Int)] tx) (by kernel_rfl) (hq.next (Gr.refl _).drew) (fun qD=>?_);refine C.ty 0 (.agg #[.func (.func 60) #[] #[],.func (.func 61) #[] #[]]) rfl (Or.inl ⟨by rfl,fun w hw=>(by obtain⟨c0,c1,m0,m1,m2,cs⟩:=hw.cells;go_simp)⟩) qD ?_;refine C.ty 1 (.agg PA) rfl (wY hi72 (by rfl) _ rfl B2 rfl (fun _ h=>h.pa)) qD ?_;refine C.ty 2 (.agg #[.int .i64 (f:Int),.int .i64 (t:Int),.int .u8 (u.toNat:Int)]) rfl (Or.inl ⟨by rfl,fun w hw=>(by obtain⟨c0,c1,m0,m1,m2,cs⟩:=hw.cells;go_simp)⟩) qD ?_;refine C.ty 4 (.string tx) rfl (Or.inl ⟨by rfl,fun w hw=>(by obtain⟨c0,c1,m0,m1,m2,cs⟩:=hw.cells;go_simp)⟩) qD ?_;refine C.rd 3 fun K hK=>?_
 go_simp;refine(qa hwr _ qD.gr).mono ?_;rintro e wc ⟨rfl,hgc⟩;refine hK.out _ _ (qD.next hgc) (fun qD=>?_);clear hK K hgc
 try simp only[C.py]
 refine C.tq 5 (.bool (SX.toList==tx.toList)) qD ?_;refine C.rd 6 fun K hK=>?_
 go_simp;refine hK.out _ _ qD (fun qD=>?_);clear hK K
 try simp only[C.py]
 refine wpAnyH_done (by kernel_rfl) ?_ _;go_wp2_with fail;go_ret;exact⟨rfl,qD.gr⟩
def cU(z:Nat->UInt8)(wh:Bool)(fc:Nat->Bool)(b:Int)(tx:ByteArray):List Mv:=(xC z wh fc b).filter fun x=>decide (xJ (uj z wh fc b x)=tx)
structure E0(w:World)(PA:Array Value)(tx:ByteArray)(W:World):Prop where
 q:W.heap[w.heap.size]?=some (.cells jP 74)
 pa:W.heap[w.heap.size+1]?=some (.cells PA 70)
 s:W.heap[w.heap.size+1+1]?=some (.cells #[.string tx] 9)
 mv:W.heap[w.heap.size+1+1+1]?=some (.cells #[.int .i64 0,.int .i64 0,.int .u8 0] 87)
 gr:Gr w W
theorem E0.next{w W W':World}{PA:Array Value}{tx:ByteArray}(h:E0 w PA tx W)(g:Gr W W'):E0 w PA tx W' :=
 ⟨(Below.block g _ (qB.1 h.q).1).trans h.q,(Below.block g _ (qB.1 h.pa).1).trans h.pa,(Below.block g _ (qB.1 h.s).1).trans h.s,(Below.block g _ (qB.1 h.mv).1).trans h.mv,Gr.trans h.gr g⟩
theorem E0.start(w:World)(PA:Array Value)(tx:ByteArray):E0 w PA tx ((((w.alloc (.cells jP 74)).alloc (.cells PA 70)).alloc (.cells #[.string tx] 9)).alloc (.cells #[.int .i64 0,.int .i64 0,.int .u8 0] 87)):=by
 have g:Gr w ((((w.alloc (.cells jP 74)).alloc (.cells PA 70)).alloc (.cells #[.string tx] 9)).alloc (.cells #[.int .i64 0,.int .i64 0,.int .u8 0] 87)):=((((Gr.refl w).alloc _ _).alloc _ _).alloc _ _).alloc _ _;refine⟨?_,?_,?_,?_,g⟩<;>(simp only[World.alloc,Array.getElem?_push,Array.size_push];first|(simp;done)|(simp;repeat(rw[qF (by omega)])))
theorem nM{z:Nat->UInt8}{wh:Bool}{fc:Nat->Bool}{b h g:Int}{PA:Array Value}(r:jE z wh fc b h g PA)(o:Ok z wh fc b h g)(tx:ByteArray)(w:World)(hT:jF w)(hC:jQ w)(hH:vJ w) :
  Calls Tryz.prog 37 #[.agg jP,.agg PA,.string tx] w fun e w'=>e=.returned (.tuple #[gJ ((cU z wh fc b tx).headD (0,0,0)),.bool (!(cU z wh fc b tx).isEmpty)])/\Gr w w':=by
 have hmf:∀(fn:Fn)(first cap:Array Value)(w:World),(Instr.makeFunc fn first cap).run Tryz.prog w=.ok (.func fn first cap) w:=fun _ _ _ _=>rfl
 have hi72:(Tryz.prog.info? 70).map (·.size)=some PA.size:=by rw[r.size];exact jJ
 have hq:=qC (E0.start w PA tx);obtain⟨⟨f,t,u⟩,hhd⟩:∃x,Hid ((cU z wh fc b tx).headD (0,0,0)=x):=⟨_,qC rfl⟩
 have hfst:Hid (∀(Bp Bt Bf:Nat)(W:World),E0 w PA tx W->W.heap[Bp]?=some (.cells PA 70)->W.heap[Bt]?=some (.cells #[.func (.func 128) #[] #[.pointer (some ⟨Bp,0,none⟩)]] 141)->W.heap[Bf]?=some (.cells #[.func (.func 68) #[] #[.pointer (some ⟨w.heap.size,0,none⟩),.pointer (some ⟨w.heap.size+1,0,none⟩),.pointer (some ⟨w.heap.size+1+1,0,none⟩)]] 143) →
   Calls Tryz.prog 66 #[.func (.func 155) #[] #[.pointer (some ⟨Bt,0,none⟩),.pointer (some ⟨Bf,0,none⟩)]] W fun e w'=>e=.returned (.tuple #[.agg #[.int .i64 (f:Int),.int .i64 (t:Int),.int .u8 (u.toNat:Int)],.bool (!(cU z wh fc b tx).isEmpty)])/\Gr W w'):=qC (fun Bp Bt Bf W hW hp ht hf=>by
  have hTW:=hT.gr hW.gr;have hCW:=hC.gr hW.gr;have hHW:=hH.gr hW.gr;have hit0:=qxq r o.lay o.b0 o.b1 Bp (fun _=>False) (fun _ q=>q.elim) W hp hTW hCW;have hit1:=hit0.mono (C':=fun k=>(k=Bp\/k=2\/k=3)\/k=w.heap.size\/k=w.heap.size+1\/k=w.heap.size+1+1\/k=1) (fun k q=>.inl q)
  have hlow:∀k,((k=Bp\/k=2\/k=3)\/k=w.heap.size\/k=w.heap.size+1\/k=w.heap.size+1+1\/k=1)->k<W.heap.size:=by
   rintro k ((rfl|rfl|rfl)|rfl|rfl|rfl|rfl)
   ·exact(qB.1 hp).1
   ·exact hTW.2
   ·exact hCW.2
   ·exact(qB.1 hW.q).1
   ·exact(qB.1 hW.pa).1
   ·exact(qB.1 hW.s).1
   ·exact hHW.2
  have hit2:=qkg hit1 (enters_of Tryz.func128 (by kernel_rfl) rfl) (enters_of Tryz.func68 (by kernel_rfl) rfl) (fun _ q=>q.elim) (fun _ _ q=>q) hlow Bt Bf (fun x=>decide (xJ (uj z wh fc b x)=tx)) ht hf (by
   rintro⟨f',t',u'⟩ hx V fV;exact mH r o tx f' t' u' hx w.heap.size (w.heap.size+1) (w.heap.size+1+1) V (fV.same _ _ hW.q (.inr (.inl rfl))) (fV.same _ _ hW.pa (.inr (.inr (.inl rfl)))) (fV.same _ _ hW.s (.inr (.inr (.inr (.inl rfl))))) (hTW.fr fV (fun _=>.inl (.inr (.inl rfl)))) (hCW.fr fV (fun _=>.inl (.inr (.inr rfl)))) (hHW.fr fV (fun _=>.inr (.inr (.inr (.inr rfl))))))
  refine(qzv hit2 (enters_of Tryz.func155 (by kernel_rfl) rfl) (by
   rintro k (q|rfl|rfl)
   ·exact hlow k q
   ·exact(qB.1 ht).1
   ·exact(qB.1 hf).1)).mono fun e w' k=>⟨?_,k.2⟩
  have:=qa hhd;unfold cU at this;rw[k.1,this];rfl)
 rw[qa hhd];generalize (!(cU z wh fc b tx).isEmpty)=R at hfst ⊢;clear hhd hT hC hH o r;simp only[jP,zG,gJ]at hq ⊢;go_enter Tryz.func37,Tryz.ntmps37;go_upto_region 1 with fail;show Code.wp _ _ _ _ ((((w.alloc (.cells #[.func (.func 60) #[] #[],.func (.func 61) #[] #[]] 74)).alloc (.cells PA 70)).alloc (.cells #[.string tx] 9)).alloc (.cells #[.int .i64 0,.int .i64 0,.int .u8 0] 87));generalize ((((w.alloc (.cells #[.func (.func 60) #[] #[],.func (.func 61) #[] #[]] 74)).alloc (.cells PA 70)).alloc (.cells #[.string tx] 9)).alloc (.cells #[.int .i64 0,.int .i64 0,.int .u8 0] 87))=w0 at hq ⊢;have c1:w0.cell? ⟨w.heap.size,1,none⟩=some (.func (.func 61) #[] #[]):=by rw[cell_of_row _ _ _ _ _ _ (qa hq).q];rfl
 have hpa:=qC (qa hq).pa;have hmk:=qC (fun W=>zk PA W);have hon:=qC (fun g gf lb lf W=>dV g gf lb lf W)
 go_wp2_with(first
  | (go_at_call 61;refine(qa hmk _).mono ?_;rintro e w2 ⟨rfl,hp2,hg2⟩)
  | (go_at_call 67;refine(qa hon _ _ _ _ _).mono ?_;rintro e w3 ⟨rfl,ht3,hf3,hg3⟩;have hq3:=qC ((qa hq).next (Gr.trans hg2 hg3));have hp3:=(Below.block hg3 _ (qB.1 hp2).1).trans hp2)
  | (go_at_call 66;refine(qa hfst _ _ _ _ (qa hq3) hp3 ht3 hf3).mono ?_;rintro e w4 ⟨rfl,hg4⟩;have hq4:=qC ((qa hq3).next hg4))
  | (refine wpList_store_row rfl 87 _ _ rfl (w.heap.size+1+1+1) #[.int .i64 (f:Int),.int .i64 (t:Int),.int .u8 (u.toNat:Int)] rfl rfl 87 #[.int .i64 0,.int .i64 0,.int .u8 0] (qa hq4).mv xW rfl (by simp[Value.oneCell']) ?_)
  | (refine wpList_load_row rfl 70 _ rfl (w.heap.size+1) rfl 70 PA (0,0) _ (qa hpa) Tryz.underlying70 rfl hi72 ?_))
 exact bodyPost_ret (v:=.tuple #[.agg #[.int .i64 (f:Int),.int .i64 (t:Int),.int .u8 (u.toNat:Int)],.bool R]) (qj Tryz.results37 _ _ (w.heap.size+1+1+1) 87 #[.int .i64 (f:Int),.int .i64 (t:Int),.int .u8 (u.toNat:Int)] (0,0) _ rfl (setRow_heap _ _ _ _ _ _ (qa hq4).mv) Tryz.underlying87 rfl xW) rfl ⟨rfl,(qa hq4).gr.setRow _ (by omega) _⟩
theorem tN{s:ByteArray}{p:pH}(hr:xG s=some p)(hc:xP p=true){x:Mv}(hx:x∈xC (xM p) p.white p.castle p.behind):x∈xC (xM p) p.white (yC p.castle) p.behind:=by
 obtain⟨hC,h0,h1⟩:=Fp hr hc;exact(EC hC (Ok.of hr hc).good h0 h1 (fun i hi=>(fU p.castle hi).symm) x).1 hx
theorem qv5(s t:ByteArray):(∃p x,xG s=some p/\xP p=true/\yn t=some x/\x∈xC (xM p) p.white p.castle p.behind/\∀e,pF s t e->e=.returned (.tuple #[.agg (jV p),.agg (z8 x),.int .i64 0])) ∨
  (∃k,k≠0/\iO s t k/\∀e,pF s t e->e=.returned (.tuple #[.agg Tryz.zeroCells70,.agg zC,.int .i64 k])):=by
 rcases xy s with⟨p,hr,hcan,_⟩|⟨k,hk,hbad,_⟩
 ·have nobad:∀k,¬ iP s k:=fun k h=>by
   rcases h with⟨_,a⟩|⟨_,q,a,b⟩
   ·rw[hr]at a;cases a
   ·rw[hr]at a;rw[<-qP a,hcan]at b;cases b
  cases hm:yn t with
  | none =>
   refine .inr ⟨1,by decide,.inr (.inl ⟨rfl,p,hr,hcan,hm⟩),fun e h=>?_⟩;rcases h with⟨k,a,_⟩|⟨q,_,_,_,rfl⟩|⟨q,x,_,_,a,_⟩|⟨q,x,_,_,a,_⟩
   ·exact absurd a (nobad k)
   ·rfl
   ·rw[hm]at a;cases a
   ·rw[hm]at a;cases a
  | some x =>
   by_cases hx:x∈xC (xM p) p.white p.castle p.behind
   ·refine .inl ⟨p,x,hr,hcan,rfl,hx,fun e h=>?_⟩;rcases h with⟨k,a,_⟩|⟨q,_,_,a,_⟩|⟨q,y,a,_,b,c,_⟩|⟨q,y,a,_,b,_,rfl⟩
    ·exact absurd a (nobad k)
    ·rw[hm]at a;cases a
    ·rw[hr]at a;rw[hm]at b;rw[<-qP a,<-qP b]at c;exact absurd hx c
    ·rw[hr]at a;rw[hm]at b;rw[<-qP a,<-qP b]
   ·refine .inr ⟨4,by decide,.inr (.inr ⟨rfl,p,x,hr,hcan,hm,hx⟩),fun e h=>?_⟩;rcases h with⟨k,a,_⟩|⟨q,_,_,a,_⟩|⟨q,y,_,_,_,_,rfl⟩|⟨q,y,a,_,b,c,_⟩
    ·exact absurd a (nobad k)
    ·rw[hm]at a;cases a
    ·rfl
    ·rw[hr]at a;rw[hm]at b;rw[<-qP a,<-qP b]at c;exact absurd c hx
 ·refine .inr ⟨k,hk,.inl hbad,fun e h=>?_⟩
  have nogood:∀q,xG s=some q->xP q=true->False:=fun q a b=>by
   rcases hbad with⟨_,c⟩|⟨_,r,c,d⟩
   ·rw[c]at a;cases a
   ·rw[c]at a;rw[<-qP a,d]at b;cases b
  rcases h with⟨k',a,rfl⟩|⟨q,a,b,_⟩|⟨q,x,a,b,_⟩|⟨q,x,a,b,_⟩
  ·have:k'=k:=by
    rcases hbad with⟨rfl,c⟩|⟨rfl,r,c,d⟩<;>rcases a with⟨rfl,c'⟩|⟨rfl,r',c',d'⟩
    ·rfl
    ·rw[c]at c';cases c'
    ·rw[c]at c';cases c'
    ·rfl
   rw[this]
  ·exact(nogood q a b).elim
  ·exact(nogood q a b).elim
  ·exact(nogood q a b).elim
structure HJ(w:World)(b1:Nat)(A M:Array Value)(W:World):Prop where
 pa:W.heap[b1]?=some (.cells A 70)
 mv:W.heap[b1+1]?=some (.cells M 87)
 gr:Gr w W
theorem HJ.next{w W W':World}{b1:Nat}{A M:Array Value}(h:HJ w b1 A M W)(g:Gr W W'):HJ w b1 A M W' :=
 ⟨(Below.block g _ (qB.1 h.pa).1).trans h.pa,(Below.block g _ (qB.1 h.mv).1).trans h.mv,Gr.trans h.gr g⟩
def vl(s t:ByteArray)(e:Ending):Prop :=
 (∃k,k≠0/\iO s t k/\e=.returned (.tuple #[.string ⟨#[]⟩,.int .i64 k])) ∨
 (∃p x,xG s=some p/\xP p=true/\yn t=some x/\x∈xC (xM p) p.white p.castle p.behind/\e=.returned (.tuple #[.string (xJ (uj (xM p) p.white (yC p.castle) p.behind x)),.int .i64 0]))
theorem qkc(s t:ByteArray)(hs:s.size<4294967281)(ht:t.size<4294967281)(m:Int)(w:World)(hc:Ct m w)(htb:uV w):Calls Tryz.prog 14 #[.string s,.string t] w fun e w'=>vl s t e/\Gr w w':=by
 have h1:=qC (eK s t hs ht m w hc htb);rcases qv5 s t with⟨p,x,hr,hcan,hm,hx,hone⟩|⟨k,hk,herr,hone⟩
 ·have h2:Hid (Calls Tryz.prog 31 #[.string s,.string t] w fun e w'=>e=.returned (.tuple #[.agg (jV p),.agg (z8 x),.int .i64 0])/\Gr w w'):=qC ((qa h1).mono fun e w' h=>⟨hone e h.1,h.2⟩);have hend:Hid (vl s t (.returned (.tuple #[.string (xJ (uj (xM p) p.white (yC p.castle) p.behind x)),.int .i64 0]))):=qC (.inr ⟨p,x,hr,hcan,hm,hx,rfl⟩);have o:=Ok.of hr hcan;have hxf:=tN hr hcan hx;have hrow:=jo hr;have hz:=hrow.size;have ho:=qC (qx hrow);obtain⟨f,tt,u⟩:=x;have hwr:Hid (∀W,jF W->jQ W->vJ W->Calls Tryz.prog 32 #[.agg jP,.agg (jV p),.agg #[.int .i64 (f:Int),.int .i64 (tt:Int),.int .u8 (u.toNat:Int)]] W fun e w'=>e=.returned (.string (xJ (uj (xM p) p.white (yC p.castle) p.behind (f,tt,u))))/\Gr W w'):=qC (fun W a c d=>pe (F5 hrow) o f tt u hxf W a c d);have hqk:=qC (fun W=>qxk W);have hmv:z8 (f,tt,u)=#[.int .i64 (f:Int),.int .i64 (tt:Int),.int .u8 (u.toNat:Int)]:=rfl;rw[hmv]at h2;generalize xJ (uj (xM p) p.white (yC p.castle) p.behind (f,tt,u))=S at hend hwr;generalize jV p=A at h2 hz ho hwr;have htb':=qC htb;simp only[jP,zG]at hwr hqk;have hc':=qC hc;clear h1 hone hr hcan hm hx hxf hrow hc htb hs ht hmv o;go_enter Tryz.func14,Tryz.ntmps14
  go_upto_region 2 with(first
   | (go_at_call 31;refine(qa h2).mono ?_;rintro e w3 ⟨rfl,hg3⟩)
   | (refine wpList_store_row rfl 70 _ _ rfl w3.heap.size A rfl rfl 70 _ (by first|exact heap_alloc_new _ _|exact(x6 w3 _ _).1) (by rw[hz];exact q9) (by rw[hz];exact xF.symm) (qa ho) ?_)
   | (refine wpList_store_row rfl 87 _ _ rfl (w3.heap.size+1) #[.int .i64 (f:Int),.int .i64 (tt:Int),.int .u8 (u.toNat:Int)] rfl rfl 87 zC (by rw[setRow_other _ _ _ _ (by omega)];exact(x6 w3 _ _).2) xW rfl (by simp[Value.oneCell']) ?_))
  obtain⟨y1,y2⟩:=x6 w3 (.cells Tryz.zeroCells70 70) (.cells zC 87);have hg6:Gr w3 ((((w3.alloc (.cells Tryz.zeroCells70 70)).alloc (.cells zC 87)).setRow w3.heap.size A).setRow (w3.heap.size+1) #[.int .i64 (f:Int),.int .i64 (tt:Int),.int .u8 (u.toNat:Int)]):=((((Gr.refl w3).alloc _ _).alloc _ _).setRow _ (qL _) _).setRow _ (by omega) _;have hb1:((((w3.alloc (.cells Tryz.zeroCells70 70)).alloc (.cells zC 87)).setRow w3.heap.size A).setRow (w3.heap.size+1) #[.int .i64 (f:Int),.int .i64 (tt:Int),.int .u8 (u.toNat:Int)]).heap[w3.heap.size]?=some (.cells A 70):=by rw[setRow_other _ _ _ _ (by omega)];exact setRow_heap _ _ _ _ _ _ y1
  have hb2:((((w3.alloc (.cells Tryz.zeroCells70 70)).alloc (.cells zC 87)).setRow w3.heap.size A).setRow (w3.heap.size+1) #[.int .i64 (f:Int),.int .i64 (tt:Int),.int .u8 (u.toNat:Int)]).heap[w3.heap.size+1]?=some (.cells #[.int .i64 (f:Int),.int .i64 (tt:Int),.int .u8 (u.toNat:Int)] 87):=setRow_heap _ _ _ _ _ _ (by rw[setRow_other _ _ _ _ (by omega)];exact y2);show Code.wp _ _ _ _ ((((w3.alloc (.cells Tryz.zeroCells70 70)).alloc (.cells zC 87)).setRow w3.heap.size A).setRow (w3.heap.size+1) #[.int .i64 (f:Int),.int .i64 (tt:Int),.int .u8 (u.toNat:Int)]);generalize ((((w3.alloc (.cells Tryz.zeroCells70 70)).alloc (.cells zC 87)).setRow w3.heap.size A).setRow (w3.heap.size+1) #[.int .i64 (f:Int),.int .i64 (tt:Int),.int .u8 (u.toNat:Int)])=w6 at hg6 hb1 hb2 ⊢;generalize w3.heap.size=b1 at hb1 hb2 ⊢;have m0:w6.cell? ⟨b1+1,0,none⟩=some (.int .i64 (f:Int)):=by rw[cell_of_row _ _ _ _ _ _ hb2];rfl
  have m1:w6.cell? ⟨b1+1,1,none⟩=some (.int .i64 (tt:Int)):=by rw[cell_of_row _ _ _ _ _ _ hb2];rfl
  have m2:w6.cell? ⟨b1+1,2,none⟩=some (.int .u8 (u.toNat:Int)):=by rw[cell_of_row _ _ _ _ _ _ hb2];rfl
  have hS6:Hid (HJ w b1 A #[.int .i64 (f:Int),.int .i64 (tt:Int),.int .u8 (u.toNat:Int)] w6):=qC ⟨hb1,hb2,Gr.trans hg3 hg6⟩;have hi72:(Tryz.prog.info? 70).map (·.size)=some A.toList.length:=by rw[Array.length_toList,hz];exact jJ
  clear h2 hg3 hg6 hb1 hb2 y1 y2;go_upto_region 4 with fail;refine wp_region_held_drew (S:=HJ w b1 A #[.int .i64 (f:Int),.int .i64 (tt:Int),.int .u8 (u.toNat:Int)]) (by kernel_rfl) ((qa hS6).next (Gr.refl _).drew) (fun qD=>?_);refine C.ty 1 (.agg A) rfl (wY hi72 (by rfl) _ rfl b1 rfl (fun _ h=>h.pa)) qD ?_;refine C.ty 2 (.agg #[.int .i64 (f:Int),.int .i64 (tt:Int),.int .u8 (u.toNat:Int)]) rfl (Or.inl ⟨by rfl,fun w hw=>(by obtain⟨m0,m1,m2⟩:=qm hw.mv;go_simp)⟩) qD ?_;refine C.rd 0 fun K hK=>?_
  go_simp;refine(qa hqk _).mono ?_;rintro e wc ⟨rfl,hgc⟩;refine hK.out _ _ (qD.next hgc) (fun qD=>?_);clear hK K hgc
  try simp only[C.py]
  refine C.rd 3 fun K hK=>?_
  go_simp;refine(qa hwr _ ((qa hc').gr qD.gr).tab ((qa htb').gr qD.gr).cas ((qa hc').gr qD.gr).homes).mono ?_;rintro e wc ⟨rfl,hgc⟩;refine hK.out _ _ (qD.next hgc) (fun qD=>?_);clear hK K hgc
  try simp only[C.py]
  refine C.tq 4 (.string S) qD ?_;refine C.tq 5 (.int .i64 0) qD ?_;refine wpAnyH_done (by kernel_rfl) ?_ _;go_wp2_with fail;go_ret2;exact⟨qa hend,qD.gr⟩
 ·have h2:Hid (Calls Tryz.prog 31 #[.string s,.string t] w fun e w'=>e=.returned (.tuple #[.agg Tryz.zeroCells70,.agg zC,.int .i64 k])/\Gr w w'):=qC ((qa h1).mono fun e w' h=>⟨hone e h.1,h.2⟩);have hend:Hid (vl s t (.returned (.tuple #[.string ⟨#[]⟩,.int .i64 k]))):=qC (.inl ⟨k,hk,herr,rfl⟩);have k2:(k != 0)=true:=by rw[qU];exact hk
  clear h1 hone hk herr hc htb hs ht;go_enter Tryz.func14,Tryz.ntmps14
  go_upto_region 2 with(first
   | (go_at_call 31;refine(qa h2).mono ?_;rintro e w3 ⟨rfl,hg3⟩)
   | (refine wpList_store_row rfl 70 _ _ rfl w3.heap.size Tryz.zeroCells70 rfl rfl 70 _ (by first|exact heap_alloc_new _ _|exact(x6 w3 _ _).1) (by rw[xF];exact q9) rfl xH ?_)
   | (refine wpList_store_row rfl 87 _ _ rfl (w3.heap.size+1) zC rfl rfl 87 zC (by rw[setRow_other _ _ _ _ (by omega)];exact(x6 w3 _ _).2) xW rfl vP ?_))
  have hg6:Gr w3 ((((w3.alloc (.cells Tryz.zeroCells70 70)).alloc (.cells zC 87)).setRow w3.heap.size Tryz.zeroCells70).setRow (w3.heap.size+1) zC):=((((Gr.refl w3).alloc _ _).alloc _ _).setRow _ (qL _) _).setRow _ (by omega) _;show Code.wp _ _ _ _ ((((w3.alloc (.cells Tryz.zeroCells70 70)).alloc (.cells zC 87)).setRow w3.heap.size Tryz.zeroCells70).setRow (w3.heap.size+1) zC);generalize ((((w3.alloc (.cells Tryz.zeroCells70 70)).alloc (.cells zC 87)).setRow w3.heap.size Tryz.zeroCells70).setRow (w3.heap.size+1) zC)=w6 at hg6 ⊢;have hgw:=qC (Gr.trans hg3 hg6);clear h2 hg3 hg6;go_wp2_with fail;go_ret2;exact⟨qa hend,qa hgw⟩
end Go.Proofs.YtnfakamfmkhlbabGreatDoor.C
