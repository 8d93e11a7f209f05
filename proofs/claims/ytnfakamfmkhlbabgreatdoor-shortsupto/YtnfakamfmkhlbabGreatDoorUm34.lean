import Derived.Test.YtnfakamfmkhlbabGreatDoorUm33
import Derived.Test.YtnfakamfmkhlbabGreatDoorKz2
import Derived.Test.YtnfakamfmkhlbabGreatDoorKz3
set_option maxRecDepth 100000
set_option maxHeartbeats 4000000
set_option linter.unusedSimpArgs false
namespace Go.Proofs.YtnfakamfmkhlbabGreatDoor.C
open Go.ChangeShapes Go.WideShapes Go.ChangeAt Go.RowKit Go.Shelf Go.Proofs.YtnfakamfmkhlbabGreatDoor.P
section
attribute [local go_sem] qd qe Oper.semAt_some
def zC:Array Value:=#[.int .i64 0,.int .i64 0,.int .u8 0]
def pF(s t:ByteArray)(e:Ending):Prop :=
 (∃k,iP s k/\e=.returned (.tuple #[.agg Tryz.zeroCells70,.agg zC,.int .i64 k])) ∨
 (∃p,xG s=some p/\xP p=true/\yn t=none/\e=.returned (.tuple #[.agg Tryz.zeroCells70,.agg zC,.int .i64 1])) ∨
 (∃p x,xG s=some p/\xP p=true/\yn t=some x/\x∉xC (xM p) p.white p.castle p.behind/\e=.returned (.tuple #[.agg Tryz.zeroCells70,.agg zC,.int .i64 4])) ∨
 (∃p x,xG s=some p/\xP p=true/\yn t=some x/\x∈xC (xM p) p.white p.castle p.behind/\e=.returned (.tuple #[.agg (jV p),.agg (z8 x),.int .i64 0]))
structure Tm(w W:World):Prop where
 ps:W.heap[w.heap.size]?=some (.cells Tryz.zeroCells70 70)
 mv:W.heap[w.heap.size+1]?=some (.cells zC 87)
 lt:w.heap.size+1<W.heap.size
 gr:Gr w W
theorem Tm.next{w W W':World}(h:Tm w W)(g:Gr W W'):Tm w W' :=
 ⟨(Below.block g _ (Nat.lt_of_succ_lt h.lt)).trans h.ps,(Below.block g _ h.lt).trans h.mv,qN h.lt (Below.size g),Gr.trans h.gr g⟩
theorem Tm.start(w:World):Tm w ((w.alloc (.cells Tryz.zeroCells70 70)).alloc (.cells zC 87)):=by
 obtain⟨e1,e2⟩:=x6 w (.cells Tryz.zeroCells70 70) (.cells zC 87);exact⟨e1,e2,by rw[World.size_alloc,World.size_alloc];omega,((Gr.refl w).alloc _ _).alloc _ _⟩
theorem vP:zC.all (·.oneCell')=true:=by simp[zC,Value.oneCell']
theorem Tm.out{w W:World}(h:Tm w W)(A M:Array Value):((W.setRow w.heap.size A).setRow (w.heap.size+1) M).heap[w.heap.size]?=some (.cells A 70)/\((W.setRow w.heap.size A).setRow (w.heap.size+1) M).heap[w.heap.size+1]?=some (.cells M 87)/\Gr w ((W.setRow w.heap.size A).setRow (w.heap.size+1) M) :=
 ⟨by rw[setRow_other _ _ _ _ (by omega)];exact setRow_heap _ _ _ _ _ _ h.ps,setRow_heap _ _ _ _ _ _ (by rw[setRow_other _ _ _ _ (by omega)];exact h.mv),(h.gr.setRow _ (qL _) _).setRow _ (by omega) _⟩
theorem Tm.second{w W:World}(h:Tm w W)(A:Array Value):(W.setRow w.heap.size A).heap[w.heap.size+1]?=some (.cells zC 87):=by rw[setRow_other _ _ _ _ (by omega)];exact h.mv
theorem rL{W:World}{b:Nat}{A:Array Value}{ty:TypeId}(h:W.heap[b]?=some (.cells A ty))(_hl:b<W.heap.size):zJ b A W:=qy h
structure T2(w:World)(b1:Nat)(A:Array Value)(b2:Nat)(M:Array Value)(W:World):Prop where
 tm:Tm w W
 p:W.heap[b1]?=some (.cells A 70)
 lp:b1<W.heap.size
 m:W.heap[b2]?=some (.cells M 87)
 lm:b2<W.heap.size
theorem T2.next{w W W':World}{b1 b2:Nat}{A M:Array Value}(h:T2 w b1 A b2 M W)(g:Gr W W'):T2 w b1 A b2 M W' :=
 ⟨h.tm.next g,(Below.block g _ h.lp).trans h.p,qN h.lp (Below.size g),(Below.block g _ h.lm).trans h.m,qN h.lm (Below.size g)⟩
structure T3(w:World)(b1:Nat)(A:Array Value)(b2:Nat)(M:Array Value)(W:World):Prop where
 ps:∃R,R.size=72/\W.heap[w.heap.size]?=some (.cells R 70)
 mv:∃R,R.size=3/\W.heap[w.heap.size+1]?=some (.cells R 87)
 gr:Gr w W
 p:W.heap[b1]?=some (.cells A 70)
 lp:b1<W.heap.size
 m:W.heap[b2]?=some (.cells M 87)
 lm:b2<W.heap.size
 h1:w.heap.size+1<b1
 h2:w.heap.size+1<b2
theorem T3.of{w W:World}{b1 b2:Nat}{A M:Array Value}(h:T2 w b1 A b2 M W)(h1:w.heap.size+1<b1)(h2:w.heap.size+1<b2):T3 w b1 A b2 M W :=
 ⟨⟨_,xF,h.tm.ps⟩,⟨_,rfl,h.tm.mv⟩,h.tm.gr,h.p,h.lp,h.m,h.lm,h1,h2⟩
theorem T3.putP{w W:World}{b1 b2:Nat}{A M:Array Value}(h:T3 w b1 A b2 M W)(X:Array Value)(hX:X.size=72):T3 w b1 A b2 M (W.setRow w.heap.size X):=by
 obtain⟨R,r1,r2⟩:=h.ps;obtain⟨R',r3,r4⟩:=h.mv;have:=h.h1;have:=h.h2;exact⟨⟨X,hX,setRow_heap _ _ _ _ _ _ r2⟩,⟨R',r3,by rw[setRow_other _ _ _ _ (by omega)];exact r4⟩,h.gr.setRow _ (qL _) _,by rw[setRow_other _ _ _ _ (by omega)];exact h.p,by rw[size_setRow];exact h.lp,by rw[setRow_other _ _ _ _ (by omega)];exact h.m,by rw[size_setRow];exact h.lm,h.h1,h.h2⟩
theorem T3.putM{w W:World}{b1 b2:Nat}{A M:Array Value}(h:T3 w b1 A b2 M W)(X:Array Value)(hX:X.size=3):T3 w b1 A b2 M (W.setRow (w.heap.size+1) X):=by
 obtain⟨R,r1,r2⟩:=h.ps;obtain⟨R',r3,r4⟩:=h.mv;have:=h.h1;have:=h.h2;exact⟨⟨R,r1,by rw[setRow_other _ _ _ _ (by omega)];exact r2⟩,⟨X,hX,setRow_heap _ _ _ _ _ _ r4⟩,h.gr.setRow _ (by omega) _,by rw[setRow_other _ _ _ _ (by omega)];exact h.p,by rw[size_setRow];exact h.lp,by rw[setRow_other _ _ _ _ (by omega)];exact h.m,by rw[size_setRow];exact h.lm,h.h1,h.h2⟩
theorem T3.c0{w W:World}{b1 b2:Nat}{A:Array Value}{x:Nat × Nat × UInt8}(h:T3 w b1 A b2 (z8 x) W):W.cell? ⟨b2,0,none⟩=some (.int .i64 (x.1:Int)):=by rw[cell_of_row _ _ _ _ _ _ h.m];rfl
theorem T3.c1{w W:World}{b1 b2:Nat}{A:Array Value}{x:Nat × Nat × UInt8}(h:T3 w b1 A b2 (z8 x) W):W.cell? ⟨b2,1,none⟩=some (.int .i64 (x.2.1:Int)):=by rw[cell_of_row _ _ _ _ _ _ h.m];rfl
theorem T3.c2{w W:World}{b1 b2:Nat}{A:Array Value}{x:Nat × Nat × UInt8}(h:T3 w b1 A b2 (z8 x) W):W.cell? ⟨b2,2,none⟩=some (.int .u8 (x.2.2.toNat:Int)):=by rw[cell_of_row _ _ _ _ _ _ h.m];rfl
theorem T2.c0{w W:World}{b1 b2:Nat}{A:Array Value}{x:Nat × Nat × UInt8}(h:T2 w b1 A b2 (z8 x) W):W.cell? ⟨b2,0,none⟩=some (.int .i64 (x.1:Int)):=by rw[cell_of_row _ _ _ _ _ _ h.m];rfl
theorem T2.c1{w W:World}{b1 b2:Nat}{A:Array Value}{x:Nat × Nat × UInt8}(h:T2 w b1 A b2 (z8 x) W):W.cell? ⟨b2,1,none⟩=some (.int .i64 (x.2.1:Int)):=by rw[cell_of_row _ _ _ _ _ _ h.m];rfl
theorem T2.c2{w W:World}{b1 b2:Nat}{A:Array Value}{x:Nat × Nat × UInt8}(h:T2 w b1 A b2 (z8 x) W):W.cell? ⟨b2,2,none⟩=some (.int .u8 (x.2.2.toNat:Int)):=by rw[cell_of_row _ _ _ _ _ _ h.m];rfl
theorem eK(s t:ByteArray)(hs:s.size<4294967281)(ht:t.size<4294967281)(m:Int)(w:World)(hc:Ct m w)(htb:uV w):Calls Tryz.prog 31 #[.string s,.string t] w fun e w'=>pF s t e/\Gr w w':=by
 have hT0:=Tm.start w;have h1:Hid (∀W,Gr w W->Calls Tryz.prog 34 #[.string s] W fun e w'=>zA s e/\Gr W w'):=qC (fun W g=>qzg s hs m W (hc.gr g).mx (hc.gr g).ml (hc.gr g).tab (hc.gr g).homes);have hrd:=qC (fun W=>mX t ht W);rcases xy s with⟨p,hr,hcan,hone⟩|⟨k,hk,hbad,hone⟩
 ·have h2:Hid (∀W,Gr w W->Calls Tryz.prog 34 #[.string s] W fun e w'=>e=.returned (.tuple #[.agg (jV p),.int .i64 0])/\Gr W w'):=qC (fun W g=>(qa h1 W g).mono fun e w' h=>⟨hone e h.1,h.2⟩);have hrow:=jo hr;have hz:=hrow.size;have ho:=qC (qx hrow);have hb:=qjv hr;have hle:Hid (∀(y:Mv) W,Gr w W->Calls Tryz.prog 57 #[.agg jP,.agg (jV p),.agg (z8 y)] W fun e w'=>e=.returned (.bool ((xC (xM p) p.white p.castle p.behind).any fun x=>x==y))/\Gr W w'):=qC (fun y W g=>dl hrow (lR hcan) hb.1 hb.2 y W (hc.gr g).tab (htb.gr g).cas);have hend1:Hid (yn t=none->pF s t (.returned (.tuple #[.agg Tryz.zeroCells70,.agg zC,.int .i64 1]))):=qC (fun e=>.inr (.inl ⟨p,hr,hcan,e,rfl⟩))
  have hend4:Hid (∀x,yn t=some x->((xC (xM p) p.white p.castle p.behind).any fun y=>y==x)=false->pF s t (.returned (.tuple #[.agg Tryz.zeroCells70,.agg zC,.int .i64 4]))):=qC (fun x e q=>.inr (.inr (.inl ⟨p,x,hr,hcan,e,fun hx=>by
   rw[List.any_eq_false]at q;exact q x hx (by simp),rfl⟩)))
  have hend0:Hid (∀x,yn t=some x->((xC (xM p) p.white p.castle p.behind).any fun y=>y==x)=true->pF s t (.returned (.tuple #[.agg (jV p),.agg (z8 x),.int .i64 0]))):=qC (fun x e q=>.inr (.inr (.inr ⟨p,x,hr,hcan,e,by
   obtain⟨y,hy,e⟩:=qY.1 q;have:y=x:=by simpa using e
   rw[<-this];exact hy,rfl⟩)))
  generalize jV p=A at h2 hz ho hle hend0;clear h1 hone hc htb hs ht hrow hb hr hcan;go_enter Tryz.func31,Tryz.ntmps31;go_upto_region 1 with fail;show Code.wp _ _ _ _ ((w.alloc (.cells Tryz.zeroCells70 70)).alloc (.cells zC 87));generalize ((w.alloc (.cells Tryz.zeroCells70 70)).alloc (.cells zC 87))=w0 at hT0 ⊢;have hg0:=hT0.gr
  go_upto_region 4 with(first
   | (go_at_call 34;refine(qa h2 _ hg0).mono ?_;rintro e w3 ⟨rfl,hg3⟩)
   | (refine wpList_store_row rfl 70 _ _ rfl w3.heap.size A rfl rfl 70 _ (heap_alloc_new _ _) (by rw[hz];exact q9) (by rw[hz];exact xF.symm) (qa ho) ?_))
  have hg4:Gr w3 ((w3.alloc (.cells Tryz.zeroCells70 70)).setRow w3.heap.size A):=((Gr.refl w3).alloc Tryz.zeroCells70 70).setRow w3.heap.size (qL _) A;have hT4:=hT0.next (Gr.trans hg3 hg4);have hb1:((w3.alloc (.cells Tryz.zeroCells70 70)).setRow w3.heap.size A).heap[w3.heap.size]?=some (.cells A 70):=setRow_heap _ _ _ _ _ _ (heap_alloc_new w3 _);have hlb:w3.heap.size<((w3.alloc (.cells Tryz.zeroCells70 70)).setRow w3.heap.size A).heap.size:=by rw[size_setRow,World.size_alloc];omega
  show Code.wp _ _ _ _ ((w3.alloc (.cells Tryz.zeroCells70 70)).setRow w3.heap.size A);generalize (w3.alloc (.cells Tryz.zeroCells70 70)).setRow w3.heap.size A=w4 at hT4 hb1 hlb ⊢;have hlo1:w.heap.size+1<w3.heap.size:=qN hT0.lt (Below.size hg3);generalize w3.heap.size=b1 at hb1 hlb hlo1 ⊢;clear hT0 hg0 hg3 hg4 h2;cases hm:yn t with
  | none =>
   have hv:yy t=.tuple #[.agg zC,.bool false]:=by unfold yy;rw[hm];rfl
   rw[hv]at hrd;have hend:=qC (qa hend1 hm);clear hend1 hend4 hend0 hle hm hv
   go_upto_region 5 with(first
    | (go_at_call 56;refine(qa hrd _).mono ?_;rintro e w5 ⟨rfl,hg5⟩)
    | (refine wpList_store_row rfl 87 _ _ rfl w5.heap.size zC rfl rfl 87 zC (heap_alloc_new _ _) xW rfl vP ?_))
   have hT6:=(hT4.next hg5).next (((Gr.refl w5).alloc zC 87).setRow w5.heap.size (qL _) zC);show Code.wp _ _ _ _ ((w5.alloc (.cells zC 87)).setRow w5.heap.size zC);generalize (w5.alloc (.cells zC 87)).setRow w5.heap.size zC=w6 at hT6 ⊢;have hps:=qC hT6.ps;have hmv:=qC (hT6.second Tryz.zeroCells70);have hout:=qC (hT6.out Tryz.zeroCells70 zC);clear hT4 hT6 hb1 hlb hg5 hrd
   go_wp2_with(first
    | (refine wpList_store_row rfl 70 _ _ rfl w.heap.size Tryz.zeroCells70 rfl rfl 70 Tryz.zeroCells70 (qa hps) (by rw[xF];exact q9) rfl xH ?_)
    | (refine wpList_store_row rfl 87 _ _ rfl (w.heap.size+1) zC rfl rfl 87 zC (qa hmv) xW rfl vP ?_))
   exact bodyPost_ret (v:=.tuple #[.agg Tryz.zeroCells70,.agg zC,.int .i64 1]) (qqk Tryz.results31 _ _ w.heap.size (w.heap.size+1) 70 87 _ _ (0,0) (0,0) _ _ rfl (qa hout).1 Tryz.underlying70 rfl (by rw[xF];exact q9) rfl (qa hout).2.1 Tryz.underlying87 rfl xW) rfl ⟨qa hend,(qa hout).2.2⟩
  | some x =>
   have hv:yy t=.tuple #[.agg (z8 x),.bool true]:=by unfold yy;rw[hm]
   rw[hv]at hrd;have h4:=qC (qa hend4 x hm);have h0:=qC (qa hend0 x hm);have hle':=qC (qa hle x);obtain⟨LG,hLG⟩:∃q,Hid (((xC (xM p) p.white p.castle p.behind).any fun y=>y==x)=q):=⟨_,qC rfl⟩;rw[qa hLG]at h4 h0 hle';clear hend1 hend4 hend0 hle hm hv hLG;have hone:(z8 x).all (·.oneCell')=true:=by simp[z8,Value.oneCell']
   go_upto_region 5 with(first
    | (go_at_call 56;refine(qa hrd _).mono ?_;rintro e w5 ⟨rfl,hg5⟩)
    | (refine wpList_store_row rfl 87 _ _ rfl w5.heap.size (z8 x) rfl rfl 87 zC (heap_alloc_new _ _) xW rfl hone ?_))
   have hg6:Gr w5 ((w5.alloc (.cells zC 87)).setRow w5.heap.size (z8 x)):=((Gr.refl w5).alloc zC 87).setRow w5.heap.size (qL _) (z8 x);have hT6:=(hT4.next hg5).next hg6;have hb1':=(Below.block (Gr.trans hg5 hg6) _ hlb).trans hb1;have hb2:((w5.alloc (.cells zC 87)).setRow w5.heap.size (z8 x)).heap[w5.heap.size]?=some (.cells (z8 x) 87):=setRow_heap _ _ _ _ _ _ (heap_alloc_new w5 _);have hlb2:w5.heap.size<((w5.alloc (.cells zC 87)).setRow w5.heap.size (z8 x)).heap.size:=by rw[size_setRow,World.size_alloc];omega
   have hlb':=qN hlb (Below.size (Gr.trans hg5 hg6));show Code.wp _ _ _ _ ((w5.alloc (.cells zC 87)).setRow w5.heap.size (z8 x));generalize (w5.alloc (.cells zC 87)).setRow w5.heap.size (z8 x)=w6 at hT6 hb1' hb2 hlb2 hlb' ⊢;have hlo2:w.heap.size+1<w5.heap.size:=qN hT4.lt (Below.size hg5);generalize w5.heap.size=b2 at hb2 hlb2 hlo2 ⊢;clear hT4 hb1 hlb hg5 hg6 hrd;go_upto_region 7 with fail;have hS:T2 w b1 A b2 (z8 x) w6.drew:=⟨hT6.next (Gr.refl _).drew,hb1',hlb',hb2,hlb2⟩;clear hT6 hb1' hlb' hb2 hlb2;refine wp_region_held_drew (S:=T2 w b1 A b2 (z8 x)) (by kernel_rfl) hS (fun qD=>?_);clear hS;refine C.ty 1 (.agg A) rfl (zy hz (by rfl) _ rfl b1 rfl (fun _ h=>rL h.p h.lp)) qD ?_;refine C.ty 2 (.agg (z8 x)) rfl (Or.inl ⟨by rfl,fun w' hw=>(by have c0:=hw.c0;have c1:=hw.c1;have c2:=hw.c2;go_simp;rfl)⟩) qD ?_;refine C.rd 0 fun K hK=>?_
   go_simp;refine(qxk _).mono ?_;rintro e wa ⟨rfl,hga⟩;refine hK.out _ _ (qD.next hga) (fun qD=>?_);clear hK K hga
   try simp only[C.py]
   refine C.rd 3 fun K hK=>?_
   go_simp;refine(qa hle' _ qD.tm.gr).mono ?_;rintro e wb ⟨rfl,hgb⟩;refine hK.out _ _ (qD.next hgb) (fun qD=>?_);clear hK K hgb
   try simp only[C.py]
   refine C.tq 4 (.bool (!LG)) qD ?_;refine wpAnyH_done (by kernel_rfl) ?_ _;cases LG
   ·have hend:=qC (qa h4 rfl);have hps:=qC qD.tm.ps;have hmv:=qC (qD.tm.second Tryz.zeroCells70);have hout:=qC (qD.tm.out Tryz.zeroCells70 zC);clear h0 h4 hle' qD
    go_wp2_with(first
     | (refine wpList_store_row rfl 70 _ _ rfl w.heap.size Tryz.zeroCells70 rfl rfl 70 Tryz.zeroCells70 (qa hps) (by rw[xF];exact q9) rfl xH ?_)
     | (refine wpList_store_row rfl 87 _ _ rfl (w.heap.size+1) zC rfl rfl 87 zC (qa hmv) xW rfl vP ?_))
    exact bodyPost_ret (v:=.tuple #[.agg Tryz.zeroCells70,.agg zC,.int .i64 4]) (qqk Tryz.results31 _ _ w.heap.size (w.heap.size+1) 70 87 _ _ (0,0) (0,0) _ _ rfl (qa hout).1 Tryz.underlying70 rfl (by rw[xF];exact q9) rfl (qa hout).2.1 Tryz.underlying87 rfl xW) rfl ⟨qa hend,(qa hout).2.2⟩
   ·have hend:=qC (qa h0 rfl);have hAo:=qa ho;clear h0 h4 hle';go_upto_region 9 with fail;have hS:T3 w b1 A b2 (z8 x) wb.drew:=T3.of (qD.next (Gr.refl _).drew) hlo1 hlo2;clear qD;refine wp_region_held_drew (S:=T3 w b1 A b2 (z8 x)) (by kernel_rfl) hS (fun qD=>?_);clear hS;refine C.ty 0 (.agg A) rfl (zy hz (by rfl) _ rfl b1 rfl (fun _ h=>rL h.p h.lp)) qD ?_;refine C.ty 1 (.agg (z8 x)) rfl (Or.inl ⟨by rfl,fun w' hw=>(by have c0:=hw.c0;have c1:=hw.c1;have c2:=hw.c2;go_simp;rfl)⟩) qD ?_;refine C.rd 2 fun K hK=>?_
    rw[qI (by rfl)];obtain⟨R1,r1,r2⟩:=qD.ps;refine wp_store_row 70 _ _ rfl w.heap.size A rfl rfl 70 R1 r2 (by rw[hz];exact q9) (by rw[hz,r1]) hAo ?_;refine hK.out _ _ (qD.putP A hz) (fun qD=>?_);clear hK K
    try simp only[C.py]
    refine C.rd 3 fun K hK=>?_
    rw[qI (by rfl)];obtain⟨R3,r5,r6⟩:=qD.mv;refine wp_store_row 87 _ _ rfl (w.heap.size+1) (z8 x) rfl rfl 87 R3 r6 xW (by rw[r5];rfl) hone ?_;have hp9:_:=setRow_heap _ _ _ A _ _ r2;refine hK.out _ _ (qD.putM (z8 x) rfl) (fun qD=>?_);clear hK K
    try simp only[C.py]
    refine C.rd 4 fun K hK=>?_
    go_simp;refine hK.out _ _ qD (fun qD=>?_);clear hK K
    try simp only[C.py]
    refine wpAnyH_done (by kernel_rfl) ?_ _;have hgf:=qC qD.gr;go_wp2_with fail;exact bodyPost_ret (v:=.tuple #[.agg A,.agg (z8 x),.int .i64 0]) (qqk Tryz.results31 _ _ w.heap.size (w.heap.size+1) 70 87 _ _ (0,0) (0,0) _ _ rfl (by rw[setRow_other _ _ _ _ (by omega)];exact hp9) Tryz.underlying70 rfl (by rw[hz];exact q9) rfl (setRow_heap _ _ _ _ _ _ r6) Tryz.underlying87 rfl xW) rfl ⟨qa hend,qa hgf⟩
 ·have h2:Hid (∀W,Gr w W->Calls Tryz.prog 34 #[.string s] W fun e w'=>e=.returned (.tuple #[.agg Tryz.zeroCells70,.int .i64 k])/\Gr W w'):=qC (fun W g=>(qa h1 W g).mono fun e w' h=>⟨hone e h.1,h.2⟩);have hend:Hid (pF s t (.returned (.tuple #[.agg Tryz.zeroCells70,.agg zC,.int .i64 k]))):=qC (.inl ⟨k,hbad,rfl⟩);have k2:(k != 0)=true:=by rw[qU];exact hk
  clear h1 hone hbad hc htb hs ht hrd hk;go_enter Tryz.func31,Tryz.ntmps31;go_upto_region 1 with fail;show Code.wp _ _ _ _ ((w.alloc (.cells Tryz.zeroCells70 70)).alloc (.cells zC 87));generalize ((w.alloc (.cells Tryz.zeroCells70 70)).alloc (.cells zC 87))=w0 at hT0 ⊢;have hg0:=hT0.gr
  go_upto_region 2 with(first
   | (go_at_call 34;refine(qa h2 _ hg0).mono ?_;rintro e w3 ⟨rfl,hg3⟩)
   | (refine wpList_store_row rfl 70 _ _ rfl w3.heap.size Tryz.zeroCells70 rfl rfl 70 _ (heap_alloc_new _ _) (by rw[xF];exact q9) rfl xH ?_))
  have hT4:=hT0.next (Gr.trans hg3 (((Gr.refl w3).alloc Tryz.zeroCells70 70).setRow w3.heap.size (qL _) Tryz.zeroCells70));generalize (w3.alloc (.cells Tryz.zeroCells70 70)).setRow w3.heap.size Tryz.zeroCells70=w4 at hT4 ⊢;have hps:=qC hT4.ps;have hmv:=qC (hT4.second Tryz.zeroCells70);have hout:=qC (hT4.out Tryz.zeroCells70 zC);clear hT4 hT0 hg0 hg3 h2
  go_wp2_with(first
   | (refine wpList_store_row rfl 70 _ _ rfl w.heap.size Tryz.zeroCells70 rfl rfl 70 Tryz.zeroCells70 (qa hps) (by rw[xF];exact q9) rfl xH ?_)
   | (refine wpList_store_row rfl 87 _ _ rfl (w.heap.size+1) zC rfl rfl 87 zC (qa hmv) xW rfl vP ?_))
  exact bodyPost_ret (v:=.tuple #[.agg Tryz.zeroCells70,.agg zC,.int .i64 k]) (qqk Tryz.results31 _ _ w.heap.size (w.heap.size+1) 70 87 _ _ (0,0) (0,0) _ _ rfl (qa hout).1 Tryz.underlying70 rfl (by rw[xF];exact q9) rfl (qa hout).2.1 Tryz.underlying87 rfl xW) rfl ⟨qa hend,(qa hout).2.2⟩
theorem t7{p:pH}(h:xP p=true):0<=p.half/\p.half<=65535/\0<=p.full/\p.full<=65535:=by
 unfold xP k6 cK at h;simp only[qH]at h;obtain⟨_,⟨⟨⟨⟨_,_⟩,_⟩,_⟩,h5⟩,_⟩:=h;unfold zP at h5;simp only[qH,qG]at h5;omega
end
theorem o8(x:ByteArray):decide (0<=dJ x)=(uX x).isSome:=by
 unfold dJ;cases uX x with
 | none=>rfl
 | some n=>exact qJ (by show(0:Int)<=(n:Int);omega)
theorem EA{s:ByteArray}(h:s.size=4\/s.size=5):(yn s).isSome=(decide (0<=dJ (s.extract 0 2))&&decide (0<=dJ (s.extract 2 4))&&(aw (s.extract 4 s.size)).2):=by
 rw[o8,o8];unfold yn;rw[qI h];cases uX (s.extract 0 2)with
 | none=>rfl
 | some f =>
  cases uX (s.extract 2 4)with
  | none=>rfl
  | some t =>
   simp only;cases (aw (s.extract 4 s.size)).2<;>rfl
theorem cY(s:ByteArray)(w:World):Calls Tryz.prog 103 #[.string s] w fun e w'=>e=.returned (.bool (yn s).isSome)/\w'=w:=by
  by_cases h45:s.size=4\/s.size=5
  · have hV:=qC (EA h45)
    generalize (yn s).isSome=V at hV ⊢
    have k1:=qC (fun W=>zb (s.extract 0 2) W)
    have k2:=qC (fun W=>zb (s.extract 2 4) W)
    generalize dJ (s.extract 0 2)=a1 at hV k1
    generalize dJ (s.extract 2 4)=a2 at hV k2
    obtain⟨x1,hx1⟩:∃x,decide (0<=a1)=x:=⟨_,rfl⟩
    obtain⟨x2,hx2⟩:∃x,decide (0<=a2)=x:=⟨_,rfl⟩
    rw[hx1,hx2]at hV
    rcases h45 with h|h
    · rw[rc h]at hV
      have n1:((s.size:Int) != 4)=false:=by rw[h];rfl
      have n2:((s.size:Int)==4)=true:=by rw[h];rfl
      have l4:(4:Int)<=(s.size:Int):=by omega
      cases x1<;>cases x2 <;>
        (go_enter Tryz.func103,Tryz.ntmps103
         go_upto_region 4 with(go_at_call 104;refine(qa k1 _).mono ?_;rintro e w' ⟨rfl,hw⟩;have hw':=hw.symm;subst hw';clear hw)
         go_upto_region 5 with(go_at_call 104;refine(qa k2 _).mono ?_;rintro e w' ⟨rfl,hw⟩;have hw':=hw.symm;subst hw';clear hw)
         go_wp2_with fail
         go_ret
         exact⟨by rw[qa hV];rfl,rfl⟩)
    · have h4:4<s.size:=by omega
      rw[rZ h]at hV
      have k3:=qC (fun W=>xa ⟨#[113,114,98,110]⟩ (by decide +kernel) s[4] W)
      obtain⟨x3,hx3⟩:∃x,decide (0<=Lib.indexByte uf s[4])=x:=⟨_,rfl⟩
      rw[hx3]at hV
      have hx3':decide ((0:Int)<=Lib.indexByte (⟨#[113,114,98,110]⟩:ByteArray).data.toList s[4])=x3:=hx3
      generalize Lib.indexByte (⟨#[113,114,98,110]⟩:ByteArray).data.toList s[4]=a3 at k3 hx3'
      clear hx3
      have n1:((s.size:Int) != 4)=true:=by rw[h];rfl
      have n2:((s.size:Int) != 5)=false:=by rw[h];rfl
      have n3:((s.size:Int)==4)=false:=by rw[h];rfl
      have l4:(4:Int)<(s.size:Int):=by omega
      cases x1<;>cases x2<;>cases x3 <;>
        (go_enter Tryz.func103,Tryz.ntmps103
         go_upto_region 4 with(go_at_call 104;refine(qa k1 _).mono ?_;rintro e w' ⟨rfl,hw⟩;have hw':=hw.symm;subst hw';clear hw)
         go_upto_region 5 with(go_at_call 104;refine(qa k2 _).mono ?_;rintro e w' ⟨rfl,hw⟩;have hw':=hw.symm;subst hw';clear hw)
         go_wp2_with(go_at_call 111;refine(qa k3 _).mono ?_;rintro e w' ⟨rfl,hw⟩;have hw':=hw.symm;subst hw';clear hw)
         go_ret
         exact⟨by rw[qa hV];rfl,rfl⟩)
  · have hv:yn s=none:=by unfold yn;rw[qF h45]
    rw[hv]
    have n1:((s.size:Int) != 4)=true:=by rw[qU];omega
    have n2:((s.size:Int) != 5)=true:=by rw[qU];omega
    go_enter Tryz.func103,Tryz.ntmps103
    go_wp2_with fail
    go_ret
    exact⟨rfl,rfl⟩
theorem Cf(fc:Nat->Bool)(f t n k:Nat):cM fc f t n k=kB fc f t n k:=by
 unfold cM kB toB E6 pP;simp only[lS];cases decide ((f:Int)=xY k)<;>cases decide ((f:Int)=zD k)<;>cases decide ((t:Int)=xY k)<;>cases decide ((t:Int)=zD k)<;>rfl
theorem Es(wh:Bool){g:Int}(g1:g<=65535):Ce wh g=kj wh g:=by
 unfold Ce kj;cases wh
 ·by_cases h:g<65535
  ·rw[qJ h];simp only[Bool.not_false,Bool.and_self,if_true,qR,if_false];omega
  ·rw[qE h];simp only[Bool.not_false,Bool.and_false,qR,if_false];omega
 ·rfl
theorem Er(z:Nat->UInt8)(b:Int)(f t:Nat){h:Int}(h1:h<=65535):Cd z b f t h=kK z f t h:=by
 unfold Cd kK iQ uP;rw[dR];by_cases c:vE (z f)=0
 ·rw[qJ c];rfl
 ·rw[qE c];simp only[Bool.false_and,Bool.or_false,Bool.false_or];by_cases d:z t=46
  ·rw[qJ d];simp only[Bool.not_true,qR,if_false];split<;>omega
  ·rw[qE d];rfl
theorem Ev{z:Nat->UInt8}{wh:Bool}{fc:Nat->Bool}{b:Int}{f t:Nat}{u:UInt8}(hg:j9 z wh fc b f t u=true):oA z wh f t=vK z f t:=by
 unfold oA vK oZ AW;rw[dR];by_cases c:vE (z f)=0
 ·rw[qJ c,Bool.true_and,Bool.true_and];unfold j9 at hg;rw[qH,qI c]at hg;have hg:=hg.2;unfold BD at hg
  have key:uI f t=xK wh\/(uI f t=2*xK wh/\f%8=t%8):=by
   by_cases ha:xS (zI z) 0 (xK wh) (f:Int) (t:Int)=true
   ·exact .inl (lW ha)
   ·rw[qF ha]at hg;unfold DC at hg;simp only[qH,Bool.or_eq_true,qG]at hg;obtain⟨⟨h1,_⟩,h3|h3⟩:=hg
    ·exact .inl h3
    ·exact .inr ⟨h3.1.1,h1⟩
  rcases key with e|⟨e,e8⟩
  ·rw[e];cases wh<;>rfl
  ·cases wh
   ·have e':uI f t=-2:=e;rw[e'];show(f:Int)+8*xK false=(((f+t)/2:Nat):Int);unfold uI at e';unfold xK;simp only[qR,if_false];omega
   ·have e':uI f t=2:=e;rw[e'];show(f:Int)+8*xK true=(((f+t)/2:Nat):Int);unfold uI at e';unfold xK;simp only[if_true];omega
 ·rw[qE c];rfl
end Go.Proofs.YtnfakamfmkhlbabGreatDoor.C
