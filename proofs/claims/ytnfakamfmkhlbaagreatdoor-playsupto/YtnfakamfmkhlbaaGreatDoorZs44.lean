import Derived.Test.YtnfakamfmkhlbaaGreatDoorZs43
import Derived.Test.YtnfakamfmkhlbaaGreatDoorZs37
import Derived.Test.YtnfakamfmkhlbaaGreatDoorZs21
import Derived.Test.YtnfakamfmkhlbaaGreatDoorZs19
import Derived.Test.YtnfakamfmkhlbaaGreatDoorKz2
set_option maxRecDepth 100000
set_option maxHeartbeats 4000000
set_option linter.unusedSimpArgs false
namespace Go.Proofs.YtnfakamfmkhlbaaGreatDoor.C
open Go.ChangeShapes Go.WideShapes Go.ChangeAt Go.RowKit Go.Shelf
open Go.Proofs.YtnfakamfmkhlbaaGreatDoor.P
attribute [local go_sem] qd qi Oper.semAt_some
theorem zo {P:Program} {fn:Func} {p p2 q:Tmp} {ty ty2:TypeId} (h:fn.results=#[.cell p ty,.cell p2 ty2,.tmp q]) (tmps:Array Value) (w:World) (g g2:Nat) (t t2:TypeId) (cs cs2:Array Value) (fr fr2:Nat × Nat) (d d2:TypeDesc)
  (hp:tmps.getD p undef=.pointer (some ⟨g,0,none⟩)) (hg:w.heap[g]?=some (.cells cs t fr)) (hu:P.underlying ty=some d) (hd:(match d with|.struct _|.array _ _=>true|_=>false)=true) (hi:(P.info? ty).map (·.size)=some cs.size)
  (hp2:tmps.getD p2 undef=.pointer (some ⟨g2,0,none⟩)) (hg2:w.heap[g2]?=some (.cells cs2 t2 fr2)) (hu2:P.underlying ty2=some d2) (hd2:(match d2 with|.struct _|.array _ _=>true|_=>false)=true) (hi2:(P.info? ty2).map (·.size)=some cs2.size) :
  (results fn tmps).run P w=.ok (.tuple #[.agg cs,.agg cs2,tmps.getD q undef]) w:=by
 have hp':tmps[p]?.getD undef=.pointer (some ⟨g,0,none⟩):=by simpa using hp
 have hp2':tmps[p2]?.getD undef=.pointer (some ⟨g2,0,none⟩):=by simpa using hp2
 simp [results,h,hp',hp2',asAddr,run_loadVar_row w g t ty cs fr d hg hu hd hi,run_loadVar_row w g2 t2 ty2 cs2 fr2 d2 hg2 hu2 hd2 hi2]
def zMv:Array Value:=#[.int .i64 0,.int .i64 0,.int .u8 0]
def ToEnd (s t:ByteArray) (e:Ending):Prop :=
 (∃ k,BadK s k/\e=.returned (.tuple #[.agg Tryz.zeroCells25,.agg zMv,.int .i64 k])) ∨
 (∃ p,readS s=some p/\posCan p=true/\mvR t=none/\e=.returned (.tuple #[.agg Tryz.zeroCells25,.agg zMv,.int .i64 1])) ∨
 (∃ p x,readS s=some p/\posCan p=true/\mvR t=some x/\x∉movS (posZ p) p.white p.castle p.behind/\e=.returned (.tuple #[.agg Tryz.zeroCells25,.agg zMv,.int .i64 4])) ∨
 (∃ p x,readS s=some p/\posCan p=true/\mvR t=some x/\x∈movS (posZ p) p.white p.castle p.behind/\e=.returned (.tuple #[.agg (posV p),.agg (mvA x),.int .i64 0]))
structure Tm (w W:World):Prop where
 ps:W.heap[w.heap.size]?=some (.cells Tryz.zeroCells25 25)
 mv:W.heap[w.heap.size+1]?=some (.cells zMv 94)
 lt:w.heap.size+1<W.heap.size
 gr:Gr w W
theorem Tm.next {w W W':World} (h:Tm w W) (g:Gr W W'):Tm w W' :=
 ⟨(Below.block g _ (Nat.lt_of_succ_lt h.lt)).trans h.ps,(Below.block g _ h.lt).trans h.mv,Nat.lt_of_lt_of_le h.lt (Below.size g),Gr.trans h.gr g⟩
theorem Tm.start (w:World):Tm w ((w.alloc (.cells Tryz.zeroCells25 25)).alloc (.cells zMv 94)):=by
 obtain ⟨e1,e2⟩:=heapTwo w (.cells Tryz.zeroCells25 25) (.cells zMv 94);exact ⟨e1,e2,by rw [World.size_alloc,World.size_alloc];omega,((Gr.refl w).alloc _ _).alloc _ _⟩
theorem zMv_ones:zMv.all (·.oneCell')=true:=by simp [zMv,Value.oneCell']
theorem Tm.out {w W:World} (h:Tm w W) (A M:Array Value):((W.setRow w.heap.size A).setRow (w.heap.size+1) M).heap[w.heap.size]?=some (.cells A 25)/\((W.setRow w.heap.size A).setRow (w.heap.size+1) M).heap[w.heap.size+1]?=some (.cells M 94)/\Gr w ((W.setRow w.heap.size A).setRow (w.heap.size+1) M) :=
 ⟨by rw [setRow_other _ _ _ _ (by omega)];exact setRow_heap _ _ _ _ _ _ h.ps,setRow_heap _ _ _ _ _ _ (by rw [setRow_other _ _ _ _ (by omega)];exact h.mv),(h.gr.setRow _ (Nat.le_refl _) _).setRow _ (by omega) _⟩
theorem Tm.second {w W:World} (h:Tm w W) (A:Array Value):(W.setRow w.heap.size A).heap[w.heap.size+1]?=some (.cells zMv 94):=by rw [setRow_other _ _ _ _ (by omega)];exact h.mv
theorem rowOf2 {W:World} {b:Nat} {A:Array Value} {ty:TypeId} (h:W.heap[b]?=some (.cells A ty)) (_hl:b<W.heap.size):RowAt b A W:=qv h
structure T2 (w:World) (b1:Nat) (A:Array Value) (b2:Nat) (M:Array Value) (W:World):Prop where
 tm:Tm w W
 p:W.heap[b1]?=some (.cells A 25)
 lp:b1<W.heap.size
 m:W.heap[b2]?=some (.cells M 94)
 lm:b2<W.heap.size
theorem T2.next {w W W':World} {b1 b2:Nat} {A M:Array Value} (h:T2 w b1 A b2 M W) (g:Gr W W'):T2 w b1 A b2 M W' :=
 ⟨h.tm.next g,(Below.block g _ h.lp).trans h.p,Nat.lt_of_lt_of_le h.lp (Below.size g),(Below.block g _ h.lm).trans h.m,Nat.lt_of_lt_of_le h.lm (Below.size g)⟩
structure T3 (w:World) (b1:Nat) (A:Array Value) (b2:Nat) (M:Array Value) (W:World):Prop where
 ps:∃ R,R.size=72/\W.heap[w.heap.size]?=some (.cells R 25)
 mv:∃ R,R.size=3/\W.heap[w.heap.size+1]?=some (.cells R 94)
 gr:Gr w W
 p:W.heap[b1]?=some (.cells A 25)
 lp:b1<W.heap.size
 m:W.heap[b2]?=some (.cells M 94)
 lm:b2<W.heap.size
 h1:w.heap.size+1<b1
 h2:w.heap.size+1<b2
theorem T3.of {w W:World} {b1 b2:Nat} {A M:Array Value} (h:T2 w b1 A b2 M W) (h1:w.heap.size+1<b1) (h2:w.heap.size+1<b2):T3 w b1 A b2 M W :=
 ⟨⟨_,zeroP,h.tm.ps⟩,⟨_,rfl,h.tm.mv⟩,h.tm.gr,h.p,h.lp,h.m,h.lm,h1,h2⟩
theorem T3.putP {w W:World} {b1 b2:Nat} {A M:Array Value} (h:T3 w b1 A b2 M W) (X:Array Value) (hX:X.size=72):T3 w b1 A b2 M (W.setRow w.heap.size X):=by
 obtain ⟨R,r1,r2⟩:=h.ps;obtain ⟨R',r3,r4⟩:=h.mv;have:=h.h1;have:=h.h2;exact ⟨⟨X,hX,setRow_heap _ _ _ _ _ _ r2⟩,⟨R',r3,by rw [setRow_other _ _ _ _ (by omega)];exact r4⟩,h.gr.setRow _ (Nat.le_refl _) _,by rw [setRow_other _ _ _ _ (by omega)];exact h.p,by rw [size_setRow];exact h.lp,by rw [setRow_other _ _ _ _ (by omega)];exact h.m,by rw [size_setRow];exact h.lm,h.h1,h.h2⟩
theorem T3.putM {w W:World} {b1 b2:Nat} {A M:Array Value} (h:T3 w b1 A b2 M W) (X:Array Value) (hX:X.size=3):T3 w b1 A b2 M (W.setRow (w.heap.size+1) X):=by
 obtain ⟨R,r1,r2⟩:=h.ps;obtain ⟨R',r3,r4⟩:=h.mv;have:=h.h1;have:=h.h2;exact ⟨⟨R,r1,by rw [setRow_other _ _ _ _ (by omega)];exact r2⟩,⟨X,hX,setRow_heap _ _ _ _ _ _ r4⟩,h.gr.setRow _ (by omega) _,by rw [setRow_other _ _ _ _ (by omega)];exact h.p,by rw [size_setRow];exact h.lp,by rw [setRow_other _ _ _ _ (by omega)];exact h.m,by rw [size_setRow];exact h.lm,h.h1,h.h2⟩
theorem T3.c0 {w W:World} {b1 b2:Nat} {A:Array Value} {x:Nat × Nat × UInt8} (h:T3 w b1 A b2 (mvA x) W):W.cell? ⟨b2,0,none⟩=some (.int .i64 (x.1:Int)):=by rw [cell_of_row _ _ _ _ _ _ h.m];rfl
theorem T3.c1 {w W:World} {b1 b2:Nat} {A:Array Value} {x:Nat × Nat × UInt8} (h:T3 w b1 A b2 (mvA x) W):W.cell? ⟨b2,1,none⟩=some (.int .i64 (x.2.1:Int)):=by rw [cell_of_row _ _ _ _ _ _ h.m];rfl
theorem T3.c2 {w W:World} {b1 b2:Nat} {A:Array Value} {x:Nat × Nat × UInt8} (h:T3 w b1 A b2 (mvA x) W):W.cell? ⟨b2,2,none⟩=some (.int .u8 (x.2.2.toNat:Int)):=by rw [cell_of_row _ _ _ _ _ _ h.m];rfl
theorem T2.c0 {w W:World} {b1 b2:Nat} {A:Array Value} {x:Nat × Nat × UInt8} (h:T2 w b1 A b2 (mvA x) W):W.cell? ⟨b2,0,none⟩=some (.int .i64 (x.1:Int)):=by rw [cell_of_row _ _ _ _ _ _ h.m];rfl
theorem T2.c1 {w W:World} {b1 b2:Nat} {A:Array Value} {x:Nat × Nat × UInt8} (h:T2 w b1 A b2 (mvA x) W):W.cell? ⟨b2,1,none⟩=some (.int .i64 (x.2.1:Int)):=by rw [cell_of_row _ _ _ _ _ _ h.m];rfl
theorem T2.c2 {w W:World} {b1 b2:Nat} {A:Array Value} {x:Nat × Nat × UInt8} (h:T2 w b1 A b2 (mvA x) W):W.cell? ⟨b2,2,none⟩=some (.int .u8 (x.2.2.toNat:Int)):=by rw [cell_of_row _ _ _ _ _ _ h.m];rfl
theorem toMove_any (s t:ByteArray) (hs:s.size<4294967281) (ht:t.size<4294967281) (m:Int) (w:World) (hc:Ct m w) (htb:Tabs w):Calls Tryz.prog 50 #[.string s,.string t] w fun e w'=>ToEnd s t e/\Gr w w':=by
 have hT0:=Tm.start w;have h1:Hid (∀ W,Gr w W->Calls Tryz.prog 12 #[.string s] W fun e w'=>ParseEnd s e/\Gr W w'):=hide (fun W g=>qjm s hs m W (hc.gr g).mx (hc.gr g).ml (hc.gr g).tab (hc.gr g).homes);have hrd:=hide (fun W=>mread_any t ht W);rcases xu s with ⟨p,hr,hcan,hone⟩|⟨k,hk,hbad,hone⟩
 ·have h2:Hid (∀ W,Gr w W->Calls Tryz.prog 12 #[.string s] W fun e w'=>e=.returned (.tuple #[.agg (posV p),.int .i64 0])/\Gr W w'):=hide (fun W g=>(qa h1 W g).mono fun e w' h=>⟨hone e h.1,h.2⟩);have hrow:=jf hr;have hz:=hrow.size;have ho:=hide (qy hrow);have hb:=qx2 hr;have hle:Hid (∀ (y:Mv) W,Gr w W->Calls Tryz.prog 109 #[.agg setA,.agg (posV p),.agg (mvA y)] W fun e w'=>e=.returned (.bool ((movS (posZ p) p.white p.castle p.behind).any fun x=>x==y))/\Gr W w'):=hide (fun y W g=>isLegalQ_any hrow (can_lay hcan) hb.1 hb.2 y W (hc.gr g).tab (htb.gr g).cas);have hend1:Hid (mvR t=none->ToEnd s t (.returned (.tuple #[.agg Tryz.zeroCells25,.agg zMv,.int .i64 1]))):=hide (fun e=>.inr (.inl ⟨p,hr,hcan,e,rfl⟩))
  have hend4:Hid (∀ x,mvR t=some x->((movS (posZ p) p.white p.castle p.behind).any fun y=>y==x)=false->ToEnd s t (.returned (.tuple #[.agg Tryz.zeroCells25,.agg zMv,.int .i64 4]))):=hide (fun x e q=>.inr (.inr (.inl ⟨p,x,hr,hcan,e,fun hx=>by
   rw [List.any_eq_false] at q;exact q x hx (by simp),rfl⟩)))
  have hend0:Hid (∀ x,mvR t=some x->((movS (posZ p) p.white p.castle p.behind).any fun y=>y==x)=true->ToEnd s t (.returned (.tuple #[.agg (posV p),.agg (mvA x),.int .i64 0]))):=hide (fun x e q=>.inr (.inr (.inr ⟨p,x,hr,hcan,e,by
   obtain ⟨y,hy,e⟩:=List.any_eq_true.1 q;have:y=x:=by simpa using e
   rw [<-this];exact hy,rfl⟩)))
  generalize posV p=A at h2 hz ho hle hend0;clear h1 hone hc htb hs ht hrow hb hr hcan;go_enter Tryz.func50,Tryz.ntmps50;go_upto_region 1 with fail;show Code.wp _ _ _ _ ((w.alloc (.cells Tryz.zeroCells25 25)).alloc (.cells zMv 94));generalize ((w.alloc (.cells Tryz.zeroCells25 25)).alloc (.cells zMv 94))=w0 at hT0 ⊢;have hg0:=hT0.gr
  go_upto_region 4 with (first
   | (go_at_call 12;refine (qa h2 _ hg0).mono ?_;rintro e w3 ⟨rfl,hg3⟩)
   | (refine wpList_store_row rfl 25 _ _ rfl w3.heap.size A rfl rfl 25 _ (heap_alloc_new _ _) (by rw [hz];exact infoP) (by rw [hz];exact zeroP.symm) (qa ho) ?_))
  have hg4:Gr w3 ((w3.alloc (.cells Tryz.zeroCells25 25)).setRow w3.heap.size A):=((Gr.refl w3).alloc Tryz.zeroCells25 25).setRow w3.heap.size (Nat.le_refl _) A;have hT4:=hT0.next (Gr.trans hg3 hg4);have hb1:((w3.alloc (.cells Tryz.zeroCells25 25)).setRow w3.heap.size A).heap[w3.heap.size]?=some (.cells A 25):=setRow_heap _ _ _ _ _ _ (heap_alloc_new w3 _);have hlb:w3.heap.size<((w3.alloc (.cells Tryz.zeroCells25 25)).setRow w3.heap.size A).heap.size:=by rw [size_setRow,World.size_alloc];omega
  show Code.wp _ _ _ _ ((w3.alloc (.cells Tryz.zeroCells25 25)).setRow w3.heap.size A);generalize (w3.alloc (.cells Tryz.zeroCells25 25)).setRow w3.heap.size A=w4 at hT4 hb1 hlb ⊢;have hlo1:w.heap.size+1<w3.heap.size:=Nat.lt_of_lt_of_le hT0.lt (Below.size hg3);generalize w3.heap.size=b1 at hb1 hlb hlo1 ⊢;clear hT0 hg0 hg3 hg4 h2;cases hm:mvR t with
  | none =>
   have hv:readV t=.tuple #[.agg zMv,.bool false]:=by unfold readV;rw [hm];rfl
   rw [hv] at hrd;have hend:=hide (qa hend1 hm);clear hend1 hend4 hend0 hle hm hv
   go_upto_region 5 with (first
    | (go_at_call 108;refine (qa hrd _).mono ?_;rintro e w5 ⟨rfl,hg5⟩)
    | (refine wpList_store_row rfl 94 _ _ rfl w5.heap.size zMv rfl rfl 94 zMv (heap_alloc_new _ _) infoMv3 rfl zMv_ones ?_))
   have hT6:=(hT4.next hg5).next (((Gr.refl w5).alloc zMv 94).setRow w5.heap.size (Nat.le_refl _) zMv);show Code.wp _ _ _ _ ((w5.alloc (.cells zMv 94)).setRow w5.heap.size zMv);generalize (w5.alloc (.cells zMv 94)).setRow w5.heap.size zMv=w6 at hT6 ⊢;have hps:=hide hT6.ps;have hmv:=hide (hT6.second Tryz.zeroCells25);have hout:=hide (hT6.out Tryz.zeroCells25 zMv);clear hT4 hT6 hb1 hlb hg5 hrd
   go_wp2_with (first
    | (refine wpList_store_row rfl 25 _ _ rfl w.heap.size Tryz.zeroCells25 rfl rfl 25 Tryz.zeroCells25 (qa hps) (by rw [zeroP];exact infoP) rfl zeroP_ones ?_)
    | (refine wpList_store_row rfl 94 _ _ rfl (w.heap.size+1) zMv rfl rfl 94 zMv (qa hmv) infoMv3 rfl zMv_ones ?_))
   exact bodyPost_ret (v:=.tuple #[.agg Tryz.zeroCells25,.agg zMv,.int .i64 1]) (zo Tryz.results50 _ _ w.heap.size (w.heap.size+1) 25 94 _ _ (0,0) (0,0) _ _ rfl (qa hout).1 Tryz.underlying25 rfl (by rw [zeroP];exact infoP) rfl (qa hout).2.1 Tryz.underlying94 rfl infoMv3) rfl ⟨qa hend,(qa hout).2.2⟩
  | some x =>
   have hv:readV t=.tuple #[.agg (mvA x),.bool true]:=by unfold readV;rw [hm]
   rw [hv] at hrd;have h4:=hide (qa hend4 x hm);have h0:=hide (qa hend0 x hm);have hle':=hide (qa hle x);obtain ⟨LG,hLG⟩:∃ q,Hid (((movS (posZ p) p.white p.castle p.behind).any fun y=>y==x)=q):=⟨_,hide rfl⟩;rw [qa hLG] at h4 h0 hle';clear hend1 hend4 hend0 hle hm hv hLG;have hone:(mvA x).all (·.oneCell')=true:=by simp [mvA,Value.oneCell']
   go_upto_region 5 with (first
    | (go_at_call 108;refine (qa hrd _).mono ?_;rintro e w5 ⟨rfl,hg5⟩)
    | (refine wpList_store_row rfl 94 _ _ rfl w5.heap.size (mvA x) rfl rfl 94 zMv (heap_alloc_new _ _) infoMv3 rfl hone ?_))
   have hg6:Gr w5 ((w5.alloc (.cells zMv 94)).setRow w5.heap.size (mvA x)):=((Gr.refl w5).alloc zMv 94).setRow w5.heap.size (Nat.le_refl _) (mvA x);have hT6:=(hT4.next hg5).next hg6;have hb1':=(Below.block (Gr.trans hg5 hg6) _ hlb).trans hb1;have hb2:((w5.alloc (.cells zMv 94)).setRow w5.heap.size (mvA x)).heap[w5.heap.size]?=some (.cells (mvA x) 94):=setRow_heap _ _ _ _ _ _ (heap_alloc_new w5 _);have hlb2:w5.heap.size<((w5.alloc (.cells zMv 94)).setRow w5.heap.size (mvA x)).heap.size:=by rw [size_setRow,World.size_alloc];omega
   have hlb':=Nat.lt_of_lt_of_le hlb (Below.size (Gr.trans hg5 hg6));show Code.wp _ _ _ _ ((w5.alloc (.cells zMv 94)).setRow w5.heap.size (mvA x));generalize (w5.alloc (.cells zMv 94)).setRow w5.heap.size (mvA x)=w6 at hT6 hb1' hb2 hlb2 hlb' ⊢;have hlo2:w.heap.size+1<w5.heap.size:=Nat.lt_of_lt_of_le hT4.lt (Below.size hg5);generalize w5.heap.size=b2 at hb2 hlb2 hlo2 ⊢;clear hT4 hb1 hlb hg5 hg6 hrd;go_upto_region 7 with fail;have hS:T2 w b1 A b2 (mvA x) w6.drew:=⟨hT6.next (Gr.refl _).drew,hb1',hlb',hb2,hlb2⟩;clear hT6 hb1' hlb' hb2 hlb2;refine wp_region_held_drew (S:=T2 w b1 A b2 (mvA x)) (by kernel_rfl) hS (fun hHeld=>?_);clear hS;refine C.ty 1 (.agg A) rfl (zd hz (by rfl) _ rfl b1 rfl (fun _ h=>rowOf2 h.p h.lp)) hHeld ?_;refine C.ty 2 (.agg (mvA x)) rfl (Or.inl ⟨by rfl,fun w' hw=>(by have c0:=hw.c0;have c1:=hw.c1;have c2:=hw.c2;go_simp;rfl)⟩) hHeld ?_;refine C.rd 0 fun K hK=>?_
   go_simp;refine (qjj _).mono ?_;rintro e wa ⟨rfl,hga⟩;refine hK.out _ _ (hHeld.next hga) (fun hHeld=>?_);clear hK K hga
   try simp only [C.py]
   refine C.rd 3 fun K hK=>?_
   go_simp;refine (qa hle' _ hHeld.tm.gr).mono ?_;rintro e wb ⟨rfl,hgb⟩;refine hK.out _ _ (hHeld.next hgb) (fun hHeld=>?_);clear hK K hgb
   try simp only [C.py]
   refine C.tq 4 (.bool (!LG)) hHeld ?_;refine wpAnyH_done (by kernel_rfl) ?_ _;cases LG
   ·have hend:=hide (qa h4 rfl);have hps:=hide hHeld.tm.ps;have hmv:=hide (hHeld.tm.second Tryz.zeroCells25);have hout:=hide (hHeld.tm.out Tryz.zeroCells25 zMv);clear h0 h4 hle' hHeld
    go_wp2_with (first
     | (refine wpList_store_row rfl 25 _ _ rfl w.heap.size Tryz.zeroCells25 rfl rfl 25 Tryz.zeroCells25 (qa hps) (by rw [zeroP];exact infoP) rfl zeroP_ones ?_)
     | (refine wpList_store_row rfl 94 _ _ rfl (w.heap.size+1) zMv rfl rfl 94 zMv (qa hmv) infoMv3 rfl zMv_ones ?_))
    exact bodyPost_ret (v:=.tuple #[.agg Tryz.zeroCells25,.agg zMv,.int .i64 4]) (zo Tryz.results50 _ _ w.heap.size (w.heap.size+1) 25 94 _ _ (0,0) (0,0) _ _ rfl (qa hout).1 Tryz.underlying25 rfl (by rw [zeroP];exact infoP) rfl (qa hout).2.1 Tryz.underlying94 rfl infoMv3) rfl ⟨qa hend,(qa hout).2.2⟩
   ·have hend:=hide (qa h0 rfl);have hAo:=qa ho;clear h0 h4 hle';go_upto_region 9 with fail;have hS:T3 w b1 A b2 (mvA x) wb.drew:=T3.of (hHeld.next (Gr.refl _).drew) hlo1 hlo2;clear hHeld;refine wp_region_held_drew (S:=T3 w b1 A b2 (mvA x)) (by kernel_rfl) hS (fun hHeld=>?_);clear hS;refine C.ty 0 (.agg A) rfl (zd hz (by rfl) _ rfl b1 rfl (fun _ h=>rowOf2 h.p h.lp)) hHeld ?_;refine C.ty 1 (.agg (mvA x)) rfl (Or.inl ⟨by rfl,fun w' hw=>(by have c0:=hw.c0;have c1:=hw.c1;have c2:=hw.c2;go_simp;rfl)⟩) hHeld ?_;refine C.rd 2 fun K hK=>?_
    rw [if_pos (by rfl)];obtain ⟨R1,r1,r2⟩:=hHeld.ps;refine wp_store_row 25 _ _ rfl w.heap.size A rfl rfl 25 R1 r2 (by rw [hz];exact infoP) (by rw [hz,r1]) hAo ?_;refine hK.out _ _ (hHeld.putP A hz) (fun hHeld=>?_);clear hK K
    try simp only [C.py]
    refine C.rd 3 fun K hK=>?_
    rw [if_pos (by rfl)];obtain ⟨R3,r5,r6⟩:=hHeld.mv;refine wp_store_row 94 _ _ rfl (w.heap.size+1) (mvA x) rfl rfl 94 R3 r6 infoMv3 (by rw [r5];rfl) hone ?_;have hp9:_:=setRow_heap _ _ _ A _ _ r2;refine hK.out _ _ (hHeld.putM (mvA x) rfl) (fun hHeld=>?_);clear hK K
    try simp only [C.py]
    refine C.rd 4 fun K hK=>?_
    go_simp;refine hK.out _ _ hHeld (fun hHeld=>?_);clear hK K
    try simp only [C.py]
    refine wpAnyH_done (by kernel_rfl) ?_ _;have hgf:=hide hHeld.gr;go_wp2_with fail;exact bodyPost_ret (v:=.tuple #[.agg A,.agg (mvA x),.int .i64 0]) (zo Tryz.results50 _ _ w.heap.size (w.heap.size+1) 25 94 _ _ (0,0) (0,0) _ _ rfl (by rw [setRow_other _ _ _ _ (by omega)];exact hp9) Tryz.underlying25 rfl (by rw [hz];exact infoP) rfl (setRow_heap _ _ _ _ _ _ r6) Tryz.underlying94 rfl infoMv3) rfl ⟨qa hend,qa hgf⟩
 ·have h2:Hid (∀ W,Gr w W->Calls Tryz.prog 12 #[.string s] W fun e w'=>e=.returned (.tuple #[.agg Tryz.zeroCells25,.int .i64 k])/\Gr W w'):=hide (fun W g=>(qa h1 W g).mono fun e w' h=>⟨hone e h.1,h.2⟩);have hend:Hid (ToEnd s t (.returned (.tuple #[.agg Tryz.zeroCells25,.agg zMv,.int .i64 k]))):=hide (.inl ⟨k,hbad,rfl⟩);have k2:(k != 0)=true:=by rw [bne_iff_ne];exact hk
  clear h1 hone hbad hc htb hs ht hrd hk;go_enter Tryz.func50,Tryz.ntmps50;go_upto_region 1 with fail;show Code.wp _ _ _ _ ((w.alloc (.cells Tryz.zeroCells25 25)).alloc (.cells zMv 94));generalize ((w.alloc (.cells Tryz.zeroCells25 25)).alloc (.cells zMv 94))=w0 at hT0 ⊢;have hg0:=hT0.gr
  go_upto_region 2 with (first
   | (go_at_call 12;refine (qa h2 _ hg0).mono ?_;rintro e w3 ⟨rfl,hg3⟩)
   | (refine wpList_store_row rfl 25 _ _ rfl w3.heap.size Tryz.zeroCells25 rfl rfl 25 _ (heap_alloc_new _ _) (by rw [zeroP];exact infoP) rfl zeroP_ones ?_))
  have hT4:=hT0.next (Gr.trans hg3 (((Gr.refl w3).alloc Tryz.zeroCells25 25).setRow w3.heap.size (Nat.le_refl _) Tryz.zeroCells25));generalize (w3.alloc (.cells Tryz.zeroCells25 25)).setRow w3.heap.size Tryz.zeroCells25=w4 at hT4 ⊢;have hps:=hide hT4.ps;have hmv:=hide (hT4.second Tryz.zeroCells25);have hout:=hide (hT4.out Tryz.zeroCells25 zMv);clear hT4 hT0 hg0 hg3 h2
  go_wp2_with (first
   | (refine wpList_store_row rfl 25 _ _ rfl w.heap.size Tryz.zeroCells25 rfl rfl 25 Tryz.zeroCells25 (qa hps) (by rw [zeroP];exact infoP) rfl zeroP_ones ?_)
   | (refine wpList_store_row rfl 94 _ _ rfl (w.heap.size+1) zMv rfl rfl 94 zMv (qa hmv) infoMv3 rfl zMv_ones ?_))
  exact bodyPost_ret (v:=.tuple #[.agg Tryz.zeroCells25,.agg zMv,.int .i64 k]) (zo Tryz.results50 _ _ w.heap.size (w.heap.size+1) 25 94 _ _ (0,0) (0,0) _ _ rfl (qa hout).1 Tryz.underlying25 rfl (by rw [zeroP];exact infoP) rfl (qa hout).2.1 Tryz.underlying94 rfl infoMv3) rfl ⟨qa hend,(qa hout).2.2⟩
def afW (p:Pos) (x:Mv):List UInt8:=writeS (plZ (posZ p) p.behind x) (!p.white) (cfA p.castle x.1 x.2.1 4) (behA (posZ p) x.1 x.2.1) (halA (posZ p) x.1 x.2.1 p.half) (fulA p.white p.full)
def ErrK (s t:ByteArray) (k:Int):Prop:=BadK s k\/(k=1/\∃ p,readS s=some p/\posCan p=true/\mvR t=none)\/(k=4/\∃ p x,readS s=some p/\posCan p=true/\mvR t=some x/\x∉movS (posZ p) p.white p.castle p.behind)
theorem qvc (s t:ByteArray):(∃ p x,readS s=some p/\posCan p=true/\mvR t=some x/\x∈movS (posZ p) p.white p.castle p.behind/\∀ e,ToEnd s t e->e=.returned (.tuple #[.agg (posV p),.agg (mvA x),.int .i64 0])) ∨
  (∃ k,k≠0/\ErrK s t k/\∀ e,ToEnd s t e->e=.returned (.tuple #[.agg Tryz.zeroCells25,.agg zMv,.int .i64 k])):=by
 rcases xu s with ⟨p,hr,hcan,_⟩|⟨k,hk,hbad,_⟩
 ·have nobad:∀ k,¬ BadK s k:=fun k h=>by
   rcases h with ⟨_,a⟩|⟨_,q,a,b⟩
   ·rw [hr] at a;cases a
   ·rw [hr] at a;rw [<-Option.some.inj a,hcan] at b;cases b
  cases hm:mvR t with
  | none =>
   refine .inr ⟨1,by decide,.inr (.inl ⟨rfl,p,hr,hcan,hm⟩),fun e h=>?_⟩;rcases h with ⟨k,a,_⟩|⟨q,_,_,_,rfl⟩|⟨q,x,_,_,a,_⟩|⟨q,x,_,_,a,_⟩
   ·exact absurd a (nobad k)
   ·rfl
   ·rw [hm] at a;cases a
   ·rw [hm] at a;cases a
  | some x =>
   by_cases hx:x∈movS (posZ p) p.white p.castle p.behind
   ·refine .inl ⟨p,x,hr,hcan,rfl,hx,fun e h=>?_⟩;rcases h with ⟨k,a,_⟩|⟨q,_,_,a,_⟩|⟨q,y,a,_,b,c,_⟩|⟨q,y,a,_,b,_,rfl⟩
    ·exact absurd a (nobad k)
    ·rw [hm] at a;cases a
    ·rw [hr] at a;rw [hm] at b;rw [<-Option.some.inj a,<-Option.some.inj b] at c;exact absurd hx c
    ·rw [hr] at a;rw [hm] at b;rw [<-Option.some.inj a,<-Option.some.inj b]
   ·refine .inr ⟨4,by decide,.inr (.inr ⟨rfl,p,x,hr,hcan,hm,hx⟩),fun e h=>?_⟩;rcases h with ⟨k,a,_⟩|⟨q,_,_,a,_⟩|⟨q,y,_,_,_,_,rfl⟩|⟨q,y,a,_,b,c,_⟩
    ·exact absurd a (nobad k)
    ·rw [hm] at a;cases a
    ·rfl
    ·rw [hr] at a;rw [hm] at b;rw [<-Option.some.inj a,<-Option.some.inj b] at c;exact absurd c hx
 ·refine .inr ⟨k,hk,.inl hbad,fun e h=>?_⟩
  have nogood:∀ q,readS s=some q->posCan q=true->False:=fun q a b=>by
   rcases hbad with ⟨_,c⟩|⟨_,r,c,d⟩
   ·rw [c] at a;cases a
   ·rw [c] at a;rw [<-Option.some.inj a,d] at b;cases b
  rcases h with ⟨k',a,rfl⟩|⟨q,a,b,_⟩|⟨q,x,a,b,_⟩|⟨q,x,a,b,_⟩
  ·have:k'=k:=by
    rcases hbad with ⟨rfl,c⟩|⟨rfl,r,c,d⟩<;>rcases a with ⟨rfl,c'⟩|⟨rfl,r',c',d'⟩
    ·rfl
    ·rw [c] at c';cases c'
    ·rw [c] at c';cases c'
    ·rfl
   rw [this]
  ·exact (nogood q a b).elim
  ·exact (nogood q a b).elim
  ·exact (nogood q a b).elim
def PlayEnd (s t:ByteArray) (e:Ending):Prop :=
 (∃ k,k≠0/\ErrK s t k/\e=.returned (.tuple #[.string ⟨#[]⟩,.int .i64 k])) ∨
 (∃ p x,readS s=some p/\posCan p=true/\mvR t=some x/\x∈movS (posZ p) p.white p.castle p.behind/\e=.returned (.tuple #[.string ⟨(afW p x).toArray⟩,.int .i64 0]))
theorem write_row2 {z:Nat->UInt8} {wh:Bool} {f:Nat->Bool} {b h g:Int} {PA:Array Value} (r:Row z wh f b h g PA) (hb:b=-1\/(0<=b/\b<64)) (h0:0<=h) (h1:h<=65535) (g0:0<=g) (g1:g<=65535) (w:World) (ht:Tab w):Calls Tryz.prog 39 #[.agg PA] w fun e w'=>e=.returned (.string ⟨(writeS z wh f b h g).toArray⟩)/\Gr w w':=by
 obtain ⟨A,a1,a2,rfl⟩:=rowp_is r;exact write_any z A a1 a2 wh f b h g hb h0 h1 g0 g1 w ht
theorem qx9 {p:Pos} (h:posCan p=true):0<=p.half/\p.half<=65535/\0<=p.full/\p.full<=65535:=by
 unfold posCan canS canM at h;simp only [Bool.and_eq_true] at h;obtain ⟨_,⟨⟨⟨⟨_,_⟩,_⟩,_⟩,h5⟩,_⟩:=h;unfold clkOk at h5;simp only [Bool.and_eq_true,decide_eq_true_eq] at h5;omega
theorem qva (z:Nat->UInt8) (f t:Nat) (hf:f<64) (ht:t<64) {h:Int} (h0:0<=h) {wh:Bool} {g:Int} (g0:0<=g) (g1:g<=65535):(behA z f t=-1\/(0<=behA z f t/\behA z f t<64))/\0<=halA z f t h/\halA z f t h<=65535/\0<=fulA wh g/\fulA wh g<=65535:=by
 unfold behA halA fulA;refine ⟨?_,?_,?_,?_,?_⟩
 ·split
  ·right;omega
  ·left;rfl
 ·split<;>omega
 ·split<;>omega
 ·split<;>omega
 ·split<;>omega
theorem rookPlay_any (s t:ByteArray) (hs:s.size<4294967281) (ht:t.size<4294967281) (m:Int) (w:World) (hc:Ct m w) (htb:Tabs w) (hpw:Tab w):Calls Tryz.prog 24 #[.string s,.string t] w fun e w'=>PlayEnd s t e/\Gr w w':=by
 have h1:=hide (toMove_any s t hs ht m w hc htb);rcases qvc s t with ⟨p,x,hr,hcan,hm,hx,hone⟩|⟨k,hk,herr,hone⟩
 ·have h2:Hid (Calls Tryz.prog 50 #[.string s,.string t] w fun e w'=>e=.returned (.tuple #[.agg (posV p),.agg (mvA x),.int .i64 0])/\Gr w w'):=hide ((qa h1).mono fun e w' h=>⟨hone e h.1,h.2⟩);have hend:Hid (PlayEnd s t (.returned (.tuple #[.string ⟨(afW p x).toArray⟩,.int .i64 0]))):=hide (.inr ⟨p,x,hr,hcan,hm,hx,rfl⟩);obtain ⟨hC,hb0,hb1⟩:=qqs hr hcan;have hxl:=List.mem_filter.1 ((qqz hC hb0 hb1 x).2 hx);have hok:=qvn _ _ _ _ x hx;have hlo:=qx3 hC hb0 hb1;obtain ⟨c0,c1,c2,c3⟩:=qx9 hcan;have hrow:=jf hr;have hz:=hrow.size;have ho:=hide (qy hrow);obtain ⟨f,tt,u⟩:=x;have haf:Hid (∀ W,Homes W->Calls Tryz.prog 51 #[.agg (posV p),.agg #[.int .i64 (f:Int),.int .i64 (tt:Int),.int .u8 (u.toNat:Int)]] W fun e w'=>∃ Q,e=.returned (.agg Q)/\Row (plZ (posZ p) p.behind (f,tt,u)) (!p.white) (cfA p.castle f tt 4) (behA (posZ p) f tt) (halA (posZ p) f tt p.half) (fulA p.white p.full) Q/\Gr W w'):=hide (fun W hh=>afterP_any hrow f tt u hok.1 hok.2 (fun a b=>hlo.k1 f tt u hxl.1 a b) (fun a b=>hlo.k2 f tt u hxl.1 a b) c0 c1 c2 c3 W hh);obtain ⟨q1,q2,q3,q4,q5⟩:=qva (posZ p) f tt hok.1 hok.2 c0 (wh:=p.white) c2 c3;have hwr:Hid (∀ Q,Row (plZ (posZ p) p.behind (f,tt,u)) (!p.white) (cfA p.castle f tt 4) (behA (posZ p) f tt) (halA (posZ p) f tt p.half) (fulA p.white p.full) Q->∀ W,Tab W->Calls Tryz.prog 39 #[.agg Q] W fun e w'=>e=.returned (.string ⟨(afW p (f,tt,u)).toArray⟩)/\Gr W w'):=hide (fun Q hQ W hT=>write_row2 hQ q1 q2 q3 q4 q5 W hT);have hmv:mvA (f,tt,u)=#[.int .i64 (f:Int),.int .i64 (tt:Int),.int .u8 (u.toNat:Int)]:=rfl;rw [hmv] at h2;generalize (⟨(afW p (f,tt,u)).toArray⟩:ByteArray)=S at hend hwr;generalize posV p=A at h2 hz ho haf;have hc':=hide hc;have hpw':=hide hpw;clear h1 hone hr hcan hm hx hC hb0 hb1 hxl hok hlo c0 c1 c2 c3 hrow q1 q2 q3 q4 q5 hc htb hpw hs ht hmv;go_enter Tryz.func24,Tryz.ntmps24
  go_upto_region 2 with (first
   | (go_at_call 50;refine (qa h2).mono ?_;rintro e w3 ⟨rfl,hg3⟩)
   | (refine wpList_store_row rfl 25 _ _ rfl w3.heap.size A rfl rfl 25 _ (by first|exact heap_alloc_new _ _|exact (heapTwo w3 _ _).1) (by rw [hz];exact infoP) (by rw [hz];exact zeroP.symm) (qa ho) ?_)
   | (refine wpList_store_row rfl 94 _ _ rfl (w3.heap.size+1) #[.int .i64 (f:Int),.int .i64 (tt:Int),.int .u8 (u.toNat:Int)] rfl rfl 94 zMv (by rw [setRow_other _ _ _ _ (by omega)];exact (heapTwo w3 _ _).2) infoMv3 rfl (by simp [Value.oneCell']) ?_))
  obtain ⟨y1,y2⟩:=heapTwo w3 (.cells Tryz.zeroCells25 25) (.cells zMv 94);have hg6:Gr w3 ((((w3.alloc (.cells Tryz.zeroCells25 25)).alloc (.cells zMv 94)).setRow w3.heap.size A).setRow (w3.heap.size+1) #[.int .i64 (f:Int),.int .i64 (tt:Int),.int .u8 (u.toNat:Int)]):=((((Gr.refl w3).alloc _ _).alloc _ _).setRow _ (Nat.le_refl _) _).setRow _ (by omega) _;have hb1:((((w3.alloc (.cells Tryz.zeroCells25 25)).alloc (.cells zMv 94)).setRow w3.heap.size A).setRow (w3.heap.size+1) #[.int .i64 (f:Int),.int .i64 (tt:Int),.int .u8 (u.toNat:Int)]).heap[w3.heap.size]?=some (.cells A 25):=by rw [setRow_other _ _ _ _ (by omega)];exact setRow_heap _ _ _ _ _ _ y1
  have hb2:((((w3.alloc (.cells Tryz.zeroCells25 25)).alloc (.cells zMv 94)).setRow w3.heap.size A).setRow (w3.heap.size+1) #[.int .i64 (f:Int),.int .i64 (tt:Int),.int .u8 (u.toNat:Int)]).heap[w3.heap.size+1]?=some (.cells #[.int .i64 (f:Int),.int .i64 (tt:Int),.int .u8 (u.toNat:Int)] 94):=setRow_heap _ _ _ _ _ _ (by rw [setRow_other _ _ _ _ (by omega)];exact y2);show Code.wp _ _ _ _ ((((w3.alloc (.cells Tryz.zeroCells25 25)).alloc (.cells zMv 94)).setRow w3.heap.size A).setRow (w3.heap.size+1) #[.int .i64 (f:Int),.int .i64 (tt:Int),.int .u8 (u.toNat:Int)]);generalize ((((w3.alloc (.cells Tryz.zeroCells25 25)).alloc (.cells zMv 94)).setRow w3.heap.size A).setRow (w3.heap.size+1) #[.int .i64 (f:Int),.int .i64 (tt:Int),.int .u8 (u.toNat:Int)])=w6 at hg6 hb1 hb2 ⊢;generalize w3.heap.size=b1 at hb1 hb2 ⊢;have m0:w6.cell? ⟨b1+1,0,none⟩=some (.int .i64 (f:Int)):=by rw [cell_of_row _ _ _ _ _ _ hb2];rfl
  have m1:w6.cell? ⟨b1+1,1,none⟩=some (.int .i64 (tt:Int)):=by rw [cell_of_row _ _ _ _ _ _ hb2];rfl
  have m2:w6.cell? ⟨b1+1,2,none⟩=some (.int .u8 (u.toNat:Int)):=by rw [cell_of_row _ _ _ _ _ _ hb2];rfl
  have hrw:=hide (qv hb1);have hgw:=hide (Gr.trans hg3 hg6);have hH6:=hide ((qa hc').gr (qa hgw)).homes;clear h2 hg3 hg6 hb1 hb2 y1 y2
  go_wp2_with (first
   | (go_at_call 51;refine (qa haf _ (qa hH6)).mono ?_;rintro e w7 ⟨Q,rfl,hQ,hg7⟩;have hgx:=hide (Gr.trans (qa hgw) hg7);have hT7:=hide ((qa hpw').gr (qa hgx)))
   | (go_at_call 39;refine (qa hwr _ hQ _ (qa hT7)).mono ?_;rintro e w8 ⟨rfl,hg8⟩)
   | (refine ql (by rfl) _ rfl b1 rfl hz (qa hrw) ?_))
  go_ret2;exact ⟨qa hend,Gr.trans (qa hgx) hg8⟩
 ·have h2:Hid (Calls Tryz.prog 50 #[.string s,.string t] w fun e w'=>e=.returned (.tuple #[.agg Tryz.zeroCells25,.agg zMv,.int .i64 k])/\Gr w w'):=hide ((qa h1).mono fun e w' h=>⟨hone e h.1,h.2⟩);have hend:Hid (PlayEnd s t (.returned (.tuple #[.string ⟨#[]⟩,.int .i64 k]))):=hide (.inl ⟨k,hk,herr,rfl⟩);have k2:(k != 0)=true:=by rw [bne_iff_ne];exact hk
  clear h1 hone hk herr hc htb hpw hs ht;go_enter Tryz.func24,Tryz.ntmps24
  go_upto_region 2 with (first
   | (go_at_call 50;refine (qa h2).mono ?_;rintro e w3 ⟨rfl,hg3⟩)
   | (refine wpList_store_row rfl 25 _ _ rfl w3.heap.size Tryz.zeroCells25 rfl rfl 25 _ (by first|exact heap_alloc_new _ _|exact (heapTwo w3 _ _).1) (by rw [zeroP];exact infoP) rfl zeroP_ones ?_)
   | (refine wpList_store_row rfl 94 _ _ rfl (w3.heap.size+1) zMv rfl rfl 94 zMv (by rw [setRow_other _ _ _ _ (by omega)];exact (heapTwo w3 _ _).2) infoMv3 rfl zMv_ones ?_))
  have hg6:Gr w3 ((((w3.alloc (.cells Tryz.zeroCells25 25)).alloc (.cells zMv 94)).setRow w3.heap.size Tryz.zeroCells25).setRow (w3.heap.size+1) zMv):=((((Gr.refl w3).alloc _ _).alloc _ _).setRow _ (Nat.le_refl _) _).setRow _ (by omega) _;show Code.wp _ _ _ _ ((((w3.alloc (.cells Tryz.zeroCells25 25)).alloc (.cells zMv 94)).setRow w3.heap.size Tryz.zeroCells25).setRow (w3.heap.size+1) zMv);generalize ((((w3.alloc (.cells Tryz.zeroCells25 25)).alloc (.cells zMv 94)).setRow w3.heap.size Tryz.zeroCells25).setRow (w3.heap.size+1) zMv)=w6 at hg6 ⊢;have hgw:=hide (Gr.trans hg3 hg6);clear h2 hg3 hg6;go_wp2_with fail;go_ret2;exact ⟨qa hend,qa hgw⟩
end Go.Proofs.YtnfakamfmkhlbaaGreatDoor.C
namespace Go.Proofs.YtnfakamfmkhlbaaGreatDoor.C
open Go.ChangeShapes Go.WideShapes Go.ChangeAt Go.RowKit Go.Shelf
theorem rdT_4 {s:ByteArray} (h:s.size=4):rdT (s.extract 4 s.size)=(0,true):=by
 have:¬ 0<(s.extract 4 s.size).size:=by rw [ByteArray.size_extract];omega
 unfold rdT;rw [dif_neg this]
theorem rdT_5 {s:ByteArray} (h:s.size=5):rdT (s.extract 4 s.size)=(s[4],decide (0<=Lib.indexByte turnsL s[4])):=by
 have h1:0<(s.extract 4 s.size).size:=by rw [ByteArray.size_extract];omega
 have h2:(s.extract 4 s.size)[0]=s[4]:=by rw [ByteArray.getElem_extract]
 unfold rdT;rw [dif_pos h1,h2]
theorem sqI_sq (x:ByteArray):decide (0<=sqI x)=(sqS x).isSome:=by
 unfold sqI;cases sqS x with
 | none=>rfl
 | some n=>exact decide_eq_true (by show (0:Int)<=(n:Int);omega)
theorem mvR_is {s:ByteArray} (h:s.size=4\/s.size=5):(mvR s).isSome=(decide (0<=sqI (s.extract 0 2))&&decide (0<=sqI (s.extract 2 4))&&(rdT (s.extract 4 s.size)).2):=by
 rw [sqI_sq,sqI_sq];unfold mvR;rw [if_pos h];cases sqS (s.extract 0 2) with
 | none=>rfl
 | some f =>
  cases sqS (s.extract 2 4) with
  | none=>rfl
  | some t =>
   simp only;cases (rdT (s.extract 4 s.size)).2<;>rfl
theorem written_any (s:ByteArray) (w:World):Calls Tryz.prog 178 #[.string s] w fun e w'=>e=.returned (.bool (mvR s).isSome)/\w'=w:=by
  by_cases h45:s.size=4\/s.size=5
  · have hV:=hide (mvR_is h45)
    generalize (mvR s).isSome=V at hV ⊢
    have k1:=hide (fun W=>jp (s.extract 0 2) W)
    have k2:=hide (fun W=>jp (s.extract 2 4) W)
    generalize sqI (s.extract 0 2)=a1 at hV k1
    generalize sqI (s.extract 2 4)=a2 at hV k2
    obtain ⟨x1,hx1⟩:∃ x,decide (0<=a1)=x:=⟨_,rfl⟩
    obtain ⟨x2,hx2⟩:∃ x,decide (0<=a2)=x:=⟨_,rfl⟩
    rw [hx1,hx2] at hV
    rcases h45 with h|h
    · rw [rdT_4 h] at hV
      have n1:((s.size:Int) != 4)=false:=by rw [h];rfl
      have n2:((s.size:Int)==4)=true:=by rw [h];rfl
      have l4:(4:Int)<=(s.size:Int):=by omega
      cases x1<;>cases x2 <;>
        (go_enter Tryz.func178,Tryz.ntmps178
         go_upto_region 4 with (go_at_call 149;refine (qa k1 _).mono ?_;rintro e w' ⟨rfl,hw⟩;have hw':=hw.symm;subst hw';clear hw)
         go_upto_region 5 with (go_at_call 149;refine (qa k2 _).mono ?_;rintro e w' ⟨rfl,hw⟩;have hw':=hw.symm;subst hw';clear hw)
         go_wp2_with fail
         go_ret
         exact ⟨by rw [qa hV];rfl,rfl⟩)
    · have h4:4<s.size:=by omega
      rw [rdT_5 h] at hV
      have k3:=hide (fun W=>xb ⟨#[113,114,98,110]⟩ (by decide +kernel) s[4] W)
      obtain ⟨x3,hx3⟩:∃ x,decide (0<=Lib.indexByte turnsL s[4])=x:=⟨_,rfl⟩
      rw [hx3] at hV
      have hx3':decide ((0:Int)<=Lib.indexByte (⟨#[113,114,98,110]⟩:ByteArray).data.toList s[4])=x3:=hx3
      generalize Lib.indexByte (⟨#[113,114,98,110]⟩:ByteArray).data.toList s[4]=a3 at k3 hx3'
      clear hx3
      have n1:((s.size:Int) != 4)=true:=by rw [h];rfl
      have n2:((s.size:Int) != 5)=false:=by rw [h];rfl
      have n3:((s.size:Int)==4)=false:=by rw [h];rfl
      have l4:(4:Int)<(s.size:Int):=by omega
      cases x1<;>cases x2<;>cases x3 <;>
        (go_enter Tryz.func178,Tryz.ntmps178
         go_upto_region 4 with (go_at_call 149;refine (qa k1 _).mono ?_;rintro e w' ⟨rfl,hw⟩;have hw':=hw.symm;subst hw';clear hw)
         go_upto_region 5 with (go_at_call 149;refine (qa k2 _).mono ?_;rintro e w' ⟨rfl,hw⟩;have hw':=hw.symm;subst hw';clear hw)
         go_wp2_with (go_at_call 118;refine (qa k3 _).mono ?_;rintro e w' ⟨rfl,hw⟩;have hw':=hw.symm;subst hw';clear hw)
         go_ret
         exact ⟨by rw [qa hV];rfl,rfl⟩)
  · have hv:mvR s=none:=by unfold mvR;rw [if_neg h45]
    rw [hv]
    have n1:((s.size:Int) != 4)=true:=by rw [bne_iff_ne];omega
    have n2:((s.size:Int) != 5)=true:=by rw [bne_iff_ne];omega
    go_enter Tryz.func178,Tryz.ntmps178
    go_wp2_with fail
    go_ret
    exact ⟨rfl,rfl⟩
end Go.Proofs.YtnfakamfmkhlbaaGreatDoor.C
