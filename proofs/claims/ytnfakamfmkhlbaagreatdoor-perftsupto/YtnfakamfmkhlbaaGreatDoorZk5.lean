import Derived.Test.YtnfakamfmkhlbaaGreatDoorZk4
import Derived.Test.YtnfakamfmkhlbaaGreatDoorKz2
import Derived.Test.YtnfakamfmkhlbaaGreatDoorKz3
set_option maxRecDepth 100000
set_option maxHeartbeats 4000000
set_option linter.unusedSimpArgs false
namespace Go.Proofs.YtnfakamfmkhlbaaGreatDoor.C
open Go.ChangeShapes Go.WideShapes Go.ChangeAt Go.RowKit Go.Shelf
open Go.Proofs.YtnfakamfmkhlbaaGreatDoor.P
attribute [local go_sem] qd qi Oper.semAt_some
theorem qj7 {z:Nat->UInt8} {wh:Bool} {fc:Nat->Bool} {b h g:Int} {PA:Array Value} (o:Ok z wh fc b h g) (r:Row z wh fc b h g PA) {f t:Nat} {u:UInt8} (hx:(f,t,u)∈movS z wh fc b) (w:World) :
  Calls Tryz.prog 121 #[.agg PA,.agg #[.int .i64 (f:Int),.int .i64 (t:Int),.int .u8 (u.toNat:Int)]] w fun e w'=>∃ Q,e=.returned (.agg Q)/\Row (plZ z b (f,t,u)) (!wh) (cfA fc f t 4) (behA z f t) (halA z f t h) (fulA wh g) Q/\Gr w w':=by
 obtain ⟨c0,c1,c2,c3⟩:=o.clk;obtain ⟨hf,ht,hu,_,_⟩:=o.mv hx;have hl:=(qjv o.good o.b0 o.b1 hf ht hu).2 ((zc o.good o.b0 o.b1 _).2 hx);refine (qj6 r f t hf ht u hu c0 c1 c2 c3 w).mono ?_;rintro e w' ⟨Q,rfl,hq,hg⟩;exact ⟨Q,rfl,row_same o.good c1 c3 hf ht hu hl hq,hg⟩
theorem allO_any {z:Nat->UInt8} {wh:Bool} {fc:Nat->Bool} {b h g:Int} {PA:Array Value} (o:Ok z wh fc b h g) (r:Row z wh fc b h g PA) (w:World) :
  Calls Tryz.prog 95 #[.agg PA] w fun e w'=>∃ v,e=.returned v/\Mrs w.heap.size v (allR z wh fc b) w'/\Gr w w':=by
 obtain ⟨c0,c1,c2,c3⟩:=o.clk;exact allR_any r o.good o.b0 o.b1 c0 c1 c2 c3 w
def behN (d:Nat) (z:Nat->UInt8) (wh:Bool) (fc:Nat->Bool) (b:Int) (x:Mv):Nat:=pathsN d (plZ z b x) (!wh) (cfA fc x.1 x.2.1 4) (behA z x.1 x.2.1)
structure Rp (w:World) (PA:Array Value) (w1 W:World):Prop where
 p:W.heap[w.heap.size]?=some (.cells PA 25)
 gr:Gr w1 W
theorem Rp.next {w:World} {PA:Array Value} {w1 W W':World} (h:Rp w PA w1 W) (g:Gr W W'):Rp w PA w1 W':=⟨(Below.block g _ (xg h.p)).trans h.p,Gr.trans h.gr g⟩
theorem pathsR_any:∀ (d:Nat),d<=3->∀ {z:Nat->UInt8} {wh:Bool} {fc:Nat->Bool} {b h g:Int} {PA:Array Value},Ok z wh fc b h g->Row z wh fc b h g PA->∀ w:World,
  Calls Tryz.prog 120 #[.agg PA,.int .i64 (d:Int)] w fun e w'=>e=.returned (.int .u64 ((pathsN d z wh fc b:Nat):Int))/\Gr w w':=by
 intro d;induction d with
 | zero =>
  intro _ z wh fc b h g PA o r w;show Calls Tryz.prog 120 #[.agg PA,.int .i64 0] w fun e w'=>e=.returned (.int .u64 1)/\Gr w w'
  clear o r;go_enter Tryz.func120,Tryz.ntmps120;go_wp2_with fail;go_ret;exact ⟨rfl,(Gr.refl w).alloc _ _⟩
 | succ d ih =>
  intro hd z wh fc b h g PA o r w;have hz:=r.size;have hall:Hid (∀ W:World,Calls Tryz.prog 95 #[.agg PA] W fun e w'=>∃ v,e=.returned v/\Mrs W.heap.size v (allR z wh fc b) w'/\Gr W w'):=hide fun W=>allO_any o r W
  have hpm:=all_perm o.good o.b0 o.b1
  have hbh:Hid (∀ f t u,(f,t,u)∈allR z wh fc b->∀ W:World,Calls Tryz.prog 121 #[.agg PA,.agg #[.int .i64 (f:Int),.int .i64 (t:Int),.int .u8 (u.toNat:Int)]] W fun e w'=>∃ Q,e=.returned (.agg Q)/\(∀ V:World,Calls Tryz.prog 120 #[.agg Q,.int .i64 (d:Int)] V fun e w'=>e=.returned (.int .u64 ((behN d z wh fc b (f,t,u):Nat):Int))/\Gr V w')/\Gr W w'):=hide fun f t u hx W=>by
   have hx':=hpm.mem_iff.1 hx;refine (qj7 o r hx' W).mono ?_;rintro e w' ⟨Q,rfl,hq,hg⟩;exact ⟨Q,rfl,fun V=>ih (by omega) (o.next hx') hq V,hg⟩
  have hlen:(allR z wh fc b).length<=20480:=upI_len _ _ _ _ 64;have htot:Hid (((allR z wh fc b).map (behN d z wh fc b)).sum=pathsN (d+1) z wh fc b):=hide (qxt hpm d);have htl:Hid (((allR z wh fc b).map (behN d z wh fc b)).sum<=1000000000000000000):=hide (by rw [qa htot];exact paths_lt hd z wh fc b)
  have hone:Hid (d=0->((allR z wh fc b).length:Nat)=pathsN (d+1) z wh fc b):=hide fun e=>by
   subst e;rw [show 0+1=1 from rfl,paths_one,hpm.length_eq]
  generalize pathsN (d+1) z wh fc b=T at htot hone ⊢;generalize behN d z wh fc b=val at hbh htot htl;generalize allR z wh fc b=ys at hall hbh hlen htot htl hone;clear ih o r hpm;have y1:=heap_alloc_new w (.cells PA 25);have hg0:Gr w (w.alloc (.cells PA 25)):=(Gr.refl w).alloc _ _;obtain ⟨D,hD⟩:∃ D:Int,Hid (D=((d+1:Nat):Int)):=⟨_,hide rfl⟩;rw [<-qa hD];have e0:(D==0)=false:=by have:=qa hD;rw [beq_eq_false_iff_ne];omega
  go_enter Tryz.func120,Tryz.ntmps120;go_upto_region 3 with fail;generalize w.alloc (.cells PA 25)=w0 at y1 hg0 ⊢;have hrow:=hide (xr y1);have hlt0:=xg y1
  go_upto_region 4 with (first
   | (go_at_call 95;refine (qa hall _).mono ?_;rintro e w1 ⟨v,rfl,hv,hg1⟩;obtain ⟨pp,cap,rfl,hcap,hel⟩:=mrs_form hv)
   | (refine ql (by rfl) _ rfl w.heap.size rfl hz (qa hrow) ?_))
  have hgw:=hide (Gr.trans hg0 hg1);have hp1:=hide ((Below.block hg1 _ hlt0).trans y1);have hel':=hide hel;clear hall hv hg1 hrow hel y1 hg0 hlt0;by_cases h1:d=0
  ·subst h1;have hT:=qa hone rfl;subst hT;have e1:(D==1)=true:=by have:=qa hD;rw [beq_iff_eq];omega
   have ew:IntKind.u64.wrap (ys.length:Int)=(ys.length:Int):=by rw [IntKind.wrap_u64];omega
   clear hone htot htl hbh;go_wp2_with fail;go_ret;exact ⟨rfl,qa hgw⟩
  ·have e1:(D==1)=false:=by have:=qa hD;rw [beq_eq_false_iff_ne];omega
   have ed:IntKind.i64.wrap (D-1)=(d:Int):=by have:=qa hD;rw [IntKind.wrap_i64];omega
   have edd:IntKind.i64.wrap (d:Int)=(d:Int):=by rw [IntKind.wrap_i64];omega
   clear hone;go_wp2_with fail;go_loopg [6,7] ys.length (fun g n i wr=>∃ k:Nat,k+g=ys.length/\i=.int .i64 (k:Int)/\n=.int .u64 ((((ys.take k).map val).sum:Nat):Int)/\Gr w1 wr)
   case atStart=>exact ⟨0,by omega,rfl,rfl,Gr.refl _⟩
   case round =>
    obtain ⟨k,k1,rfl,rfl,hgr⟩:=hrel;by_cases hlt:k<ys.length
    ·obtain ⟨gg,rfl,x0,x1,x2⟩:=qa hel' k hlt;have hblt:gg<w1.heap.size:=World.block_lt_of_cell? _ _ x0;have z0:=x0;have z1:=x1;have z2:=x2;have hpk:=hide ((Below.block hgr _ (xg (qa hp1))).trans (qa hp1));have hrk:=hide (xr (qa hpk));have hmem:ys[k]∈ys:=List.getElem_mem _;have htk:ys.take (k+1)=ys.take k++[ys[k]]:=List.take_succ_eq_append_getElem hlt;have hpre:ys.take k++[ys[k]] <+: ys:=by rw [<-htk];exact List.take_prefix _ _
     have hsb:=sum_pre (f:=val) hpre;have hst:Hid (((ys.take (k+1)).map val).sum=((ys.take k).map val).sum+val ys[k]):=hide (by rw [htk,List.map_append,List.sum_append,List.map_cons,List.map_nil,List.sum_cons,List.sum_nil,Nat.add_zero]);have htl2:=qa htl;clear htk hpre;clear x0 x1 x2;generalize ys[k]=y at z0 z1 z2 hmem hsb hst;obtain ⟨f,t,u⟩:=y;have hb1:=hide (qa hbh f t u hmem);generalize ((ys.take k).map val).sum=sv at hsb hst ⊢;generalize val (f,t,u)=xv at hsb hst hb1;have hwr:IntKind.u64.wrap ((sv:Int)+(xv:Int))=((sv+xv:Nat):Int):=by rw [IntKind.wrap_u64];omega
     have hgr':=hide hgr;have k0:(0:Int)<=(k:Int):=by omega
     have kl:(k:Int)<(ys.length:Int):=by omega
     clear hgr hsb htl2 hmem hbh htl htot;go_upto_region 10 with fail;have hS0:Rp w PA w1 wr.drew:=⟨qa hpk,(qa hgr').drew⟩;refine wp_region_held_drew (S:=Rp w PA w1) (by kernel_rfl) hS0 (fun hHeld=>?_);clear hS0;refine C.tq 0 (.int .u64 (sv:Int)) hHeld ?_;refine C.ty 1 (.agg PA) rfl (qqz hz (by rfl) _ rfl w.heap.size rfl (fun _ h=>xr h.p)) hHeld ?_;refine C.tq 2 (.slice (some ⟨gg,0,none⟩) ys.length cap) hHeld ?_;refine C.tq 3 (.int .i64 (k:Int)) hHeld ?_;refine C.tq 4 (.pointer (some ⟨gg,k*3,none⟩)) hHeld ?_
     refine wpAnyH_take (i:=5) (v:=.agg #[.int .i64 (f:Int),.int .i64 (t:Int),.int .u8 (u.toNat:Int)]) rfl (by kernel_rfl) (by kernel_rfl) (by kernel_rfl) (fun _ _ _ h=>h) (Or.inl ⟨by rfl,fun w' hw=>(by
      have e0:=(Below.cell hw.gr hblt).trans z0;have e1:=(Below.cell hw.gr hblt).trans z1;have e2:=(Below.cell hw.gr hblt).trans z2;go_simp;try rfl)⟩) hHeld ?_
     simp only [C.py];refine C.ty 7 (.int .i64 D) rfl (Or.inl ⟨by rfl,fun w' hw=>(by go_simp;try rfl)⟩) hHeld ?_;refine C.ty 8 (.int .i64 (d:Int)) rfl (Or.inl ⟨by rfl,fun w' hw=>(by go_simp;first|done|exact ed|exact edd)⟩) hHeld ?_;refine C.rd 6 fun K hK=>?_
     go_simp;refine (qa hb1 _).mono ?_;rintro e w2 ⟨Q,rfl,hq,hg2⟩;refine hK.out _ _ (hHeld.next hg2) (fun hHeld=>?_);clear hK K
     try simp only [C.py]
     refine C.rd 9 fun K hK=>?_
     go_simp;refine (hq _).mono ?_;rintro e w3 ⟨rfl,hg3⟩;refine hK.out _ _ (hHeld.next hg3) (fun hHeld=>?_);clear hK K
     try simp only [C.py]
     refine C.ty 10 (.int .u64 ((sv+xv:Nat):Int)) rfl (Or.inl ⟨by rfl,fun w' hw=>(by go_simp;try exact hwr)⟩) hHeld ?_;refine C.rd 11 fun K hK=>?_
     go_simp;refine hK.out _ _ hHeld (fun hHeld=>?_);clear hK K
     try simp only [C.py]
     refine wpAnyH_done (by kernel_rfl) ?_ _;have hgf:=hide hHeld.gr;clear hHeld hq;go_wp2_with fail;go_roundg (gk-1)
     case measure=>omega
     case rel=>exact ⟨k+1,by omega,by go_num,by rw [qa hst,Int.natCast_add],qa hgf⟩
    ·have ek:k=ys.length:=by omega
     subst ek;have hT:((ys.take ys.length).map val).sum=T:=by rw [List.take_length];exact qa htot
     rw [hT];clear htot htl hbh hT;go_wp2_with fail;go_ret;exact ⟨rfl,Gr.trans (qa hgw) hgr⟩
def TocEnd (s:ByteArray) (d lo n:Int) (e:Ending):Prop :=
 (∃ k,k≠0/\BadK s k/\e=.returned (.tuple #[.agg Tryz.zeroCells25,.agg nilW,.int .i64 k])) ∨
 (∃ p,readS s=some p/\posCan p=true/\¬ (lo<=d/\d<=3)/\e=.returned (.tuple #[.agg Tryz.zeroCells25,.agg nilW,.int .i64 5])) ∨
 (∃ p,readS s=some p/\posCan p=true/\(lo<=d/\d<=3)/\¬ (n=1\/n=2)/\e=.returned (.tuple #[.agg Tryz.zeroCells25,.agg nilW,.int .i64 3])) ∨
 (∃ p ga gm gi,readS s=some p/\posCan p=true/\(lo<=d/\d<=3)/\WayN n ga gm gi/\e=.returned (.tuple #[.agg (posV p),.agg (wayA ga gm),.int .i64 0]))
structure Tk (w W:World):Prop where
 ps:W.heap[w.heap.size]?=some (.cells Tryz.zeroCells25 25)
 mv:W.heap[w.heap.size+1]?=some (.cells nilW 84)
 lt:w.heap.size+1<W.heap.size
 gr:Gr w W
theorem Tk.next {w W W':World} (h:Tk w W) (g:Gr W W'):Tk w W' :=
 ⟨(Below.block g _ (Nat.lt_of_succ_lt h.lt)).trans h.ps,(Below.block g _ h.lt).trans h.mv,Nat.lt_of_lt_of_le h.lt (Below.size g),Gr.trans h.gr g⟩
theorem Tk.start (w:World):Tk w ((w.alloc (.cells Tryz.zeroCells25 25)).alloc (.cells nilW 84)):=by
 obtain ⟨e1,e2⟩:=heapTwo w (.cells Tryz.zeroCells25 25) (.cells nilW 84);exact ⟨e1,e2,by rw [World.size_alloc,World.size_alloc];omega,((Gr.refl w).alloc _ _).alloc _ _⟩
theorem Tk.out {w W:World} (h:Tk w W) (A M:Array Value):((W.setRow w.heap.size A).setRow (w.heap.size+1) M).heap[w.heap.size]?=some (.cells A 25)/\((W.setRow w.heap.size A).setRow (w.heap.size+1) M).heap[w.heap.size+1]?=some (.cells M 84)/\Gr w ((W.setRow w.heap.size A).setRow (w.heap.size+1) M) :=
 ⟨by rw [setRow_other _ _ _ _ (by omega)];exact setRow_heap _ _ _ _ _ _ h.ps,setRow_heap _ _ _ _ _ _ (by rw [setRow_other _ _ _ _ (by omega)];exact h.mv),(h.gr.setRow _ (Nat.le_refl _) _).setRow _ (by omega) _⟩
theorem Tk.second {w W:World} (h:Tk w W) (A:Array Value):(W.setRow w.heap.size A).heap[w.heap.size+1]?=some (.cells nilW 84):=by rw [setRow_other _ _ _ _ (by omega)];exact h.mv
structure Tk3 (w:World) (b1:Nat) (A:Array Value) (b2:Nat) (M:Array Value) (W:World):Prop where
 ps:∃ R,R.size=72/\W.heap[w.heap.size]?=some (.cells R 25)
 mv:∃ R,R.size=2/\W.heap[w.heap.size+1]?=some (.cells R 84)
 gr:Gr w W
 p:W.heap[b1]?=some (.cells A 25)
 m:W.heap[b2]?=some (.cells M 84)
 h1:w.heap.size+1<b1
 h2:w.heap.size+1<b2
theorem Tk3.putP {w W:World} {b1 b2:Nat} {A M:Array Value} (h:Tk3 w b1 A b2 M W) (X:Array Value) (hX:X.size=72):Tk3 w b1 A b2 M (W.setRow w.heap.size X):=by
 obtain ⟨R,r1,r2⟩:=h.ps;obtain ⟨R',r3,r4⟩:=h.mv;have:=h.h1;have:=h.h2;exact ⟨⟨X,hX,setRow_heap _ _ _ _ _ _ r2⟩,⟨R',r3,by rw [setRow_other _ _ _ _ (by omega)];exact r4⟩,h.gr.setRow _ (Nat.le_refl _) _,by rw [setRow_other _ _ _ _ (by omega)];exact h.p,by rw [setRow_other _ _ _ _ (by omega)];exact h.m,h.h1,h.h2⟩
theorem Tk3.putM {w W:World} {b1 b2:Nat} {A M:Array Value} (h:Tk3 w b1 A b2 M W) (X:Array Value) (hX:X.size=2):Tk3 w b1 A b2 M (W.setRow (w.heap.size+1) X):=by
 obtain ⟨R,r1,r2⟩:=h.ps;obtain ⟨R',r3,r4⟩:=h.mv;have:=h.h1;have:=h.h2;exact ⟨⟨R,r1,by rw [setRow_other _ _ _ _ (by omega)];exact r2⟩,⟨X,hX,setRow_heap _ _ _ _ _ _ r4⟩,h.gr.setRow _ (by omega) _,by rw [setRow_other _ _ _ _ (by omega)];exact h.p,by rw [setRow_other _ _ _ _ (by omega)];exact h.m,h.h1,h.h2⟩
theorem Tk3.c0 {w W:World} {b1 b2 ga gm:Nat} {A:Array Value} (h:Tk3 w b1 A b2 (wayA ga gm) W):W.cell? ⟨b2,0,none⟩=some (.func (.func ga) #[] #[]):=by rw [cell_of_row _ _ _ _ _ _ h.m];rfl
theorem Tk3.c1 {w W:World} {b1 b2 ga gm:Nat} {A:Array Value} (h:Tk3 w b1 A b2 (wayA ga gm) W):W.cell? ⟨b2,1,none⟩=some (.func (.func gm) #[] #[]):=by rw [cell_of_row _ _ _ _ _ _ h.m];rfl
theorem toCount_any (s:ByteArray) (hs:s.size<4294967281) (d lo n:Int) (m:Int) (w:World) (hc:Ct m w):Calls Tryz.prog 61 #[.string s,.int .i64 d,.int .i64 lo,.int .i64 n] w fun e w'=>TocEnd s d lo n e/\Gr w w':=by
 have hT0:=Tk.start w;have h1:Hid (∀ W,Gr w W->Calls Tryz.prog 12 #[.string s] W fun e w'=>ParseEnd s e/\Gr W w'):=hide (fun W g=>qjp s hs m W (hc.gr g).mx (hc.gr g).ml (hc.gr g).tab (hc.gr g).homes);rcases xo s with ⟨p,hr,hcan,hone⟩|⟨k,hk,hbad,hone⟩
 ·have h2:Hid (∀ W,Gr w W->Calls Tryz.prog 12 #[.string s] W fun e w'=>e=.returned (.tuple #[.agg (posV p),.int .i64 0])/\Gr W w'):=hide (fun W g=>(qa h1 W g).mono fun e w' h=>⟨hone e h.1,h.2⟩);have hrow:=jn hr;have hz:=hrow.size;have ho:=hide (qz hrow);have hend5:Hid (¬ (lo<=d/\d<=3)->TocEnd s d lo n (.returned (.tuple #[.agg Tryz.zeroCells25,.agg nilW,.int .i64 5]))):=hide (fun e=>.inr (.inl ⟨p,hr,hcan,e,rfl⟩));have hend3:Hid ((lo<=d/\d<=3)->¬ (n=1\/n=2)->TocEnd s d lo n (.returned (.tuple #[.agg Tryz.zeroCells25,.agg nilW,.int .i64 3]))):=hide (fun e q=>.inr (.inr (.inl ⟨p,hr,hcan,e,q,rfl⟩)));have hend0:Hid (∀ ga gm gi,(lo<=d/\d<=3)->WayN n ga gm gi->TocEnd s d lo n (.returned (.tuple #[.agg (posV p),.agg (wayA ga gm),.int .i64 0]))):=hide (fun ga gm gi e q=>.inr (.inr (.inr ⟨p,ga,gm,gi,hr,hcan,e,q,rfl⟩)));generalize posV p=A at h2 hz ho hend0;clear h1 hone hc hs hrow hr hcan;go_enter Tryz.func61,Tryz.ntmps61;go_upto_region 1 with fail;show Code.wp _ _ _ _ ((w.alloc (.cells Tryz.zeroCells25 25)).alloc (.cells nilW 84));generalize ((w.alloc (.cells Tryz.zeroCells25 25)).alloc (.cells nilW 84))=w0 at hT0 ⊢;have hg0:=hT0.gr
  go_upto_region 4 with (first
   | (go_at_call 12;refine (qa h2 _ hg0).mono ?_;rintro e w3 ⟨rfl,hg3⟩)
   | (refine wpList_store_row rfl 25 _ _ rfl w3.heap.size A rfl rfl 25 _ (heap_alloc_new _ _) (by rw [hz];exact infoP) (by rw [hz];exact zeroP.symm) (qa ho) ?_))
  have hg4:Gr w3 ((w3.alloc (.cells Tryz.zeroCells25 25)).setRow w3.heap.size A):=((Gr.refl w3).alloc Tryz.zeroCells25 25).setRow w3.heap.size (Nat.le_refl _) A;have hT4:=hT0.next (Gr.trans hg3 hg4);have hb1:((w3.alloc (.cells Tryz.zeroCells25 25)).setRow w3.heap.size A).heap[w3.heap.size]?=some (.cells A 25):=setRow_heap _ _ _ _ _ _ (heap_alloc_new w3 _);have hlb:w3.heap.size<((w3.alloc (.cells Tryz.zeroCells25 25)).setRow w3.heap.size A).heap.size:=by rw [size_setRow,World.size_alloc];omega
  show Code.wp _ _ _ _ ((w3.alloc (.cells Tryz.zeroCells25 25)).setRow w3.heap.size A);generalize (w3.alloc (.cells Tryz.zeroCells25 25)).setRow w3.heap.size A=w4 at hT4 hb1 hlb ⊢;have hlo1:w.heap.size+1<w3.heap.size:=Nat.lt_of_lt_of_le hT0.lt (Below.size hg3);generalize w3.heap.size=b1 at hb1 hlb hlo1 ⊢;clear hT0 hg0 hg3 hg4 h2;by_cases hd:lo<=d/\d<=3
  ·have q1:¬ d<lo:=by omega
   have q2:¬ 3<d:=by omega
   go_upto_region 6 with fail;by_cases hn:n=1\/n=2
   ·obtain ⟨ga,gm,gi,hway,hof⟩:∃ ga gm gi,WayN n ga gm gi/\ofV n=.tuple #[.agg (wayA ga gm),.bool true]:=by
     rcases hn with rfl|rfl
     ·exact ⟨_,_,_,⟨.inl ⟨rfl,rfl,rfl,rfl⟩⟩,rfl⟩
     ·exact ⟨_,_,_,⟨.inr ⟨rfl,rfl,rfl,rfl⟩⟩,rfl⟩
    have hofc:Hid (∀ W,Calls Tryz.prog 44 #[.int .i64 n] W fun e w'=>e=.returned (.tuple #[.agg (wayA ga gm),.bool true])/\Gr W w'):=hide fun W=>by rw [<-hof];exact of_any n W
    have hend:=hide (qa hend0 ga gm gi hd hway);clear hend5 hend3 hend0 hof hn hway hd q1 q2
    go_upto_region 7 with (first
     | (go_at_call 44;refine (qa hofc _).mono ?_;rintro e w5 ⟨rfl,hg5⟩)
     | (refine wpList_store_row rfl 84 _ _ rfl w5.heap.size (wayA ga gm) rfl rfl 84 nilW (heap_alloc_new _ _) infoW rfl (ju _ _) ?_))
    have hg6:Gr w5 ((w5.alloc (.cells nilW 84)).setRow w5.heap.size (wayA ga gm)):=((Gr.refl w5).alloc nilW 84).setRow w5.heap.size (Nat.le_refl _) (wayA ga gm);have hT6:=(hT4.next hg5).next hg6;have hb1':=(Below.block (Gr.trans hg5 hg6) _ hlb).trans hb1;have hb2:((w5.alloc (.cells nilW 84)).setRow w5.heap.size (wayA ga gm)).heap[w5.heap.size]?=some (.cells (wayA ga gm) 84):=setRow_heap _ _ _ _ _ _ (heap_alloc_new w5 _);show Code.wp _ _ _ _ ((w5.alloc (.cells nilW 84)).setRow w5.heap.size (wayA ga gm));generalize (w5.alloc (.cells nilW 84)).setRow w5.heap.size (wayA ga gm)=w6 at hT6 hb1' hb2 ⊢;have hlo2:w.heap.size+1<w5.heap.size:=Nat.lt_of_lt_of_le hT4.lt (Below.size hg5);generalize w5.heap.size=b2 at hb2 hlo2 ⊢;clear hT4 hb1 hlb hg5 hg6 hofc;go_upto_region 9 with fail;have hS:Tk3 w b1 A b2 (wayA ga gm) w6.drew:=⟨⟨_,zeroP,hT6.ps⟩,⟨_,rfl,hT6.mv⟩,hT6.gr.drew,hb1',hb2,hlo1,hlo2⟩;clear hT6 hb1' hb2;have hAo:=qa ho;refine wp_region_held_drew (S:=Tk3 w b1 A b2 (wayA ga gm)) (by kernel_rfl) hS (fun hHeld=>?_);clear hS;refine C.ty 0 (.agg A) rfl (qqz hz (by rfl) _ rfl b1 rfl (fun _ h=>xr h.p)) hHeld ?_;refine C.ty 1 (.agg (wayA ga gm)) rfl (Or.inl ⟨by rfl,fun w' hw=>(by have c0:=hw.c0;have c1:=hw.c1;go_simp;rfl)⟩) hHeld ?_;refine C.rd 2 fun K hK=>?_
    rw [if_pos (by rfl)];obtain ⟨R1,r1,r2⟩:=hHeld.ps;refine wp_store_row 25 _ _ rfl w.heap.size A rfl rfl 25 R1 r2 (by rw [hz];exact infoP) (by rw [hz,r1]) hAo ?_;refine hK.out _ _ (hHeld.putP A hz) (fun hHeld=>?_);clear hK K
    try simp only [C.py]
    refine C.rd 3 fun K hK=>?_
    rw [if_pos (by rfl)];obtain ⟨R3,r5,r6⟩:=hHeld.mv;refine wp_store_row 84 _ _ rfl (w.heap.size+1) (wayA ga gm) rfl rfl 84 R3 r6 infoW (by rw [r5];rfl) (ju _ _) ?_;have hp9:_:=setRow_heap _ _ _ A _ _ r2;refine hK.out _ _ (hHeld.putM (wayA ga gm) rfl) (fun hHeld=>?_);clear hK K
    try simp only [C.py]
    refine C.rd 4 fun K hK=>?_
    go_simp;refine hK.out _ _ hHeld (fun hHeld=>?_);clear hK K
    try simp only [C.py]
    refine wpAnyH_done (by kernel_rfl) ?_ _;have hgf:=hide hHeld.gr;go_wp2_with fail;exact bodyPost_ret (v:=.tuple #[.agg A,.agg (wayA ga gm),.int .i64 0]) (jw Tryz.results61 _ _ w.heap.size (w.heap.size+1) 25 84 _ _ (0,0) (0,0) _ _ rfl (by rw [setRow_other _ _ _ _ (by omega)];exact hp9) Tryz.underlying25 rfl (by rw [hz];exact infoP) rfl (setRow_heap _ _ _ _ _ _ r6) Tryz.underlying84 rfl infoW) rfl ⟨qa hend,qa hgf⟩
   ·have hof:ofV n=.tuple #[.agg nilW,.bool false]:=by unfold ofV;rw [if_neg (fun h=>hn (.inl h)),if_neg (fun h=>hn (.inr h))]
    have hofc:Hid (∀ W,Calls Tryz.prog 44 #[.int .i64 n] W fun e w'=>e=.returned (.tuple #[.agg nilW,.bool false])/\Gr W w'):=hide fun W=>by rw [<-hof];exact of_any n W
    have hend:=hide (qa hend3 hd hn);clear hend5 hend3 hend0 hof hn hd q1 q2
    go_upto_region 7 with (first
     | (go_at_call 44;refine (qa hofc _).mono ?_;rintro e w5 ⟨rfl,hg5⟩)
     | (refine wpList_store_row rfl 84 _ _ rfl w5.heap.size nilW rfl rfl 84 nilW (heap_alloc_new _ _) infoW rfl jg ?_))
    have hT6:=(hT4.next hg5).next (((Gr.refl w5).alloc nilW 84).setRow w5.heap.size (Nat.le_refl _) nilW);show Code.wp _ _ _ _ ((w5.alloc (.cells nilW 84)).setRow w5.heap.size nilW);generalize (w5.alloc (.cells nilW 84)).setRow w5.heap.size nilW=w6 at hT6 ⊢;have hps:=hide hT6.ps;have hmv:=hide (hT6.second Tryz.zeroCells25);have hout:=hide (hT6.out Tryz.zeroCells25 nilW);clear hT4 hT6 hb1 hlb hg5 hofc
    go_wp2_with (first
     | (refine wpList_store_row rfl 25 _ _ rfl w.heap.size Tryz.zeroCells25 rfl rfl 25 Tryz.zeroCells25 (qa hps) (by rw [zeroP];exact infoP) rfl zeroP_ones ?_)
     | (refine wpList_store_row rfl 84 _ _ rfl (w.heap.size+1) nilW rfl rfl 84 nilW (qa hmv) infoW rfl jg ?_))
    exact bodyPost_ret (v:=.tuple #[.agg Tryz.zeroCells25,.agg nilW,.int .i64 3]) (jw Tryz.results61 _ _ w.heap.size (w.heap.size+1) 25 84 _ _ (0,0) (0,0) _ _ rfl (qa hout).1 Tryz.underlying25 rfl (by rw [zeroP];exact infoP) rfl (qa hout).2.1 Tryz.underlying84 rfl infoW) rfl ⟨qa hend,(qa hout).2.2⟩
  ·have hend:=hide (qa hend5 hd);have hps:=hide hT4.ps;have hmv:=hide (hT4.second Tryz.zeroCells25);have hout:=hide (hT4.out Tryz.zeroCells25 nilW);clear hend5 hend3 hend0 hT4 hb1 hlb;by_cases q1:d<lo
   ·clear hd
    go_wp2_with (first
     | (refine wpList_store_row rfl 25 _ _ rfl w.heap.size Tryz.zeroCells25 rfl rfl 25 Tryz.zeroCells25 (qa hps) (by rw [zeroP];exact infoP) rfl zeroP_ones ?_)
     | (refine wpList_store_row rfl 84 _ _ rfl (w.heap.size+1) nilW rfl rfl 84 nilW (qa hmv) infoW rfl jg ?_))
    exact bodyPost_ret (v:=.tuple #[.agg Tryz.zeroCells25,.agg nilW,.int .i64 5]) (jw Tryz.results61 _ _ w.heap.size (w.heap.size+1) 25 84 _ _ (0,0) (0,0) _ _ rfl (qa hout).1 Tryz.underlying25 rfl (by rw [zeroP];exact infoP) rfl (qa hout).2.1 Tryz.underlying84 rfl infoW) rfl ⟨qa hend,(qa hout).2.2⟩
   ·have q2:3<d:=by omega
    clear hd
    go_wp2_with (first
     | (refine wpList_store_row rfl 25 _ _ rfl w.heap.size Tryz.zeroCells25 rfl rfl 25 Tryz.zeroCells25 (qa hps) (by rw [zeroP];exact infoP) rfl zeroP_ones ?_)
     | (refine wpList_store_row rfl 84 _ _ rfl (w.heap.size+1) nilW rfl rfl 84 nilW (qa hmv) infoW rfl jg ?_))
    exact bodyPost_ret (v:=.tuple #[.agg Tryz.zeroCells25,.agg nilW,.int .i64 5]) (jw Tryz.results61 _ _ w.heap.size (w.heap.size+1) 25 84 _ _ (0,0) (0,0) _ _ rfl (qa hout).1 Tryz.underlying25 rfl (by rw [zeroP];exact infoP) rfl (qa hout).2.1 Tryz.underlying84 rfl infoW) rfl ⟨qa hend,(qa hout).2.2⟩
 ·have h2:Hid (∀ W,Gr w W->Calls Tryz.prog 12 #[.string s] W fun e w'=>e=.returned (.tuple #[.agg Tryz.zeroCells25,.int .i64 k])/\Gr W w'):=hide (fun W g=>(qa h1 W g).mono fun e w' h=>⟨hone e h.1,h.2⟩);have hend:Hid (TocEnd s d lo n (.returned (.tuple #[.agg Tryz.zeroCells25,.agg nilW,.int .i64 k]))):=hide (.inl ⟨k,hk,hbad,rfl⟩);have k2:(k != 0)=true:=by rw [bne_iff_ne];exact hk
  clear h1 hone hbad hc hs hk;go_enter Tryz.func61,Tryz.ntmps61;go_upto_region 1 with fail;show Code.wp _ _ _ _ ((w.alloc (.cells Tryz.zeroCells25 25)).alloc (.cells nilW 84));generalize ((w.alloc (.cells Tryz.zeroCells25 25)).alloc (.cells nilW 84))=w0 at hT0 ⊢;have hg0:=hT0.gr
  go_upto_region 2 with (first
   | (go_at_call 12;refine (qa h2 _ hg0).mono ?_;rintro e w3 ⟨rfl,hg3⟩)
   | (refine wpList_store_row rfl 25 _ _ rfl w3.heap.size Tryz.zeroCells25 rfl rfl 25 _ (heap_alloc_new _ _) (by rw [zeroP];exact infoP) rfl zeroP_ones ?_))
  have hT4:=hT0.next (Gr.trans hg3 (((Gr.refl w3).alloc Tryz.zeroCells25 25).setRow w3.heap.size (Nat.le_refl _) Tryz.zeroCells25));generalize (w3.alloc (.cells Tryz.zeroCells25 25)).setRow w3.heap.size Tryz.zeroCells25=w4 at hT4 ⊢;have hps:=hide hT4.ps;have hmv:=hide (hT4.second Tryz.zeroCells25);have hout:=hide (hT4.out Tryz.zeroCells25 nilW);clear hT4 hT0 hg0 hg3 h2
  go_wp2_with (first
   | (refine wpList_store_row rfl 25 _ _ rfl w.heap.size Tryz.zeroCells25 rfl rfl 25 Tryz.zeroCells25 (qa hps) (by rw [zeroP];exact infoP) rfl zeroP_ones ?_)
   | (refine wpList_store_row rfl 84 _ _ rfl (w.heap.size+1) nilW rfl rfl 84 nilW (qa hmv) infoW rfl jg ?_))
  exact bodyPost_ret (v:=.tuple #[.agg Tryz.zeroCells25,.agg nilW,.int .i64 k]) (jw Tryz.results61 _ _ w.heap.size (w.heap.size+1) 25 84 _ _ (0,0) (0,0) _ _ rfl (qa hout).1 Tryz.underlying25 rfl (by rw [zeroP];exact infoP) rfl (qa hout).2.1 Tryz.underlying84 rfl infoW) rfl ⟨qa hend,(qa hout).2.2⟩
theorem infoSl:(Tryz.prog.info? 291).map (fun i=>(i.zero,i.size,i.bytes))=some (some (.agg Tryz.zeroCells291),75,120):=by kernel_rfl
theorem infoMm:(Tryz.prog.info? 122).map (·.size)=some 1:=by kernel_rfl
theorem newM_any (n:Nat) (hn:n<=4096) (w:World):Calls Tryz.prog 60 #[.int .i64 (n:Int)] w fun e w'=>e=.returned (.agg #[svN (w.heap.size+1) n])/\w'.ownsRow w.heap.size 291 75 (svN (w.heap.size+1) n) n (madeCells Tryz.zeroCells291 (n*75)).toList/\Gr w w':=by
 obtain ⟨i0,hi,hz0,hz1,hz2⟩:=info_parts infoSl;have hi':=hide hi;have hb2:i0.bytes*n<=281474976710656:=by rw [hz2];omega
 clear hi;have y1:=heap_alloc_new w (.cells #[.slice none 0 0] 122);have hg0:Gr w (w.alloc (.cells #[.slice none 0 0] 122)):=(Gr.refl w).alloc _ _;have hs0:(w.alloc (.cells #[.slice none 0 0] 122)).heap.size=w.heap.size+1:=World.size_alloc _ _;go_enter Tryz.func60,Tryz.ntmps60;go_upto_region 1 with fail;generalize w.alloc (.cells #[.slice none 0 0] 122)=w0 at y1 hg0 hs0 ⊢;go_wp2_with (at_make;refine wpList_make_full _ rfl _ _ 120 rfl w.heap.size 291 i0 (.agg Tryz.zeroCells291) 75 Tryz.underlying120 (qa hi') hz0 hz1 _ _ _ _ n rfl rfl rfl rfl hb2 (by unfold maxLen;omega) (by omega) ?_;intro w1 hown hgrow;rw [hs0] at hown;rw [hs0];have hbx:w1.heap[w.heap.size]?=some (.cells #[.slice none 0 0] 122):=by { rw [hgrow.block w.heap.size (by omega) (by simp)];exact y1 };have c1:=(qe hbx).1;have f1:=(qe hbx).2);refine bodyPost_ret (v:=.agg #[svN (w.heap.size+1) n]) (results_cell_row Tryz.results60 _ _ w.heap.size 122 #[svN (w.heap.size+1) n] (0,0) _ rfl (jl hbx) Tryz.underlying122 rfl infoMm) rfl ⟨rfl,?_,?_⟩
 ·refine ⟨hown.1,?_⟩;rcases hown.2 with ⟨e,_⟩|⟨g,cap,cur,hv,hb,hg,rest⟩
  ·cases e
  ·refine .inr ⟨g,cap,cur,hv,hb,?_,rest⟩
   have:w.heap.size+1=g:=by
    injection hv with hv _ _;injection hv with hv;injection hv
   rw [Below.heap_setCell _ _ _ _ (by simp;omega)];exact hg
 ·exact Below.setCell (Gr.trans hg0 (Below.grown (Gr.refl w0) hgrow (Nat.le_refl _) (fun k h=>by cases h))) (Nat.le_refl _) _
theorem built_ctr (ga gm:Nat) (wn:Int) (g n:Nat):Tryz.prog.built 136 [(0,.agg (wayA ga gm)),(1,.int .i64 wn),(2,.agg #[svN g n])]=some (ctrA ga gm wn g n):=by kernel_rfl
theorem ctr_ones (ga gm:Nat) (wn:Int) (g n:Nat):(ctrA ga gm wn g n).all (·.oneCell')=true:=by simp [ctrA,svN,Value.oneCell']
theorem by_any (ga gm:Nat) (wn:Int) (g n:Nat) (w:World):Calls Tryz.prog 64 #[.agg (wayA ga gm),.int .i64 wn,.agg #[svN g n]] w fun e w'=>e=.returned (.agg (ctrA ga gm wn g n))/\Gr w w':=by
 obtain ⟨x1,x2,x3,x4⟩:=heapThree w (.cells (wayA ga gm) 84) (.cells #[svN g n] 122) (.cells #[.nilFunc,.nilFunc,.int .i64 0,.slice none 0 0] 136);have hg0:Gr w (((w.alloc (.cells (wayA ga gm) 84)).alloc (.cells #[svN g n] 122)).alloc (.cells #[.nilFunc,.nilFunc,.int .i64 0,.slice none 0 0] 136)):=(((Gr.refl w).alloc _ _).alloc _ _).alloc _ _;go_enter Tryz.func64,Tryz.ntmps64;go_upto_region 1 with fail;show Code.wp _ _ _ _ (((w.alloc (.cells (wayA ga gm) 84)).alloc (.cells #[svN g n] 122)).alloc (.cells #[.nilFunc,.nilFunc,.int .i64 0,.slice none 0 0] 136));generalize (((w.alloc (.cells (wayA ga gm) 84)).alloc (.cells #[svN g n] 122)).alloc (.cells #[.nilFunc,.nilFunc,.int .i64 0,.slice none 0 0] 136))=w0 at x1 x2 x3 hg0 ⊢;clear x4
 go_wp2_with (first
  | (refine wpList_load_row rfl 84 _ rfl w.heap.size rfl 84 (wayA ga gm) (0,0) _ (by with_reducible exact x1) Tryz.underlying84 rfl infoW ?_)
  | (refine wpList_load_row rfl 122 _ rfl (w.heap.size+1) rfl 122 #[svN g n] (0,0) _ (by with_reducible exact x2) Tryz.underlying122 rfl infoMm ?_)
  | (refine zb rfl 136 #[(0,.tmp 7),(1,.tmp 8),(2,.tmp 9)] rfl (ctrA ga gm wn g n) ?_ ?_;focus (first|(go_simp;exact built_ctr ga gm wn g n)|(simp;exact built_ctr ga gm wn g n)))
  | (refine wpList_store_row rfl 136 _ _ rfl (w.heap.size+2) (ctrA ga gm wn g n) rfl rfl 136 #[.nilFunc,.nilFunc,.int .i64 0,.slice none 0 0] (by with_reducible exact x3) infoCr rfl (ctr_ones _ _ _ _ _) ?_))
 exact bodyPost_ret (v:=.agg (ctrA ga gm wn g n)) (results_cell_row Tryz.results64 _ _ (w.heap.size+2) 136 _ (0,0) _ rfl (setRow_heap _ _ _ _ _ _ x3) Tryz.underlying136 rfl infoCr) rfl ⟨rfl,hg0.setRow _ (by omega) _⟩
end Go.Proofs.YtnfakamfmkhlbaaGreatDoor.C
