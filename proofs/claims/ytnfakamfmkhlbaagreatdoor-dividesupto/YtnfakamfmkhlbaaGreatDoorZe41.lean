import Derived.Test.YtnfakamfmkhlbaaGreatDoorZe38
import Derived.Test.YtnfakamfmkhlbaaGreatDoorZe35
import Derived.Test.YtnfakamfmkhlbaaGreatDoorZe40
import Derived.Test.YtnfakamfmkhlbaaGreatDoorZe37
import Derived.Test.YtnfakamfmkhlbaaGreatDoorKz2
import Derived.Test.YtnfakamfmkhlbaaGreatDoorKz3
set_option maxRecDepth 100000
set_option maxHeartbeats 4000000
set_option linter.unusedSimpArgs false
namespace Go.Proofs.YtnfakamfmkhlbaaGreatDoor.C
open Go.ChangeShapes Go.WideShapes Go.ChangeAt Go.RowKit Go.Shelf
open Go.Proofs.YtnfakamfmkhlbaaGreatDoor.P
attribute [local go_sem] qd qi Oper.semAt_some
def TocEnd (s:ByteArray) (d lo n:Int) (e:Ending):Prop :=
 (∃ k,k≠0/\BadK s k/\e=.returned (.tuple #[.agg Tryz.zeroCells25,.agg nilW,.int .i64 k])) ∨
 (∃ p,readS s=some p/\posCan p=true/\¬ (lo<=d/\d<=3)/\e=.returned (.tuple #[.agg Tryz.zeroCells25,.agg nilW,.int .i64 5])) ∨
 (∃ p,readS s=some p/\posCan p=true/\(lo<=d/\d<=3)/\¬ (n=1\/n=2)/\e=.returned (.tuple #[.agg Tryz.zeroCells25,.agg nilW,.int .i64 3])) ∨
 (∃ p ga gm gi,readS s=some p/\posCan p=true/\(lo<=d/\d<=3)/\WayN n ga gm gi/\e=.returned (.tuple #[.agg (posV p),.agg (wayA ga gm),.int .i64 0]))
structure Tk (w W:World):Prop where
 ps:W.heap[w.heap.size]?=some (.cells Tryz.zeroCells25 25)
 mv:W.heap[w.heap.size+1]?=some (.cells nilW 84)
 lt:w.heap.size+1<W.heap.size
 gr:Gr w W
theorem Tk.next {w W W':World} (h:Tk w W) (g:Gr W W'):Tk w W' :=
 ⟨(Below.block g _ (Nat.lt_of_succ_lt h.lt)).trans h.ps,(Below.block g _ h.lt).trans h.mv,Nat.lt_of_lt_of_le h.lt (Below.size g),Gr.trans h.gr g⟩
theorem Tk.start (w:World):Tk w ((w.alloc (.cells Tryz.zeroCells25 25)).alloc (.cells nilW 84)):=by
 obtain ⟨e1,e2⟩:=heapTwo w (.cells Tryz.zeroCells25 25) (.cells nilW 84);exact ⟨e1,e2,by rw [World.size_alloc,World.size_alloc];omega,((Gr.refl w).alloc _ _).alloc _ _⟩
theorem Tk.out {w W:World} (h:Tk w W) (A M:Array Value):((W.setRow w.heap.size A).setRow (w.heap.size+1) M).heap[w.heap.size]?=some (.cells A 25)/\((W.setRow w.heap.size A).setRow (w.heap.size+1) M).heap[w.heap.size+1]?=some (.cells M 84)/\Gr w ((W.setRow w.heap.size A).setRow (w.heap.size+1) M) :=
 ⟨by rw [setRow_other _ _ _ _ (by omega)];exact setRow_heap _ _ _ _ _ _ h.ps,setRow_heap _ _ _ _ _ _ (by rw [setRow_other _ _ _ _ (by omega)];exact h.mv),(h.gr.setRow _ (Nat.le_refl _) _).setRow _ (by omega) _⟩
theorem Tk.second {w W:World} (h:Tk w W) (A:Array Value):(W.setRow w.heap.size A).heap[w.heap.size+1]?=some (.cells nilW 84):=by rw [setRow_other _ _ _ _ (by omega)];exact h.mv
structure Tk3 (w:World) (b1:Nat) (A:Array Value) (b2:Nat) (M:Array Value) (W:World):Prop where
 ps:∃ R,R.size=72/\W.heap[w.heap.size]?=some (.cells R 25)
 mv:∃ R,R.size=2/\W.heap[w.heap.size+1]?=some (.cells R 84)
 gr:Gr w W
 p:W.heap[b1]?=some (.cells A 25)
 m:W.heap[b2]?=some (.cells M 84)
 h1:w.heap.size+1<b1
 h2:w.heap.size+1<b2
theorem Tk3.putP {w W:World} {b1 b2:Nat} {A M:Array Value} (h:Tk3 w b1 A b2 M W) (X:Array Value) (hX:X.size=72):Tk3 w b1 A b2 M (W.setRow w.heap.size X):=by
 obtain ⟨R,r1,r2⟩:=h.ps;obtain ⟨R',r3,r4⟩:=h.mv;have:=h.h1;have:=h.h2;exact ⟨⟨X,hX,setRow_heap _ _ _ _ _ _ r2⟩,⟨R',r3,by rw [setRow_other _ _ _ _ (by omega)];exact r4⟩,h.gr.setRow _ (Nat.le_refl _) _,by rw [setRow_other _ _ _ _ (by omega)];exact h.p,by rw [setRow_other _ _ _ _ (by omega)];exact h.m,h.h1,h.h2⟩
theorem Tk3.putM {w W:World} {b1 b2:Nat} {A M:Array Value} (h:Tk3 w b1 A b2 M W) (X:Array Value) (hX:X.size=2):Tk3 w b1 A b2 M (W.setRow (w.heap.size+1) X):=by
 obtain ⟨R,r1,r2⟩:=h.ps;obtain ⟨R',r3,r4⟩:=h.mv;have:=h.h1;have:=h.h2;exact ⟨⟨R,r1,by rw [setRow_other _ _ _ _ (by omega)];exact r2⟩,⟨X,hX,setRow_heap _ _ _ _ _ _ r4⟩,h.gr.setRow _ (by omega) _,by rw [setRow_other _ _ _ _ (by omega)];exact h.p,by rw [setRow_other _ _ _ _ (by omega)];exact h.m,h.h1,h.h2⟩
theorem Tk3.c0 {w W:World} {b1 b2 ga gm:Nat} {A:Array Value} (h:Tk3 w b1 A b2 (wayA ga gm) W):W.cell? ⟨b2,0,none⟩=some (.func (.func ga) #[] #[]):=by rw [cell_of_row _ _ _ _ _ _ h.m];rfl
theorem Tk3.c1 {w W:World} {b1 b2 ga gm:Nat} {A:Array Value} (h:Tk3 w b1 A b2 (wayA ga gm) W):W.cell? ⟨b2,1,none⟩=some (.func (.func gm) #[] #[]):=by rw [cell_of_row _ _ _ _ _ _ h.m];rfl
theorem toCount_any (s:ByteArray) (hs:s.size<4294967281) (d lo n:Int) (m:Int) (w:World) (hc:Ct m w):Calls Tryz.prog 61 #[.string s,.int .i64 d,.int .i64 lo,.int .i64 n] w fun e w'=>TocEnd s d lo n e/\Gr w w':=by
 have hT0:=Tk.start w;have h1:Hid (∀ W,Gr w W->Calls Tryz.prog 12 #[.string s] W fun e w'=>ParseEnd s e/\Gr W w'):=hide (fun W g=>qjp s hs m W (hc.gr g).mx (hc.gr g).ml (hc.gr g).tab (hc.gr g).homes);rcases xo s with ⟨p,hr,hcan,hone⟩|⟨k,hk,hbad,hone⟩
 ·have h2:Hid (∀ W,Gr w W->Calls Tryz.prog 12 #[.string s] W fun e w'=>e=.returned (.tuple #[.agg (posV p),.int .i64 0])/\Gr W w'):=hide (fun W g=>(qa h1 W g).mono fun e w' h=>⟨hone e h.1,h.2⟩);have hrow:=jn hr;have hz:=hrow.size;have ho:=hide (qz hrow);have hend5:Hid (¬ (lo<=d/\d<=3)->TocEnd s d lo n (.returned (.tuple #[.agg Tryz.zeroCells25,.agg nilW,.int .i64 5]))):=hide (fun e=>.inr (.inl ⟨p,hr,hcan,e,rfl⟩));have hend3:Hid ((lo<=d/\d<=3)->¬ (n=1\/n=2)->TocEnd s d lo n (.returned (.tuple #[.agg Tryz.zeroCells25,.agg nilW,.int .i64 3]))):=hide (fun e q=>.inr (.inr (.inl ⟨p,hr,hcan,e,q,rfl⟩)));have hend0:Hid (∀ ga gm gi,(lo<=d/\d<=3)->WayN n ga gm gi->TocEnd s d lo n (.returned (.tuple #[.agg (posV p),.agg (wayA ga gm),.int .i64 0]))):=hide (fun ga gm gi e q=>.inr (.inr (.inr ⟨p,ga,gm,gi,hr,hcan,e,q,rfl⟩)));generalize posV p=A at h2 hz ho hend0;clear h1 hone hc hs hrow hr hcan;go_enter Tryz.func61,Tryz.ntmps61;go_upto_region 1 with fail;show Code.wp _ _ _ _ ((w.alloc (.cells Tryz.zeroCells25 25)).alloc (.cells nilW 84));generalize ((w.alloc (.cells Tryz.zeroCells25 25)).alloc (.cells nilW 84))=w0 at hT0 ⊢;have hg0:=hT0.gr
  go_upto_region 4 with (first
   | (go_at_call 12;refine (qa h2 _ hg0).mono ?_;rintro e w3 ⟨rfl,hg3⟩)
   | (refine wpList_store_row rfl 25 _ _ rfl w3.heap.size A rfl rfl 25 _ (heap_alloc_new _ _) (by rw [hz];exact infoP) (by rw [hz];exact zeroP.symm) (qa ho) ?_))
  have hg4:Gr w3 ((w3.alloc (.cells Tryz.zeroCells25 25)).setRow w3.heap.size A):=((Gr.refl w3).alloc Tryz.zeroCells25 25).setRow w3.heap.size (Nat.le_refl _) A;have hT4:=hT0.next (Gr.trans hg3 hg4);have hb1:((w3.alloc (.cells Tryz.zeroCells25 25)).setRow w3.heap.size A).heap[w3.heap.size]?=some (.cells A 25):=setRow_heap _ _ _ _ _ _ (heap_alloc_new w3 _);have hlb:w3.heap.size<((w3.alloc (.cells Tryz.zeroCells25 25)).setRow w3.heap.size A).heap.size:=by rw [size_setRow,World.size_alloc];omega
  show Code.wp _ _ _ _ ((w3.alloc (.cells Tryz.zeroCells25 25)).setRow w3.heap.size A);generalize (w3.alloc (.cells Tryz.zeroCells25 25)).setRow w3.heap.size A=w4 at hT4 hb1 hlb ⊢;have hlo1:w.heap.size+1<w3.heap.size:=Nat.lt_of_lt_of_le hT0.lt (Below.size hg3);generalize w3.heap.size=b1 at hb1 hlb hlo1 ⊢;clear hT0 hg0 hg3 hg4 h2;by_cases hd:lo<=d/\d<=3
  ·have q1:¬ d<lo:=by omega
   have q2:¬ 3<d:=by omega
   go_upto_region 6 with fail;by_cases hn:n=1\/n=2
   ·obtain ⟨ga,gm,gi,hway,hof⟩:∃ ga gm gi,WayN n ga gm gi/\ofV n=.tuple #[.agg (wayA ga gm),.bool true]:=by
     rcases hn with rfl|rfl
     ·exact ⟨_,_,_,⟨.inl ⟨rfl,rfl,rfl,rfl⟩⟩,rfl⟩
     ·exact ⟨_,_,_,⟨.inr ⟨rfl,rfl,rfl,rfl⟩⟩,rfl⟩
    have hofc:Hid (∀ W,Calls Tryz.prog 44 #[.int .i64 n] W fun e w'=>e=.returned (.tuple #[.agg (wayA ga gm),.bool true])/\Gr W w'):=hide fun W=>by rw [<-hof];exact of_any n W
    have hend:=hide (qa hend0 ga gm gi hd hway);clear hend5 hend3 hend0 hof hn hway hd q1 q2
    go_upto_region 7 with (first
     | (go_at_call 44;refine (qa hofc _).mono ?_;rintro e w5 ⟨rfl,hg5⟩)
     | (refine wpList_store_row rfl 84 _ _ rfl w5.heap.size (wayA ga gm) rfl rfl 84 nilW (heap_alloc_new _ _) infoW rfl (ju _ _) ?_))
    have hg6:Gr w5 ((w5.alloc (.cells nilW 84)).setRow w5.heap.size (wayA ga gm)):=((Gr.refl w5).alloc nilW 84).setRow w5.heap.size (Nat.le_refl _) (wayA ga gm);have hT6:=(hT4.next hg5).next hg6;have hb1':=(Below.block (Gr.trans hg5 hg6) _ hlb).trans hb1;have hb2:((w5.alloc (.cells nilW 84)).setRow w5.heap.size (wayA ga gm)).heap[w5.heap.size]?=some (.cells (wayA ga gm) 84):=setRow_heap _ _ _ _ _ _ (heap_alloc_new w5 _);show Code.wp _ _ _ _ ((w5.alloc (.cells nilW 84)).setRow w5.heap.size (wayA ga gm));generalize (w5.alloc (.cells nilW 84)).setRow w5.heap.size (wayA ga gm)=w6 at hT6 hb1' hb2 ⊢;have hlo2:w.heap.size+1<w5.heap.size:=Nat.lt_of_lt_of_le hT4.lt (Below.size hg5);generalize w5.heap.size=b2 at hb2 hlo2 ⊢;clear hT4 hb1 hlb hg5 hg6 hofc;go_upto_region 9 with fail;have hS:Tk3 w b1 A b2 (wayA ga gm) w6.drew:=⟨⟨_,zeroP,hT6.ps⟩,⟨_,rfl,hT6.mv⟩,hT6.gr.drew,hb1',hb2,hlo1,hlo2⟩;clear hT6 hb1' hb2;have hAo:=qa ho;refine wp_region_held_drew (S:=Tk3 w b1 A b2 (wayA ga gm)) (by kernel_rfl) hS (fun hHeld=>?_);clear hS;refine C.ty 0 (.agg A) rfl (qqz hz (by rfl) _ rfl b1 rfl (fun _ h=>xr h.p)) hHeld ?_;refine C.ty 1 (.agg (wayA ga gm)) rfl (Or.inl ⟨by rfl,fun w' hw=>(by have c0:=hw.c0;have c1:=hw.c1;go_simp;rfl)⟩) hHeld ?_;refine C.rd 2 fun K hK=>?_
    rw [if_pos (by rfl)];obtain ⟨R1,r1,r2⟩:=hHeld.ps;refine wp_store_row 25 _ _ rfl w.heap.size A rfl rfl 25 R1 r2 (by rw [hz];exact infoP) (by rw [hz,r1]) hAo ?_;refine hK.out _ _ (hHeld.putP A hz) (fun hHeld=>?_);clear hK K
    try simp only [C.py]
    refine C.rd 3 fun K hK=>?_
    rw [if_pos (by rfl)];obtain ⟨R3,r5,r6⟩:=hHeld.mv;refine wp_store_row 84 _ _ rfl (w.heap.size+1) (wayA ga gm) rfl rfl 84 R3 r6 infoW (by rw [r5];rfl) (ju _ _) ?_;have hp9:_:=setRow_heap _ _ _ A _ _ r2;refine hK.out _ _ (hHeld.putM (wayA ga gm) rfl) (fun hHeld=>?_);clear hK K
    try simp only [C.py]
    refine C.rd 4 fun K hK=>?_
    go_simp;refine hK.out _ _ hHeld (fun hHeld=>?_);clear hK K
    try simp only [C.py]
    refine wpAnyH_done (by kernel_rfl) ?_ _;have hgf:=hide hHeld.gr;go_wp2_with fail;exact bodyPost_ret (v:=.tuple #[.agg A,.agg (wayA ga gm),.int .i64 0]) (jw Tryz.results61 _ _ w.heap.size (w.heap.size+1) 25 84 _ _ (0,0) (0,0) _ _ rfl (by rw [setRow_other _ _ _ _ (by omega)];exact hp9) Tryz.underlying25 rfl (by rw [hz];exact infoP) rfl (setRow_heap _ _ _ _ _ _ r6) Tryz.underlying84 rfl infoW) rfl ⟨qa hend,qa hgf⟩
   ·have hof:ofV n=.tuple #[.agg nilW,.bool false]:=by unfold ofV;rw [if_neg (fun h=>hn (.inl h)),if_neg (fun h=>hn (.inr h))]
    have hofc:Hid (∀ W,Calls Tryz.prog 44 #[.int .i64 n] W fun e w'=>e=.returned (.tuple #[.agg nilW,.bool false])/\Gr W w'):=hide fun W=>by rw [<-hof];exact of_any n W
    have hend:=hide (qa hend3 hd hn);clear hend5 hend3 hend0 hof hn hd q1 q2
    go_upto_region 7 with (first
     | (go_at_call 44;refine (qa hofc _).mono ?_;rintro e w5 ⟨rfl,hg5⟩)
     | (refine wpList_store_row rfl 84 _ _ rfl w5.heap.size nilW rfl rfl 84 nilW (heap_alloc_new _ _) infoW rfl jg ?_))
    have hT6:=(hT4.next hg5).next (((Gr.refl w5).alloc nilW 84).setRow w5.heap.size (Nat.le_refl _) nilW);show Code.wp _ _ _ _ ((w5.alloc (.cells nilW 84)).setRow w5.heap.size nilW);generalize (w5.alloc (.cells nilW 84)).setRow w5.heap.size nilW=w6 at hT6 ⊢;have hps:=hide hT6.ps;have hmv:=hide (hT6.second Tryz.zeroCells25);have hout:=hide (hT6.out Tryz.zeroCells25 nilW);clear hT4 hT6 hb1 hlb hg5 hofc
    go_wp2_with (first
     | (refine wpList_store_row rfl 25 _ _ rfl w.heap.size Tryz.zeroCells25 rfl rfl 25 Tryz.zeroCells25 (qa hps) (by rw [zeroP];exact infoP) rfl zeroP_ones ?_)
     | (refine wpList_store_row rfl 84 _ _ rfl (w.heap.size+1) nilW rfl rfl 84 nilW (qa hmv) infoW rfl jg ?_))
    exact bodyPost_ret (v:=.tuple #[.agg Tryz.zeroCells25,.agg nilW,.int .i64 3]) (jw Tryz.results61 _ _ w.heap.size (w.heap.size+1) 25 84 _ _ (0,0) (0,0) _ _ rfl (qa hout).1 Tryz.underlying25 rfl (by rw [zeroP];exact infoP) rfl (qa hout).2.1 Tryz.underlying84 rfl infoW) rfl ⟨qa hend,(qa hout).2.2⟩
  ·have hend:=hide (qa hend5 hd);have hps:=hide hT4.ps;have hmv:=hide (hT4.second Tryz.zeroCells25);have hout:=hide (hT4.out Tryz.zeroCells25 nilW);clear hend5 hend3 hend0 hT4 hb1 hlb;by_cases q1:d<lo
   ·clear hd
    go_wp2_with (first
     | (refine wpList_store_row rfl 25 _ _ rfl w.heap.size Tryz.zeroCells25 rfl rfl 25 Tryz.zeroCells25 (qa hps) (by rw [zeroP];exact infoP) rfl zeroP_ones ?_)
     | (refine wpList_store_row rfl 84 _ _ rfl (w.heap.size+1) nilW rfl rfl 84 nilW (qa hmv) infoW rfl jg ?_))
    exact bodyPost_ret (v:=.tuple #[.agg Tryz.zeroCells25,.agg nilW,.int .i64 5]) (jw Tryz.results61 _ _ w.heap.size (w.heap.size+1) 25 84 _ _ (0,0) (0,0) _ _ rfl (qa hout).1 Tryz.underlying25 rfl (by rw [zeroP];exact infoP) rfl (qa hout).2.1 Tryz.underlying84 rfl infoW) rfl ⟨qa hend,(qa hout).2.2⟩
   ·have q2:3<d:=by omega
    clear hd
    go_wp2_with (first
     | (refine wpList_store_row rfl 25 _ _ rfl w.heap.size Tryz.zeroCells25 rfl rfl 25 Tryz.zeroCells25 (qa hps) (by rw [zeroP];exact infoP) rfl zeroP_ones ?_)
     | (refine wpList_store_row rfl 84 _ _ rfl (w.heap.size+1) nilW rfl rfl 84 nilW (qa hmv) infoW rfl jg ?_))
    exact bodyPost_ret (v:=.tuple #[.agg Tryz.zeroCells25,.agg nilW,.int .i64 5]) (jw Tryz.results61 _ _ w.heap.size (w.heap.size+1) 25 84 _ _ (0,0) (0,0) _ _ rfl (qa hout).1 Tryz.underlying25 rfl (by rw [zeroP];exact infoP) rfl (qa hout).2.1 Tryz.underlying84 rfl infoW) rfl ⟨qa hend,(qa hout).2.2⟩
 ·have h2:Hid (∀ W,Gr w W->Calls Tryz.prog 12 #[.string s] W fun e w'=>e=.returned (.tuple #[.agg Tryz.zeroCells25,.int .i64 k])/\Gr W w'):=hide (fun W g=>(qa h1 W g).mono fun e w' h=>⟨hone e h.1,h.2⟩);have hend:Hid (TocEnd s d lo n (.returned (.tuple #[.agg Tryz.zeroCells25,.agg nilW,.int .i64 k]))):=hide (.inl ⟨k,hk,hbad,rfl⟩);have k2:(k != 0)=true:=by rw [bne_iff_ne];exact hk
  clear h1 hone hbad hc hs hk;go_enter Tryz.func61,Tryz.ntmps61;go_upto_region 1 with fail;show Code.wp _ _ _ _ ((w.alloc (.cells Tryz.zeroCells25 25)).alloc (.cells nilW 84));generalize ((w.alloc (.cells Tryz.zeroCells25 25)).alloc (.cells nilW 84))=w0 at hT0 ⊢;have hg0:=hT0.gr
  go_upto_region 2 with (first
   | (go_at_call 12;refine (qa h2 _ hg0).mono ?_;rintro e w3 ⟨rfl,hg3⟩)
   | (refine wpList_store_row rfl 25 _ _ rfl w3.heap.size Tryz.zeroCells25 rfl rfl 25 _ (heap_alloc_new _ _) (by rw [zeroP];exact infoP) rfl zeroP_ones ?_))
  have hT4:=hT0.next (Gr.trans hg3 (((Gr.refl w3).alloc Tryz.zeroCells25 25).setRow w3.heap.size (Nat.le_refl _) Tryz.zeroCells25));generalize (w3.alloc (.cells Tryz.zeroCells25 25)).setRow w3.heap.size Tryz.zeroCells25=w4 at hT4 ⊢;have hps:=hide hT4.ps;have hmv:=hide (hT4.second Tryz.zeroCells25);have hout:=hide (hT4.out Tryz.zeroCells25 nilW);clear hT4 hT0 hg0 hg3 h2
  go_wp2_with (first
   | (refine wpList_store_row rfl 25 _ _ rfl w.heap.size Tryz.zeroCells25 rfl rfl 25 Tryz.zeroCells25 (qa hps) (by rw [zeroP];exact infoP) rfl zeroP_ones ?_)
   | (refine wpList_store_row rfl 84 _ _ rfl (w.heap.size+1) nilW rfl rfl 84 nilW (qa hmv) infoW rfl jg ?_))
  exact bodyPost_ret (v:=.tuple #[.agg Tryz.zeroCells25,.agg nilW,.int .i64 k]) (jw Tryz.results61 _ _ w.heap.size (w.heap.size+1) 25 84 _ _ (0,0) (0,0) _ _ rfl (qa hout).1 Tryz.underlying25 rfl (by rw [zeroP];exact infoP) rfl (qa hout).2.1 Tryz.underlying84 rfl infoW) rfl ⟨qa hend,(qa hout).2.2⟩
theorem infoSl:(Tryz.prog.info? 291).map (fun i=>(i.zero,i.size,i.bytes))=some (some (.agg Tryz.zeroCells291),75,120):=by kernel_rfl
theorem infoMm:(Tryz.prog.info? 122).map (·.size)=some 1:=by kernel_rfl
theorem newM_any (n:Nat) (hn:n<=4096) (w:World):Calls Tryz.prog 60 #[.int .i64 (n:Int)] w fun e w'=>e=.returned (.agg #[svN (w.heap.size+1) n])/\w'.ownsRow w.heap.size 291 75 (svN (w.heap.size+1) n) n (madeCells Tryz.zeroCells291 (n*75)).toList/\Gr w w':=by
 obtain ⟨i0,hi,hz0,hz1,hz2⟩:=info_parts infoSl;have hi':=hide hi;have hb2:i0.bytes*n<=281474976710656:=by rw [hz2];omega
 clear hi;have y1:=heap_alloc_new w (.cells #[.slice none 0 0] 122);have hg0:Gr w (w.alloc (.cells #[.slice none 0 0] 122)):=(Gr.refl w).alloc _ _;have hs0:(w.alloc (.cells #[.slice none 0 0] 122)).heap.size=w.heap.size+1:=World.size_alloc _ _;go_enter Tryz.func60,Tryz.ntmps60;go_upto_region 1 with fail;generalize w.alloc (.cells #[.slice none 0 0] 122)=w0 at y1 hg0 hs0 ⊢;go_wp2_with (at_make;refine wpList_make_full _ rfl _ _ 120 rfl w.heap.size 291 i0 (.agg Tryz.zeroCells291) 75 Tryz.underlying120 (qa hi') hz0 hz1 _ _ _ _ n rfl rfl rfl rfl hb2 (by unfold maxLen;omega) (by omega) ?_;intro w1 hown hgrow;rw [hs0] at hown;rw [hs0];have hbx:w1.heap[w.heap.size]?=some (.cells #[.slice none 0 0] 122):=by { rw [hgrow.block w.heap.size (by omega) (by simp)];exact y1 };have c1:=(qe hbx).1;have f1:=(qe hbx).2);refine bodyPost_ret (v:=.agg #[svN (w.heap.size+1) n]) (results_cell_row Tryz.results60 _ _ w.heap.size 122 #[svN (w.heap.size+1) n] (0,0) _ rfl (jl hbx) Tryz.underlying122 rfl infoMm) rfl ⟨rfl,?_,?_⟩
 ·refine ⟨hown.1,?_⟩;rcases hown.2 with ⟨e,_⟩|⟨g,cap,cur,hv,hb,hg,rest⟩
  ·cases e
  ·refine .inr ⟨g,cap,cur,hv,hb,?_,rest⟩
   have:w.heap.size+1=g:=by
    injection hv with hv _ _;injection hv with hv;injection hv
   rw [Below.heap_setCell _ _ _ _ (by simp;omega)];exact hg
 ·exact Below.setCell (Gr.trans hg0 (Below.grown (Gr.refl w0) hgrow (Nat.le_refl _) (fun k h=>by cases h))) (Nat.le_refl _) _
theorem built_ctr (ga gm:Nat) (wn:Int) (g n:Nat):Tryz.prog.built 136 [(0,.agg (wayA ga gm)),(1,.int .i64 wn),(2,.agg #[svN g n])]=some (ctrA ga gm wn g n):=by kernel_rfl
theorem ctr_ones (ga gm:Nat) (wn:Int) (g n:Nat):(ctrA ga gm wn g n).all (·.oneCell')=true:=by simp [ctrA,svN,Value.oneCell']
theorem by_any (ga gm:Nat) (wn:Int) (g n:Nat) (w:World):Calls Tryz.prog 64 #[.agg (wayA ga gm),.int .i64 wn,.agg #[svN g n]] w fun e w'=>e=.returned (.agg (ctrA ga gm wn g n))/\Gr w w':=by
 obtain ⟨x1,x2,x3,x4⟩:=heapThree w (.cells (wayA ga gm) 84) (.cells #[svN g n] 122) (.cells #[.nilFunc,.nilFunc,.int .i64 0,.slice none 0 0] 136);have hg0:Gr w (((w.alloc (.cells (wayA ga gm) 84)).alloc (.cells #[svN g n] 122)).alloc (.cells #[.nilFunc,.nilFunc,.int .i64 0,.slice none 0 0] 136)):=(((Gr.refl w).alloc _ _).alloc _ _).alloc _ _;go_enter Tryz.func64,Tryz.ntmps64;go_upto_region 1 with fail;show Code.wp _ _ _ _ (((w.alloc (.cells (wayA ga gm) 84)).alloc (.cells #[svN g n] 122)).alloc (.cells #[.nilFunc,.nilFunc,.int .i64 0,.slice none 0 0] 136));generalize (((w.alloc (.cells (wayA ga gm) 84)).alloc (.cells #[svN g n] 122)).alloc (.cells #[.nilFunc,.nilFunc,.int .i64 0,.slice none 0 0] 136))=w0 at x1 x2 x3 hg0 ⊢;clear x4
 go_wp2_with (first
  | (refine wpList_load_row rfl 84 _ rfl w.heap.size rfl 84 (wayA ga gm) (0,0) _ (by with_reducible exact x1) Tryz.underlying84 rfl infoW ?_)
  | (refine wpList_load_row rfl 122 _ rfl (w.heap.size+1) rfl 122 #[svN g n] (0,0) _ (by with_reducible exact x2) Tryz.underlying122 rfl infoMm ?_)
  | (refine zb rfl 136 #[(0,.tmp 7),(1,.tmp 8),(2,.tmp 9)] rfl (ctrA ga gm wn g n) ?_ ?_;focus (first|(go_simp;exact built_ctr ga gm wn g n)|(simp;exact built_ctr ga gm wn g n)))
  | (refine wpList_store_row rfl 136 _ _ rfl (w.heap.size+2) (ctrA ga gm wn g n) rfl rfl 136 #[.nilFunc,.nilFunc,.int .i64 0,.slice none 0 0] (by with_reducible exact x3) infoCr rfl (ctr_ones _ _ _ _ _) ?_))
 exact bodyPost_ret (v:=.agg (ctrA ga gm wn g n)) (results_cell_row Tryz.results64 _ _ (w.heap.size+2) 136 _ (0,0) _ rfl (setRow_heap _ _ _ _ _ _ x3) Tryz.underlying136 rfl infoCr) rfl ⟨rfl,hg0.setRow _ (by omega) _⟩
def TocBad (s:ByteArray) (d lo n k:Int):Prop:=BadK s k\/(∃ p,readS s=some p/\posCan p=true/\¬ (lo<=d/\d<=3)/\k=5)\/(∃ p,readS s=some p/\posCan p=true/\(lo<=d/\d<=3)/\¬ (n=1\/n=2)/\k=3)
theorem qqc {s:ByteArray} {k:Int} {p:Pos} (h:BadK s k) (hr:readS s=some p) (hc:posCan p=true):False:=by
 rcases h with ⟨_,a⟩|⟨_,q,a,b⟩
 ·rw [hr] at a;cases a
 ·rw [hr] at a;rw [<-Option.some.inj a,hc] at b;cases b
theorem way_one {n:Int} {ga gm gi ga' gm' gi':Nat} (a:WayN n ga gm gi) (b:WayN n ga' gm' gi'):ga'=ga/\gm'=gm:=by
 rcases a.is with ⟨rfl,rfl,rfl,_⟩|⟨rfl,rfl,rfl,_⟩
 ·rcases b.is with ⟨_,rfl,rfl,_⟩|⟨h,_⟩
  ·exact ⟨rfl,rfl⟩
  ·exact absurd h (by decide)
 ·rcases b.is with ⟨h,_⟩|⟨_,rfl,rfl,_⟩
  ·exact absurd h (by decide)
  ·exact ⟨rfl,rfl⟩
theorem way_of {n:Int} (hn:n=1\/n=2):∃ ga gm gi,WayN n ga gm gi:=by
 rcases hn with rfl|rfl
 ·exact ⟨_,_,_,⟨.inl ⟨rfl,rfl,rfl,rfl⟩⟩⟩
 ·exact ⟨_,_,_,⟨.inr ⟨rfl,rfl,rfl,rfl⟩⟩⟩
theorem way_is {n:Int} {ga gm gi:Nat} (h:WayN n ga gm gi):n=1\/n=2:=by
 rcases h.is with ⟨h,_⟩|⟨h,_⟩
 ·exact .inl h
 ·exact .inr h
theorem toc_split (s:ByteArray) (d lo n:Int):(∃ k,k≠0/\TocBad s d lo n k/\∀ e,TocEnd s d lo n e->e=.returned (.tuple #[.agg Tryz.zeroCells25,.agg nilW,.int .i64 k])) ∨
  (∃ p ga gm gi,readS s=some p/\posCan p=true/\(lo<=d/\d<=3)/\WayN n ga gm gi/\∀ e,TocEnd s d lo n e->e=.returned (.tuple #[.agg (posV p),.agg (wayA ga gm),.int .i64 0])):=by
 rcases xo s with ⟨p,hr,hcan,_⟩|⟨k,hk,hbad,_⟩
 ·by_cases hd:lo<=d/\d<=3
  ·by_cases hn:n=1\/n=2
   ·obtain ⟨ga,gm,gi,hw⟩:=way_of hn;refine .inr ⟨p,ga,gm,gi,hr,hcan,hd,hw,fun e h=>?_⟩;rcases h with ⟨k,_,a,_⟩|⟨q,_,_,a,_⟩|⟨q,_,_,_,a,_⟩|⟨q,ga',gm',gi',a,_,_,b,rfl⟩
    ·exact (qqc a hr hcan).elim
    ·exact (a hd).elim
    ·exact (a hn).elim
    ·rw [hr] at a;obtain ⟨rfl,rfl⟩:=way_one hw b;rw [<-Option.some.inj a]
   ·refine .inl ⟨3,by decide,.inr (.inr ⟨p,hr,hcan,hd,hn,rfl⟩),fun e h=>?_⟩;rcases h with ⟨k,_,a,_⟩|⟨q,_,_,a,_⟩|⟨q,_,_,_,a,rfl⟩|⟨q,ga',gm',gi',a,_,_,b,_⟩
    ·exact (qqc a hr hcan).elim
    ·exact (a hd).elim
    ·rfl
    ·exact (hn (way_is b)).elim
  ·refine .inl ⟨5,by decide,.inr (.inl ⟨p,hr,hcan,hd,rfl⟩),fun e h=>?_⟩;rcases h with ⟨k,_,a,_⟩|⟨q,_,_,a,rfl⟩|⟨q,_,_,a,_,_⟩|⟨q,ga',gm',gi',_,_,a,b,_⟩
   ·exact (qqc a hr hcan).elim
   ·rfl
   ·exact (hd a).elim
   ·exact (hd a).elim
 ·refine .inl ⟨k,hk,.inl hbad,fun e h=>?_⟩;rcases h with ⟨k',_,a,rfl⟩|⟨q,a,b,_,_⟩|⟨q,a,b,_,_,_⟩|⟨q,ga',gm',gi',a,b,_,_,_⟩
  ·rw [err_one (t:=⟨#[]⟩) (.inl hbad) (.inl a)]
  ·exact (qqc hbad a b).elim
  ·exact (qqc hbad a b).elim
  ·exact (qqc hbad a b).elim
theorem bad_div {s:ByteArray} {D n k:Int} {base:Nat} {w':World} (h:TocBad s D 1 n k):DivEnd s D n base (.returned (.tuple #[nilS,.int .i64 k])) w':=by
 rcases h with h|⟨p,a,b,c,rfl⟩|⟨p,a,b,c,d,rfl⟩
 ·exact .inl ⟨k,h,rfl⟩
 ·exact .inr (.inl ⟨p,a,b,c,rfl⟩)
 ·exact .inr (.inr (.inl ⟨p,a,b,c,d,rfl⟩))
structure Dr (w:World) (b1:Nat) (A:Array Value) (b2 ga gm:Nat) (W:World):Prop where
 p:W.heap[b1]?=some (.cells A 25)
 m:W.heap[b2]?=some (.cells (wayA ga gm) 84)
 gr:Gr w W
theorem Dr.next {w:World} {b1:Nat} {A:Array Value} {b2 ga gm:Nat} {W W':World} (h:Dr w b1 A b2 ga gm W) (g:Gr W W'):Dr w b1 A b2 ga gm W':=⟨(Below.block g _ (xg h.p)).trans h.p,(Below.block g _ (xg h.m)).trans h.m,Gr.trans h.gr g⟩
theorem Dr.c0 {w:World} {b1:Nat} {A:Array Value} {b2 ga gm:Nat} {W:World} (h:Dr w b1 A b2 ga gm W):W.cell? ⟨b2,0,none⟩=some (.func (.func ga) #[] #[]):=by rw [qm h.m];rfl
theorem Dr.c1 {w:World} {b1:Nat} {A:Array Value} {b2 ga gm:Nat} {W:World} (h:Dr w b1 A b2 ga gm W):W.cell? ⟨b2,1,none⟩=some (.func (.func gm) #[] #[]):=by rw [qm h.m];rfl
theorem heap_lt' {W:World} {b:Nat} {c:Array Value} {ty:TypeId} {fr:Nat × Nat} (h:W.heap[b]?=some (.cells c ty fr)):b<W.heap.size:=(Array.getElem?_eq_some_iff.1 h).1
theorem own_ob {W:World} {base g n:Nat} {xs:List Value} (h:W.ownsRow base 291 75 (svN g n) n xs):∃ S fr,W.heap[g]?=some (.cells S 291 fr):=by
 rcases h.2 with ⟨e,_⟩|⟨g',cap,cur,hv,_,hg,_⟩
 ·cases e
 ·injection hv with hv _ _;injection hv with hv;injection hv with hv _ _;subst hv;exact ⟨_,_,hg⟩
theorem tabs_wt {m:Int} {w:World} (hc:Ct m w) (ht:Tabs w):Wt w:=⟨hc.tab,ht.cas,ht.st,hc.homes⟩
theorem qzf (s:ByteArray) (hs:s.size<4294967281) (D n:Int) (m:Int) (w:World) (hc:Ct m w) (htb:Tabs w) :
  Calls Tryz.prog 35 #[.string s,.int .i64 D,.int .i64 n] w fun e w'=>DivEnd s D n w.heap.size e w'/\Gr w w':=by
 have h1:Hid (Calls Tryz.prog 61 #[.string s,.int .i64 D,.int .i64 1,.int .i64 n] w fun e w'=>TocEnd s D 1 n e/\Gr w w'):=hide (toCount_any s hs D 1 n m w hc);rcases toc_split s D 1 n with ⟨k,hk,hbad,hone⟩|⟨p,ga,gm,gi,hr,hcan,hd,hway,hone⟩
 ·have h2:Hid (Calls Tryz.prog 61 #[.string s,.int .i64 D,.int .i64 1,.int .i64 n] w fun e w'=>e=.returned (.tuple #[.agg Tryz.zeroCells25,.agg nilW,.int .i64 k])/\Gr w w'):=hide ((qa h1).mono fun e w' h=>⟨hone e h.1,h.2⟩);have hend:Hid (∀ base w',DivEnd s D n base (.returned (.tuple #[nilS,.int .i64 k])) w'):=hide fun base w'=>bad_div hbad
  have k2:(k != 0)=true:=by rw [bne_iff_ne];exact hk
  clear h1 hone hbad hk hs hc htb;go_enter Tryz.func35,Tryz.ntmps35
  go_upto_region 2 with (first
   | (go_at_call 61;refine (qa h2).mono ?_;rintro e w3 ⟨rfl,hg3⟩;obtain ⟨x1,x2⟩:=heapTwo w3 (.cells Tryz.zeroCells25 25) (.cells nilW 84))
   | (refine wpList_store_row rfl 25 _ _ rfl w3.heap.size Tryz.zeroCells25 rfl rfl 25 Tryz.zeroCells25 x1 (by rw [zeroP];exact infoP) rfl zeroP_ones ?_)
   | (refine wpList_store_row rfl 84 _ _ rfl (w3.heap.size+1) nilW rfl rfl 84 nilW (by rw [setRow_other _ _ _ _ (by omega)];exact x2) infoW rfl jg ?_))
  have hg4:Gr w ((((w3.alloc (.cells Tryz.zeroCells25 25)).alloc (.cells nilW 84)).setRow w3.heap.size Tryz.zeroCells25).setRow (w3.heap.size+1) nilW):=Gr.trans hg3 (((((Gr.refl w3).alloc _ _).alloc _ _).setRow _ (Nat.le_refl _) _).setRow _ (by omega) _);show Code.wp _ _ _ _ ((((w3.alloc (.cells Tryz.zeroCells25 25)).alloc (.cells nilW 84)).setRow w3.heap.size Tryz.zeroCells25).setRow (w3.heap.size+1) nilW);generalize ((((w3.alloc (.cells Tryz.zeroCells25 25)).alloc (.cells nilW 84)).setRow w3.heap.size Tryz.zeroCells25).setRow (w3.heap.size+1) nilW)=w4 at hg4 ⊢;clear hg3 h2 x1 x2;go_wp2_with fail;go_ret2;exact ⟨qa hend _ _,hg4⟩
 ·have h2:Hid (Calls Tryz.prog 61 #[.string s,.int .i64 D,.int .i64 1,.int .i64 n] w fun e w'=>e=.returned (.tuple #[.agg (posV p),.agg (wayA ga gm),.int .i64 0])/\Gr w w'):=hide ((qa h1).mono fun e w' h=>⟨hone e h.1,h.2⟩);have hrow:=jn hr;have hz:=hrow.size;have ho:=hide (qz hrow);have o:=Ok.of hr hcan;have r:=row_fcN hrow;obtain ⟨dd,hdd⟩:∃ dd:Nat,D=((dd+1:Nat):Int):=⟨(D-1).toNat,by omega⟩;have hd2:dd+1<=3:=by omega
  have hend:Hid (∀ base v w',Cts base v (divL dd (posZ p) p.white (fcN p.castle) p.behind (sortM (movS (posZ p) p.white (fcN p.castle) p.behind))) w'->DivEnd s D n base (.returned (.tuple #[v,.int .i64 0])) w'):=hide fun base v w' hv=>.inr (.inr (.inr ⟨p,v,dd,hr,hcan,by omega,by omega,way_is hway,rfl,hv⟩))
  have hwt:Hid (∀ W,Gr w W->Wt W):=hide fun W g=>(tabs_wt hc htb).gr g
  have hdv:Hid (∀ (g:Nat) (W:World),Wt W->w.heap.size<=g->(∃ S fr,W.heap[g]?=some (.cells S 291 fr))->Calls Tryz.prog 66 #[.agg (ctrA ga gm n g 0),.agg (posV p),.int .i64 D] W fun e w'=>∃ v,e=.returned v/\Cts W.heap.size v (divL dd (posZ p) p.white (fcN p.castle) p.behind (sortM (movS (posZ p) p.white (fcN p.castle) p.behind))) w'/\Fx g W w'):=hide fun g W hW hg hS=>by
   rw [hdd];refine (divideC_any (mem0 g) ((tabs_wt hc htb).lt hg) hway dd hd2 o r W hS hW).mono ?_;rintro e w' ⟨v,rfl,h1,h2,_⟩;exact ⟨v,rfl,h1,h2⟩
  generalize divL dd (posZ p) p.white (fcN p.castle) p.behind (sortM (movS (posZ p) p.white (fcN p.castle) p.behind))=LL at hend hdv;generalize posV p=A at h2 hz ho hdv;clear h1 hone hrow hr hcan hs hc htb o r hdd hd2 hd hway;go_enter Tryz.func35,Tryz.ntmps35
  go_upto_region 2 with (first
   | (go_at_call 61;refine (qa h2).mono ?_;rintro e w3 ⟨rfl,hg3⟩;obtain ⟨x1,x2⟩:=heapTwo w3 (.cells Tryz.zeroCells25 25) (.cells nilW 84))
   | (refine wpList_store_row rfl 25 _ _ rfl w3.heap.size A rfl rfl 25 Tryz.zeroCells25 x1 (by rw [hz];exact infoP) (by rw [hz];exact zeroP) (qa ho) ?_)
   | (refine wpList_store_row rfl 84 _ _ rfl (w3.heap.size+1) (wayA ga gm) rfl rfl 84 nilW (by rw [setRow_other _ _ _ _ (by omega)];exact x2) infoW rfl (ju _ _) ?_))
  have hg4:Gr w ((((w3.alloc (.cells Tryz.zeroCells25 25)).alloc (.cells nilW 84)).setRow w3.heap.size A).setRow (w3.heap.size+1) (wayA ga gm)):=Gr.trans hg3 (((((Gr.refl w3).alloc _ _).alloc _ _).setRow _ (Nat.le_refl _) _).setRow _ (by omega) _);have hp4:((((w3.alloc (.cells Tryz.zeroCells25 25)).alloc (.cells nilW 84)).setRow w3.heap.size A).setRow (w3.heap.size+1) (wayA ga gm)).heap[w3.heap.size]?=some (.cells A 25):=by rw [setRow_other _ _ _ _ (by omega)];exact setRow_heap _ _ _ _ _ _ x1
  have hm4:((((w3.alloc (.cells Tryz.zeroCells25 25)).alloc (.cells nilW 84)).setRow w3.heap.size A).setRow (w3.heap.size+1) (wayA ga gm)).heap[w3.heap.size+1]?=some (.cells (wayA ga gm) 84):=setRow_heap _ _ _ _ _ _ (by rw [setRow_other _ _ _ _ (by omega)];exact x2);show Code.wp _ _ _ _ ((((w3.alloc (.cells Tryz.zeroCells25 25)).alloc (.cells nilW 84)).setRow w3.heap.size A).setRow (w3.heap.size+1) (wayA ga gm));generalize ((((w3.alloc (.cells Tryz.zeroCells25 25)).alloc (.cells nilW 84)).setRow w3.heap.size A).setRow (w3.heap.size+1) (wayA ga gm))=w4 at hg4 hp4 hm4 ⊢;generalize w3.heap.size=b1 at hp4 hm4 ⊢;clear hg3 h2 x1 x2 ho;go_upto_region 4 with fail;have hS0:Dr w b1 A (b1+1) ga gm w4.drew:=⟨hp4,hm4,hg4.drew⟩;have hg40:=hg4;have hb1g:b1≠w4.heap.size+1:=by have:=xg hp4;omega
  have hb2g:b1+1≠w4.heap.size+1:=by have:=xg hm4;omega
  clear hp4 hm4 hg4;refine wp_region_held_drew (S:=Dr w b1 A (b1+1) ga gm) (by kernel_rfl) hS0 (fun hHeld=>?_);clear hS0;refine C.ty 0 (.agg (wayA ga gm)) rfl (Or.inl ⟨by rfl,fun w' hw=>(by have c0:=hw.c0;have c1:=hw.c1;go_simp;rfl)⟩) hHeld ?_;refine C.tq 1 (.int .i64 n) hHeld ?_;refine C.ty 4 (.agg A) rfl (qqz hz (by rfl) _ rfl b1 rfl (fun _ h=>xr h.p)) hHeld ?_;refine C.tq 5 (.int .i64 D) hHeld ?_;refine C.rd 2 fun K hK=>?_
  go_simp;refine (newM_any 0 (by omega) _).mono ?_;rintro e wa ⟨rfl,hown,hga⟩;refine hK.out _ _ (hHeld.next hga) (fun hHeld=>?_);have hgl:=Below.size hg40;have hob:∃ S fr,wa.heap[w4.heap.size+1]?=some (.cells S 291 fr):=own_ob hown;clear hK K
  try simp only [C.py]
  refine C.rd 3 fun K hK=>?_
  go_simp;refine (by_any ga gm n _ 0 _).mono ?_;rintro e wb ⟨rfl,hgb⟩;refine hK.out _ _ (hHeld.next hgb) (fun hHeld=>?_)
  have hob2:∃ S fr,wb.heap[w4.heap.size+1]?=some (.cells S 291 fr):=by
   obtain ⟨S,fr,e⟩:=hob;exact ⟨S,fr,(Below.block hgb _ (heap_lt' e)).trans e⟩
  clear hK K
  try simp only [C.py]
  refine C.rd 6 fun K hK=>?_
  go_simp;refine (qa hdv (w4.heap.size+1) _ (qa hwt _ hHeld.gr) (by omega) hob2).mono ?_;rintro e wc ⟨v,rfl,hv,hfx⟩;have hgc:Gr w wc:=(Fx.trans (Fx.of hHeld.gr) hfx).gr (by omega);have hv':=jx hv (Below.size hHeld.gr);refine hK.out _ _ ⟨hfx.at hHeld.p hb1g,hfx.at hHeld.m hb2g,hgc⟩ (fun hHeld=>?_);clear hK K
  try simp only [C.py]
  refine C.rd 7 fun K hK=>?_
  go_simp;refine hK.out _ _ hHeld (fun hHeld=>?_);clear hK K
  try simp only [C.py]
  refine C.rd 8 fun K hK=>?_
  go_simp;refine hK.out _ _ hHeld (fun hHeld=>?_);clear hK K
  try simp only [C.py]
  refine wpAnyH_done (by kernel_rfl) ?_ _;have hgf:=hide hHeld.gr;clear hHeld;go_wp2_with fail;go_ret2;exact ⟨qa hend _ _ _ hv',qa hgf⟩
theorem rowC_get:∀ (L:List Ct2) (i:Nat) (h:i<L.length),(rowC L)[i*2]?=some (.string L[i].1)/\(rowC L)[i*2+1]?=some (.int .u64 (L[i].2:Int))
 | [],i,h=>absurd h (Nat.not_lt_zero i)
 | c :: r,0,_=>⟨rfl,rfl⟩
 | c :: r,i+1,h=>by
   have ih:=rowC_get r i (by simpa using h);have e:rowC (c :: r)=.string c.1 :: .int .u64 (c.2:Int) :: rowC r:=rfl;rw [e,show (i+1)*2=i*2+1+1 by omega];exact ih
def El2 (p:Option Addr) (L:List Ct2) (W:World):Prop:=∀ i (hi:i<L.length),∃ g,p=some ⟨g,0,none⟩/\W.cell? ⟨g,i*2,none⟩=some (.string L[i].1)/\W.cell? ⟨g,i*2+1,none⟩=some (.int .u64 (L[i].2:Int))
theorem El2.gr {p:Option Addr} {L:List Ct2} {W W':World} (h:El2 p L W) (hg:Gr W W'):El2 p L W':=fun i hi=>by
 obtain ⟨g,e,a,b⟩:=h i hi;exact ⟨g,e,(Below.cell hg (World.block_lt_of_cell? _ _ a)).trans a,(Below.cell hg (World.block_lt_of_cell? _ _ b)).trans b⟩
theorem cts_form {w:World} {base:Nat} {v:Value} {L:List Ct2} (h:Cts base v L w):∃ p cap,v=.slice p L.length cap/\L.length<=cap/\El2 p L w:=by
 rcases h.2 with ⟨rfl,h0⟩|⟨g,cap,cur,rfl,hb,hg,hn,hm,hcs,htk⟩
 ·have e0:L.length=0:=h0;exact ⟨none,0,by rw [e0],by omega,fun i hi=>absurd hi (by omega)⟩
 ·refine ⟨_,_,rfl,hn,fun i hy=>⟨g,rfl,?_⟩⟩
  have hj:∀ c,c<2->w.cell? ⟨g,i*2+c,none⟩=(rowC L)[i*2+c]?:=fun c hc=>by
   have h1:i*2+c<L.length*2:=by omega
   simp only [World.cell?];rw [hg];show cur[i*2+c]?=_;rw [<-Array.getElem?_toList,<-List.getElem?_take_of_lt h1,htk]
  obtain ⟨a,b⟩:=rowC_get L i hy;exact ⟨(hj 0 (by decide)).trans a,(hj 1 (by decide)).trans b⟩
theorem eql_run (x:ByteArray) (W:World):(Op.stringOp .eql x x).run Tryz.prog W=.ok (.bool true) W:=by
 have h:(x.toList==x.toList)=true:=by simp
 show (pure (Value.bool (x.toList==x.toList)):Sem Value).run Tryz.prog W=_;rw [h];rfl
theorem qze (L:List Ct2) (hT:L.length<=1000000) (p1 p2:Option Addr) (c1 c2:Nat) (w:World) (h1:El2 p1 L w) (h2:El2 p2 L w):Calls Tryz.prog 57 #[.slice p1 L.length c1,.slice p2 L.length c2] w fun e w'=>e=.returned (.bool true)/\Gr w w':=by
 have h1':=hide h1;have h2':=hide h2;clear h1 h2;obtain ⟨N,hN⟩:∃ N,N=L.length:=⟨_,rfl⟩;rw [<-hN] at hT ⊢;go_enter Tryz.func57,Tryz.ntmps57;go_upto_region 3 with fail;go_wp2_with fail;go_loopg [5] N (fun g v wr=>∃ (j d:Nat),j+g=N/\v=.int .i64 (j:Int)/\wr=w.drewN d)
 case atStart=>exact ⟨0,0,by omega,rfl,rfl⟩
 case round =>
  obtain ⟨j,d,k1,rfl,rfl⟩:=hrel;by_cases hlt:j<N
  ·obtain ⟨g1,rfl,x1,x2⟩:=qa h1' j (by omega);obtain ⟨g2,rfl,y1,y2⟩:=qa h2' j (by omega);have hj0:(0:Int)<=(j:Int):=by omega
   have hjN:(j:Int)<(N:Int):=by omega
   generalize (L[j]'(by omega)).1=X at x1 y1;generalize (L[j]'(by omega)).2=Y at x2 y2;have f1:=eql_run X;go_upto_region 6 with fail;go_quiet (fail)
   all_goals
    go_wp2;go_roundg (gk-1)
    case measure=>omega
    case rel=>exact ⟨j+1,_,by omega,by go_num,rfl⟩
  ·have ej:j=N:=by omega
   go_wp2;go_ret;exact ⟨rfl,Gr.drewN (Gr.refl w) _⟩
theorem div_one (s:ByteArray) (D n:Int):∃ (L:List Ct2) (k:Int),L.length<=1000000/\∀ base e w',DivEnd s D n base e w'->∃ v,e=.returned (.tuple #[v,.int .i64 k])/\Cts base v L w':=by
 have nil:∀ (k:Int) (base:Nat) (w':World),∃ v,Ending.returned (.tuple #[nilS,.int .i64 k])=.returned (.tuple #[v,.int .i64 k])/\Cts base v [] w':=fun k base w'=>⟨_,rfl,rfl,.inl ⟨rfl,rfl⟩⟩
 rcases xo s with ⟨p,hr,hcan,_⟩|⟨k,hk,hbad,_⟩
 ·by_cases hd:1<=D/\D<=3
  ·by_cases hn:n=1\/n=2
   ·obtain ⟨m,hm⟩:∃ m:Nat,D=(m:Int)+1:=⟨(D-1).toNat,by omega⟩;refine ⟨divL m (posZ p) p.white (fcN p.castle) p.behind (sortM (movS (posZ p) p.white (fcN p.castle) p.behind)),0,?_,fun base e w' h=>?_⟩
    ·unfold divL;rw [List.length_map,qqd];exact qqp _ _ _ _
    ·rcases h with ⟨k,a,_⟩|⟨q,_,_,a,_⟩|⟨q,_,_,_,a,_⟩|⟨q,v,m',a,_,hm',_,_,rfl,hv⟩
     ·exact (qqc a hr hcan).elim
     ·exact (a hd).elim
     ·exact (a hn).elim
     ·rw [hr] at a;obtain rfl:m'=m:=by omega
      rw [<-Option.some.inj a] at hv;exact ⟨v,rfl,hv⟩
   ·refine ⟨[],3,by simp,fun base e w' h=>?_⟩;rcases h with ⟨k,a,_⟩|⟨q,_,_,a,_⟩|⟨q,_,_,_,a,rfl⟩|⟨q,v,m',a,_,hm',_,b,rfl,hv⟩
    ·exact (qqc a hr hcan).elim
    ·exact (a hd).elim
    ·exact nil 3 base w'
    ·exact (hn b).elim
  ·refine ⟨[],5,by simp,fun base e w' h=>?_⟩;rcases h with ⟨k,a,_⟩|⟨q,_,_,a,rfl⟩|⟨q,_,_,a,_,_⟩|⟨q,v,m',a,_,hm',b,_,rfl,hv⟩
   ·exact (qqc a hr hcan).elim
   ·exact nil 5 base w'
   ·exact (hd a).elim
   ·exact (hd (by omega)).elim
 ·refine ⟨[],k,by simp,fun base e w' h=>?_⟩;rcases h with ⟨k',a,rfl⟩|⟨q,a,b,_,_⟩|⟨q,a,b,_,_,_⟩|⟨q,v,m',a,b,_⟩
  ·rw [err_one (t:=⟨#[]⟩) (.inl hbad) (.inl a)];exact nil _ base w'
  ·exact (qqc hbad a b).elim
  ·exact (qqc hbad a b).elim
  ·exact (qqc hbad a b).elim
end Go.Proofs.YtnfakamfmkhlbaaGreatDoor.C
