import Derived.Test.YtnfakamfmkhlbabGreatDoorKb28
import Derived.Test.YtnfakamfmkhlbabGreatDoorKb23
import Derived.Test.YtnfakamfmkhlbabGreatDoorKb13
import Derived.Test.YtnfakamfmkhlbabGreatDoorKb12
import Derived.Test.YtnfakamfmkhlbabGreatDoorKb4
import Derived.Deep.QuietTactic
import Derived.BigQuiet
import Derived.Deep.RegionHeld3
import Derived.Test.YtnfakamfmkhlbabGreatDoorKb26
import Derived.Test.YtnfakamfmkhlbabGreatDoorKb24
import Derived.Test.YtnfakamfmkhlbabGreatDoorKb27
import Derived.Test.YtnfakamfmkhlbabGreatDoorKz2
import Derived.Test.YtnfakamfmkhlbabGreatDoorKz3
set_option maxRecDepth 100000
set_option maxHeartbeats 4000000
set_option linter.unusedSimpArgs false
namespace Go.Proofs.YtnfakamfmkhlbabGreatDoor.C
open Go.ChangeShapes Go.WideShapes Go.ChangeAt Go.RowKit Go.Shelf
open Go.Proofs.YtnfakamfmkhlbabGreatDoor.P
attribute [local go_sem] setCell_drewN alloc_drewN Oper.semAt_some
def TocBad (s:ByteArray) (d lo n k:Int):Prop:=BadK s k\/(∃ p,readS s=some p/\posCan p=true/\¬ (lo<=d/\d<=3)/\k=5)\/(∃ p,readS s=some p/\posCan p=true/\(lo<=d/\d<=3)/\¬ (n=1\/n=2)/\k=3)
theorem bad_no {s:ByteArray} {k:Int} {p:Pos} (h:BadK s k) (hr:readS s=some p) (hc:posCan p=true):False:=by
 rcases h with ⟨_,a⟩|⟨_,q,a,b⟩
 ·rw [hr] at a;cases a
 ·rw [hr] at a;rw [<-Option.some.inj a,hc] at b;cases b
theorem way_one {n:Int} {ga gm gi ga' gm' gi':Nat} (a:WayN n ga gm gi) (b:WayN n ga' gm' gi'):ga'=ga/\gm'=gm:=by
 rcases a.is with ⟨rfl,rfl,rfl,_⟩|⟨rfl,rfl,rfl,_⟩
 ·rcases b.is with ⟨_,rfl,rfl,_⟩|⟨h,_⟩
  ·exact ⟨rfl,rfl⟩
  ·exact absurd h (by decide)
 ·rcases b.is with ⟨h,_⟩|⟨_,rfl,rfl,_⟩
  ·exact absurd h (by decide)
  ·exact ⟨rfl,rfl⟩
theorem way_of {n:Int} (hn:n=1\/n=2):∃ ga gm gi,WayN n ga gm gi:=by
 rcases hn with rfl|rfl
 ·exact ⟨_,_,_,⟨.inl ⟨rfl,rfl,rfl,rfl⟩⟩⟩
 ·exact ⟨_,_,_,⟨.inr ⟨rfl,rfl,rfl,rfl⟩⟩⟩
theorem way_is {n:Int} {ga gm gi:Nat} (h:WayN n ga gm gi):n=1\/n=2:=by
 rcases h.is with ⟨h,_⟩|⟨h,_⟩
 ·exact .inl h
 ·exact .inr h
theorem toc_split (s:ByteArray) (d lo n:Int):(∃ k,k≠0/\TocBad s d lo n k/\∀ e,TocEnd s d lo n e->e=.returned (.tuple #[.agg Tryz.zeroCells70,.agg nilW,.int .i64 k])) ∨
  (∃ p ga gm gi,readS s=some p/\posCan p=true/\(lo<=d/\d<=3)/\WayN n ga gm gi/\∀ e,TocEnd s d lo n e->e=.returned (.tuple #[.agg (posV p),.agg (wayA ga gm),.int .i64 0])):=by
 rcases parse_split s with ⟨p,hr,hcan,_⟩|⟨k,hk,hbad,_⟩
 ·by_cases hd:lo<=d/\d<=3
  ·by_cases hn:n=1\/n=2
   ·obtain ⟨ga,gm,gi,hw⟩:=way_of hn;refine .inr ⟨p,ga,gm,gi,hr,hcan,hd,hw,fun e h=>?_⟩;rcases h with ⟨k,_,a,_⟩|⟨q,_,_,a,_⟩|⟨q,_,_,_,a,_⟩|⟨q,ga',gm',gi',a,_,_,b,rfl⟩
    ·exact (bad_no a hr hcan).elim
    ·exact (a hd).elim
    ·exact (a hn).elim
    ·rw [hr] at a;obtain ⟨rfl,rfl⟩:=way_one hw b;rw [<-Option.some.inj a]
   ·refine .inl ⟨3,by decide,.inr (.inr ⟨p,hr,hcan,hd,hn,rfl⟩),fun e h=>?_⟩;rcases h with ⟨k,_,a,_⟩|⟨q,_,_,a,_⟩|⟨q,_,_,_,a,rfl⟩|⟨q,ga',gm',gi',a,_,_,b,_⟩
    ·exact (bad_no a hr hcan).elim
    ·exact (a hd).elim
    ·rfl
    ·exact (hn (way_is b)).elim
  ·refine .inl ⟨5,by decide,.inr (.inl ⟨p,hr,hcan,hd,rfl⟩),fun e h=>?_⟩;rcases h with ⟨k,_,a,_⟩|⟨q,_,_,a,rfl⟩|⟨q,_,_,a,_,_⟩|⟨q,ga',gm',gi',_,_,a,b,_⟩
   ·exact (bad_no a hr hcan).elim
   ·rfl
   ·exact (hd a).elim
   ·exact (hd a).elim
 ·refine .inl ⟨k,hk,.inl hbad,fun e h=>?_⟩;rcases h with ⟨k',_,a,rfl⟩|⟨q,a,b,_,_⟩|⟨q,a,b,_,_,_⟩|⟨q,ga',gm',gi',a,b,_,_,_⟩
  ·rw [err_one (t:=⟨#[]⟩) (.inl hbad) (.inl a)]
  ·exact (bad_no hbad a b).elim
  ·exact (bad_no hbad a b).elim
  ·exact (bad_no hbad a b).elim
theorem bad_div {s:ByteArray} {D n k:Int} {base:Nat} {w':World} (h:TocBad s D 1 n k):DivEnd s D n base (.returned (.tuple #[nilS,.int .i64 k])) w':=by
 rcases h with h|⟨p,a,b,c,rfl⟩|⟨p,a,b,c,d,rfl⟩
 ·exact .inl ⟨k,h,rfl⟩
 ·exact .inr (.inl ⟨p,a,b,c,rfl⟩)
 ·exact .inr (.inr (.inl ⟨p,a,b,c,d,rfl⟩))
structure Dr (w:World) (b1:Nat) (A:Array Value) (b2 ga gm:Nat) (W:World):Prop where
 p:W.heap[b1]?=some (.cells A 70)
 m:W.heap[b2]?=some (.cells (wayA ga gm) 74)
 gr:Gr w W
theorem Dr.next {w:World} {b1:Nat} {A:Array Value} {b2 ga gm:Nat} {W W':World} (h:Dr w b1 A b2 ga gm W) (g:Gr W W'):Dr w b1 A b2 ga gm W':=⟨(Below.block g _ (heap_lt h.p)).trans h.p,(Below.block g _ (heap_lt h.m)).trans h.m,Gr.trans h.gr g⟩
theorem Dr.c0 {w:World} {b1:Nat} {A:Array Value} {b2 ga gm:Nat} {W:World} (h:Dr w b1 A b2 ga gm W):W.cell? ⟨b2,0,none⟩=some (.func (.func ga) #[] #[]):=by rw [cells_at h.m];rfl
theorem Dr.c1 {w:World} {b1:Nat} {A:Array Value} {b2 ga gm:Nat} {W:World} (h:Dr w b1 A b2 ga gm W):W.cell? ⟨b2,1,none⟩=some (.func (.func gm) #[] #[]):=by rw [cells_at h.m];rfl
theorem heap_lt' {W:World} {b:Nat} {c:Array Value} {ty:TypeId} {fr:Nat × Nat} (h:W.heap[b]?=some (.cells c ty fr)):b<W.heap.size:=(Array.getElem?_eq_some_iff.1 h).1
theorem own_ob {W:World} {base g n:Nat} {xs:List Value} (h:W.ownsRow base 168 75 (svN g n) n xs):∃ S fr,W.heap[g]?=some (.cells S 168 fr):=by
 rcases h.2 with ⟨e,_⟩|⟨g',cap,cur,hv,_,hg,_⟩
 ·cases e
 ·injection hv with hv _ _;injection hv with hv;injection hv with hv _ _;subst hv;exact ⟨_,_,hg⟩
theorem tabs_wt {m:Int} {w:World} (hc:Ct m w) (ht:Tabs w):Wt w:=⟨hc.tab,ht.cas,ht.st,hc.homes⟩
theorem rookDivide_any (s:ByteArray) (hs:s.size<4294967281) (D n:Int) (m:Int) (w:World) (hc:Ct m w) (htb:Tabs w) :
  Calls Tryz.prog 11 #[.string s,.int .i64 D,.int .i64 n] w fun e w'=>DivEnd s D n w.heap.size e w'/\Gr w w':=by
 have h1:Hid (Calls Tryz.prog 21 #[.string s,.int .i64 D,.int .i64 1,.int .i64 n] w fun e w'=>TocEnd s D 1 n e/\Gr w w'):=hide (toCount_any s hs D 1 n m w hc);rcases toc_split s D 1 n with ⟨k,hk,hbad,hone⟩|⟨p,ga,gm,gi,hr,hcan,hd,hway,hone⟩
 ·have h2:Hid (Calls Tryz.prog 21 #[.string s,.int .i64 D,.int .i64 1,.int .i64 n] w fun e w'=>e=.returned (.tuple #[.agg Tryz.zeroCells70,.agg nilW,.int .i64 k])/\Gr w w'):=hide ((unhide h1).mono fun e w' h=>⟨hone e h.1,h.2⟩);have hend:Hid (∀ base w',DivEnd s D n base (.returned (.tuple #[nilS,.int .i64 k])) w'):=hide fun base w'=>bad_div hbad
  have k2:(k != 0)=true:=by rw [bne_iff_ne];exact hk
  clear h1 hone hbad hk hs hc htb;go_enter Tryz.func11,Tryz.ntmps11
  go_upto_region 2 with (first
   | (go_at_call 21;refine (unhide h2).mono ?_;rintro e w3 ⟨rfl,hg3⟩;obtain ⟨x1,x2⟩:=heapTwo w3 (.cells Tryz.zeroCells70 70) (.cells nilW 74))
   | (refine wpList_store_row rfl 70 _ _ rfl w3.heap.size Tryz.zeroCells70 rfl rfl 70 Tryz.zeroCells70 x1 (by rw [zeroP];exact infoP) rfl zeroP_ones ?_)
   | (refine wpList_store_row rfl 74 _ _ rfl (w3.heap.size+1) nilW rfl rfl 74 nilW (by rw [setRow_other _ _ _ _ (by omega)];exact x2) infoW rfl nilW_ones ?_))
  have hg4:Gr w ((((w3.alloc (.cells Tryz.zeroCells70 70)).alloc (.cells nilW 74)).setRow w3.heap.size Tryz.zeroCells70).setRow (w3.heap.size+1) nilW):=Gr.trans hg3 (((((Gr.refl w3).alloc _ _).alloc _ _).setRow _ (Nat.le_refl _) _).setRow _ (by omega) _);show Code.wp _ _ _ _ ((((w3.alloc (.cells Tryz.zeroCells70 70)).alloc (.cells nilW 74)).setRow w3.heap.size Tryz.zeroCells70).setRow (w3.heap.size+1) nilW);generalize ((((w3.alloc (.cells Tryz.zeroCells70 70)).alloc (.cells nilW 74)).setRow w3.heap.size Tryz.zeroCells70).setRow (w3.heap.size+1) nilW)=w4 at hg4 ⊢;clear hg3 h2 x1 x2;go_wp2_with fail;go_ret2;exact ⟨unhide hend _ _,hg4⟩
 ·have h2:Hid (Calls Tryz.prog 21 #[.string s,.int .i64 D,.int .i64 1,.int .i64 n] w fun e w'=>e=.returned (.tuple #[.agg (posV p),.agg (wayA ga gm),.int .i64 0])/\Gr w w'):=hide ((unhide h1).mono fun e w' h=>⟨hone e h.1,h.2⟩);have hrow:=row_read hr;have hz:=hrow.size;have ho:=hide (row_ones hrow);have o:=Ok.of hr hcan;have r:=row_fcN hrow;obtain ⟨dd,hdd⟩:∃ dd:Nat,D=((dd+1:Nat):Int):=⟨(D-1).toNat,by omega⟩;have hd2:dd+1<=3:=by omega
  have hend:Hid (∀ base v w',Cts base v (divL dd (posZ p) p.white (fcN p.castle) p.behind (sortM (movS (posZ p) p.white (fcN p.castle) p.behind))) w'->DivEnd s D n base (.returned (.tuple #[v,.int .i64 0])) w'):=hide fun base v w' hv=>.inr (.inr (.inr ⟨p,v,dd,hr,hcan,by omega,by omega,way_is hway,rfl,hv⟩))
  have hwt:Hid (∀ W,Gr w W->Wt W):=hide fun W g=>(tabs_wt hc htb).gr g
  have hdv:Hid (∀ (g:Nat) (W:World),Wt W->w.heap.size<=g->(∃ S fr,W.heap[g]?=some (.cells S 168 fr))->Calls Tryz.prog 26 #[.agg (ctrA ga gm n g 0),.agg (posV p),.int .i64 D] W fun e w'=>∃ v,e=.returned v/\Cts W.heap.size v (divL dd (posZ p) p.white (fcN p.castle) p.behind (sortM (movS (posZ p) p.white (fcN p.castle) p.behind))) w'/\Fx g W w'):=hide fun g W hW hg hS=>by
   rw [hdd];refine (divideC_any (mem0 g) ((tabs_wt hc htb).lt hg) hway dd hd2 o r W hS hW).mono ?_;rintro e w' ⟨v,rfl,h1,h2,_⟩;exact ⟨v,rfl,h1,h2⟩
  generalize divL dd (posZ p) p.white (fcN p.castle) p.behind (sortM (movS (posZ p) p.white (fcN p.castle) p.behind))=LL at hend hdv;generalize posV p=A at h2 hz ho hdv;clear h1 hone hrow hr hcan hs hc htb o r hdd hd2 hd hway;go_enter Tryz.func11,Tryz.ntmps11
  go_upto_region 2 with (first
   | (go_at_call 21;refine (unhide h2).mono ?_;rintro e w3 ⟨rfl,hg3⟩;obtain ⟨x1,x2⟩:=heapTwo w3 (.cells Tryz.zeroCells70 70) (.cells nilW 74))
   | (refine wpList_store_row rfl 70 _ _ rfl w3.heap.size A rfl rfl 70 Tryz.zeroCells70 x1 (by rw [hz];exact infoP) (by rw [hz];exact zeroP) (unhide ho) ?_)
   | (refine wpList_store_row rfl 74 _ _ rfl (w3.heap.size+1) (wayA ga gm) rfl rfl 74 nilW (by rw [setRow_other _ _ _ _ (by omega)];exact x2) infoW rfl (wayA_ones _ _) ?_))
  have hg4:Gr w ((((w3.alloc (.cells Tryz.zeroCells70 70)).alloc (.cells nilW 74)).setRow w3.heap.size A).setRow (w3.heap.size+1) (wayA ga gm)):=Gr.trans hg3 (((((Gr.refl w3).alloc _ _).alloc _ _).setRow _ (Nat.le_refl _) _).setRow _ (by omega) _);have hp4:((((w3.alloc (.cells Tryz.zeroCells70 70)).alloc (.cells nilW 74)).setRow w3.heap.size A).setRow (w3.heap.size+1) (wayA ga gm)).heap[w3.heap.size]?=some (.cells A 70):=by rw [setRow_other _ _ _ _ (by omega)];exact setRow_heap _ _ _ _ _ _ x1
  have hm4:((((w3.alloc (.cells Tryz.zeroCells70 70)).alloc (.cells nilW 74)).setRow w3.heap.size A).setRow (w3.heap.size+1) (wayA ga gm)).heap[w3.heap.size+1]?=some (.cells (wayA ga gm) 74):=setRow_heap _ _ _ _ _ _ (by rw [setRow_other _ _ _ _ (by omega)];exact x2);show Code.wp _ _ _ _ ((((w3.alloc (.cells Tryz.zeroCells70 70)).alloc (.cells nilW 74)).setRow w3.heap.size A).setRow (w3.heap.size+1) (wayA ga gm));generalize ((((w3.alloc (.cells Tryz.zeroCells70 70)).alloc (.cells nilW 74)).setRow w3.heap.size A).setRow (w3.heap.size+1) (wayA ga gm))=w4 at hg4 hp4 hm4 ⊢;generalize w3.heap.size=b1 at hp4 hm4 ⊢;clear hg3 h2 x1 x2 ho;go_upto_region 4 with fail;have hS0:Dr w b1 A (b1+1) ga gm w4.drew:=⟨hp4,hm4,hg4.drew⟩;have hg40:=hg4;have hb1g:b1≠w4.heap.size+1:=by have:=heap_lt hp4;omega
  have hb2g:b1+1≠w4.heap.size+1:=by have:=heap_lt hm4;omega
  clear hp4 hm4 hg4;refine wp_region_held_drew (S:=Dr w b1 A (b1+1) ga gm) (by kernel_rfl) hS0 (fun hHeld=>?_);clear hS0;refine C.ty 0 (.agg (wayA ga gm)) rfl (Or.inl ⟨by rfl,fun w' hw=>(by have c0:=hw.c0;have c1:=hw.c1;go_simp;rfl)⟩) hHeld ?_;refine C.tq 1 (.int .i64 n) hHeld ?_;refine C.ty 4 (.agg A) rfl (y_pos hz (by rfl) _ rfl b1 rfl (fun _ h=>rowAt_of h.p)) hHeld ?_;refine C.tq 5 (.int .i64 D) hHeld ?_;refine C.rd 2 fun K hK=>?_
  go_simp;refine (newM_any 0 (by omega) _).mono ?_;rintro e wa ⟨rfl,hown,hga⟩;refine hK.out _ _ (hHeld.next hga) (fun hHeld=>?_);have hgl:=Below.size hg40;have hob:∃ S fr,wa.heap[w4.heap.size+1]?=some (.cells S 168 fr):=own_ob hown;clear hK K
  try simp only [C.py]
  refine C.rd 3 fun K hK=>?_
  go_simp;refine (by_any ga gm n _ 0 _).mono ?_;rintro e wb ⟨rfl,hgb⟩;refine hK.out _ _ (hHeld.next hgb) (fun hHeld=>?_)
  have hob2:∃ S fr,wb.heap[w4.heap.size+1]?=some (.cells S 168 fr):=by
   obtain ⟨S,fr,e⟩:=hob;exact ⟨S,fr,(Below.block hgb _ (heap_lt' e)).trans e⟩
  clear hK K
  try simp only [C.py]
  refine C.rd 6 fun K hK=>?_
  go_simp;refine (unhide hdv (w4.heap.size+1) _ (unhide hwt _ hHeld.gr) (by omega) hob2).mono ?_;rintro e wc ⟨v,rfl,hv,hfx⟩;have hgc:Gr w wc:=(Fx.trans (Fx.of hHeld.gr) hfx).gr (by omega);have hv':=owns_mono hv (Below.size hHeld.gr);refine hK.out _ _ ⟨hfx.at hHeld.p hb1g,hfx.at hHeld.m hb2g,hgc⟩ (fun hHeld=>?_);clear hK K
  try simp only [C.py]
  refine C.rd 7 fun K hK=>?_
  go_simp;refine hK.out _ _ hHeld (fun hHeld=>?_);clear hK K
  try simp only [C.py]
  refine C.rd 8 fun K hK=>?_
  go_simp;refine hK.out _ _ hHeld (fun hHeld=>?_);clear hK K
  try simp only [C.py]
  refine wpAnyH_done (by kernel_rfl) ?_ _;have hgf:=hide hHeld.gr;clear hHeld;go_wp2_with fail;go_ret2;exact ⟨unhide hend _ _ _ hv',unhide hgf⟩
theorem rowC_get:∀ (L:List Ct2) (i:Nat) (h:i<L.length),(rowC L)[i*2]?=some (.string L[i].1)/\(rowC L)[i*2+1]?=some (.int .u64 (L[i].2:Int))
 | [],i,h=>absurd h (Nat.not_lt_zero i)
 | c :: r,0,_=>⟨rfl,rfl⟩
 | c :: r,i+1,h=>by
   have ih:=rowC_get r i (by simpa using h);have e:rowC (c :: r)=.string c.1 :: .int .u64 (c.2:Int) :: rowC r:=rfl;rw [e,show (i+1)*2=i*2+1+1 by omega];exact ih
def El2 (p:Option Addr) (L:List Ct2) (W:World):Prop:=∀ i (hi:i<L.length),∃ g,p=some ⟨g,0,none⟩/\W.cell? ⟨g,i*2,none⟩=some (.string L[i].1)/\W.cell? ⟨g,i*2+1,none⟩=some (.int .u64 (L[i].2:Int))
theorem El2.gr {p:Option Addr} {L:List Ct2} {W W':World} (h:El2 p L W) (hg:Gr W W'):El2 p L W':=fun i hi=>by
 obtain ⟨g,e,a,b⟩:=h i hi;exact ⟨g,e,(Below.cell hg (World.block_lt_of_cell? _ _ a)).trans a,(Below.cell hg (World.block_lt_of_cell? _ _ b)).trans b⟩
theorem cts_form {w:World} {base:Nat} {v:Value} {L:List Ct2} (h:Cts base v L w):∃ p cap,v=.slice p L.length cap/\L.length<=cap/\El2 p L w:=by
 rcases h.2 with ⟨rfl,h0⟩|⟨g,cap,cur,rfl,hb,hg,hn,hm,hcs,htk⟩
 ·have e0:L.length=0:=h0;exact ⟨none,0,by rw [e0],by omega,fun i hi=>absurd hi (by omega)⟩
 ·refine ⟨_,_,rfl,hn,fun i hy=>⟨g,rfl,?_⟩⟩
  have hj:∀ c,c<2->w.cell? ⟨g,i*2+c,none⟩=(rowC L)[i*2+c]?:=fun c hc=>by
   have h1:i*2+c<L.length*2:=by omega
   simp only [World.cell?];rw [hg];show cur[i*2+c]?=_;rw [<-Array.getElem?_toList,<-List.getElem?_take_of_lt h1,htk]
  obtain ⟨a,b⟩:=rowC_get L i hy;exact ⟨(hj 0 (by decide)).trans a,(hj 1 (by decide)).trans b⟩
theorem div_one (s:ByteArray) (D n:Int):∃ (L:List Ct2) (k:Int),L.length<=1000000/\∀ base e w',DivEnd s D n base e w'->∃ v,e=.returned (.tuple #[v,.int .i64 k])/\Cts base v L w':=by
 have nil:∀ (k:Int) (base:Nat) (w':World),∃ v,Ending.returned (.tuple #[nilS,.int .i64 k])=.returned (.tuple #[v,.int .i64 k])/\Cts base v [] w':=fun k base w'=>⟨_,rfl,rfl,.inl ⟨rfl,rfl⟩⟩
 rcases parse_split s with ⟨p,hr,hcan,_⟩|⟨k,hk,hbad,_⟩
 ·by_cases hd:1<=D/\D<=3
  ·by_cases hn:n=1\/n=2
   ·obtain ⟨m,hm⟩:∃ m:Nat,D=(m:Int)+1:=⟨(D-1).toNat,by omega⟩;refine ⟨divL m (posZ p) p.white (fcN p.castle) p.behind (sortM (movS (posZ p) p.white (fcN p.castle) p.behind)),0,?_,fun base e w' h=>?_⟩
    ·unfold divL;rw [List.length_map,sortM_len];exact movS_len _ _ _ _
    ·rcases h with ⟨k,a,_⟩|⟨q,_,_,a,_⟩|⟨q,_,_,_,a,_⟩|⟨q,v,m',a,_,hm',_,_,rfl,hv⟩
     ·exact (bad_no a hr hcan).elim
     ·exact (a hd).elim
     ·exact (a hn).elim
     ·rw [hr] at a;obtain rfl:m'=m:=by omega
      rw [<-Option.some.inj a] at hv;exact ⟨v,rfl,hv⟩
   ·refine ⟨[],3,by simp,fun base e w' h=>?_⟩;rcases h with ⟨k,a,_⟩|⟨q,_,_,a,_⟩|⟨q,_,_,_,a,rfl⟩|⟨q,v,m',a,_,hm',_,b,rfl,hv⟩
    ·exact (bad_no a hr hcan).elim
    ·exact (a hd).elim
    ·exact nil 3 base w'
    ·exact (hn b).elim
  ·refine ⟨[],5,by simp,fun base e w' h=>?_⟩;rcases h with ⟨k,a,_⟩|⟨q,_,_,a,rfl⟩|⟨q,_,_,a,_,_⟩|⟨q,v,m',a,_,hm',b,_,rfl,hv⟩
   ·exact (bad_no a hr hcan).elim
   ·exact nil 5 base w'
   ·exact (hd a).elim
   ·exact (hd (by omega)).elim
 ·refine ⟨[],k,by simp,fun base e w' h=>?_⟩;rcases h with ⟨k',a,rfl⟩|⟨q,a,b,_,_⟩|⟨q,a,b,_,_,_⟩|⟨q,v,m',a,b,_⟩
  ·rw [err_one (t:=⟨#[]⟩) (.inl hbad) (.inl a)];exact nil _ base w'
  ·exact (bad_no hbad a b).elim
  ·exact (bad_no hbad a b).elim
  ·exact (bad_no hbad a b).elim
end Go.Proofs.YtnfakamfmkhlbabGreatDoor.C
namespace Go.Proofs.YtnfakamfmkhlbabGreatDoor.C
open Go.ChangeShapes Go.WideShapes Go.ChangeAt Go.RowKit Go.Shelf
open Go.Proofs.YtnfakamfmkhlbabGreatDoor.P
theorem eqItems8g (d:Nat) (xs ys:Array Value) (a b:Nat->Int) (w:World):∀ is:List Nat,(∀ i∈is,xs[i]?=some (.int .u8 (a i))/\ys[i]?=some (.int .u8 (b i)))->(Op.eqItems (d+1) 5 1 xs ys is).run Tryz.prog w=.ok (is.all fun i=>a i==b i) w
 | [],_=>by simp [Op.eqItems]
 | i :: is,h=>by
   obtain ⟨h1,h2⟩:=h i (by simp);have ih:=eqItems8g d xs ys a b w is (fun j hj=>h j (by simp [hj]));simp only [Op.eqItems,Sem.run_bind,Nat.mul_one];rw [run_part_plain w plain5 h1];simp only [Result.andThen_ok];rw [run_part_plain w plain5 h2];simp only [Result.andThen_ok];rw [run_equalIn_int w d 5 .u8 .u8 (a i) (b i) Tryz.underlying5];by_cases e:a i=b i
   ·simp [e,ih]
   ·simp [e]
theorem eqItems1g (d:Nat) (xs ys:Array Value) (a b:Nat->Bool) (w:World):∀ is:List Nat,(∀ i∈is,xs[i]?=some (.bool (a i))/\ys[i]?=some (.bool (b i)))->(Op.eqItems (d+1) 4 1 xs ys is).run Tryz.prog w=.ok (is.all fun i=>a i==b i) w
 | [],_=>by simp [Op.eqItems]
 | i :: is,h=>by
   obtain ⟨h1,h2⟩:=h i (by simp);have ih:=eqItems1g d xs ys a b w is (fun j hj=>h j (by simp [hj]));simp only [Op.eqItems,Sem.run_bind,Nat.mul_one];rw [run_part_plain w plain4 h1];simp only [Result.andThen_ok];rw [run_part_plain w plain4 h2];simp only [Result.andThen_ok];rw [run_equalIn_bool w d 4 (a i) (b i) Tryz.underlying4];by_cases e:a i=b i
   ·simp [e,ih]
   ·simp [e]
theorem arru64g (d:Nat) (xs ys:Array Value) (a b:Nat->Int) (h:∀ i,i<64->xs[i]?=some (.int .u8 (a i))/\ys[i]?=some (.int .u8 (b i))) (w:World):(Op.equalIn (d+2) 67 (.agg xs) (.agg ys)).run Tryz.prog w=.ok ((List.range 64).all fun i=>a i==b i) w:=by
 obtain ⟨i,hi⟩:=info5;rw [run_equalIn_array w (d+1) xs ys Tryz.underlying67 hi,cells5];exact eqItems8g d xs ys a b w _ (fun i hi=>h i (List.mem_range.1 hi))
theorem arrb4g (d:Nat) (xs ys:Array Value) (a b:Nat->Bool) (h:∀ i,i<4->xs[i]?=some (.bool (a i))/\ys[i]?=some (.bool (b i))) (w:World):(Op.equalIn (d+2) 68 (.agg xs) (.agg ys)).run Tryz.prog w=.ok ((List.range 4).all fun i=>a i==b i) w:=by
 obtain ⟨i,hi⟩:=info4b;rw [run_equalIn_array w (d+1) xs ys Tryz.underlying68 hi,cells4];exact eqItems1g d xs ys a b w _ (fun i hi=>h i (List.mem_range.1 hi))
theorem eqFields_g {d : Nat} {xs ys : Array Value} {f : Field} {fs : List Field} {w : World} {a b : Value} {c r : Bool} (hf : (f.name != "_") = true) (ha : (part f.type xs f.offset).run Tryz.prog w = .ok a w) (hb : (part f.type ys f.offset).run Tryz.prog w = .ok b w) (hr : (Op.equalIn d f.type a b).run Tryz.prog w = .ok c w) (hn : (Op.eqFields d xs ys fs).run Tryz.prog w = .ok r w) :
  (Op.eqFields d xs ys (f :: fs)).run Tryz.prog w=.ok (c&&r) w:=by
 simp only [Op.eqFields];rw [if_pos (by simpa using hf)];cases c<;>simp [Sem.run_bind,ha,hb,hr,hn]
theorem eqInt (d:Nat) (a b:Int) (w:World):(Op.equalIn (d+1) 3 (.int .i64 a) (.int .i64 b)).run Tryz.prog w=.ok (a==b) w:=by
 rw [run_equalIn_int w d 3 .i64 .i64 a b Tryz.underlying3]
def posE (z z':Nat->UInt8) (wh wh':Bool) (f f':Nat->Bool) (b b' h h' g g':Int):Bool :=
 ((List.range 64).all fun i=>((z i).toNat:Int)==((z' i).toNat:Int))&&((wh==wh')&&(((List.range 4).all fun i=>f i==f' i)&&((b==b')&&((h==h')&&((g==g')&&true)))))
theorem pos_eq (n:Nat) {z z':Nat->UInt8} {wh wh':Bool} {f f':Nat->Bool} {b b' h h' g g':Int} {X Y:Array Value} (r:Row z wh f b h g X) (r':Row z' wh' f' b' h' g' Y) (w:World):(Op.equalIn (n+4) 70 (.agg X) (.agg Y)).run Tryz.prog w=.ok (posE z z' wh wh' f f' b b' h h' g g') w:=by
 rw [run_equalIn_struct w (n+3) 70 X Y under25 stood25];have hf:=fields25;generalize (Tryz.prog.fieldsOf 70).toList=fs at hf ⊢;obtain ⟨f0,gs0,rfl,e0,hf⟩:=List.map_eq_cons_iff.1 hf;obtain ⟨f1,gs1,rfl,e1,hf⟩:=List.map_eq_cons_iff.1 hf;obtain ⟨f2,gs2,rfl,e2,hf⟩:=List.map_eq_cons_iff.1 hf;obtain ⟨f3,gs3,rfl,e3,hf⟩:=List.map_eq_cons_iff.1 hf;obtain ⟨f4,gs4,rfl,e4,hf⟩:=List.map_eq_cons_iff.1 hf;obtain ⟨f5,gs5,rfl,e5,hf⟩:=List.map_eq_cons_iff.1 hf;rw [List.map_eq_nil_iff] at hf;subst hf;simp only [Prod.mk.injEq] at e0 e1 e2 e3 e4 e5;obtain ⟨a0,b0,c0⟩:=e0;obtain ⟨a1,b1,c1⟩:=e1;obtain ⟨a2,b2,c2⟩:=e2;obtain ⟨a3,b3,c3⟩:=e3;obtain ⟨a4,b4,c4⟩:=e4;obtain ⟨a5,b5,c5⟩:=e5
 refine eqFields_g (a:=.agg (X.extract 0 64)) (b:=.agg (Y.extract 0 64)) a0 (by rw [b0,c0];exact part64 X w) (by rw [b0,c0];exact part64 Y w) (by
  rw [b0];exact arru64g (n+1) _ _ (fun i=>((z i).toNat:Int)) (fun i=>((z' i).toNat:Int)) (fun i hi=>⟨by rw [Array.getElem?_extract,if_pos (by rw [r.size];omega),Nat.zero_add];exact r.sq i hi,by rw [Array.getElem?_extract,if_pos (by rw [r'.size];omega),Nat.zero_add];exact r'.sq i hi⟩) w) ?_
 refine eqFields_g (a:=.bool wh) (b:=.bool wh') a1 (by rw [b1,c1];exact run_part_plain w plain4 r.wh) (by rw [b1,c1];exact run_part_plain w plain4 r'.wh) (by
  rw [b1,run_equalIn_bool w (n+2) 4 wh wh' Tryz.underlying4]) ?_
 refine eqFields_g (a:=.agg (X.extract 65 69)) (b:=.agg (Y.extract 65 69)) a2 (by rw [b2,c2];exact part4 X w) (by rw [b2,c2];exact part4 Y w) (by
  rw [b2];exact arrb4g (n+1) _ _ f f' (fun i hi=>⟨by rw [Array.getElem?_extract,if_pos (by rw [r.size];omega)];exact r.c i hi,by rw [Array.getElem?_extract,if_pos (by rw [r'.size];omega)];exact r'.c i hi⟩) w) ?_
 refine eqFields_g (a:=.int .i64 b) (b:=.int .i64 b') a3 (by rw [b3,c3];exact run_part_plain w plain3 r.b) (by rw [b3,c3];exact run_part_plain w plain3 r'.b) (by rw [b3];exact eqInt (n+2) b b' w) ?_;refine eqFields_g (a:=.int .i64 h) (b:=.int .i64 h') a4 (by rw [b4,c4];exact run_part_plain w plain3 r.h) (by rw [b4,c4];exact run_part_plain w plain3 r'.h) (by rw [b4];exact eqInt (n+2) h h' w) ?_;refine eqFields_g (a:=.int .i64 g) (b:=.int .i64 g') a5 (by rw [b5,c5];exact run_part_plain w plain3 r.g) (by rw [b5,c5];exact run_part_plain w plain3 r'.g) (by rw [b5];exact eqInt (n+2) g g' w) ?_;simp [Op.eqFields]
theorem posE_true {z z':Nat->UInt8} {wh wh':Bool} {f f':Nat->Bool} {b b' h h' g g':Int} (e:posE z z' wh wh' f f' b b' h h' g g'=true):(∀ i,i<64->z i=z' i)/\wh=wh'/\(∀ i,i<4->f i=f' i)/\b=b':=by
 unfold posE at e;simp only [Bool.and_eq_true,List.all_eq_true,List.mem_range,beq_iff_eq] at e;obtain ⟨e1,e2,e3,e4,_⟩:=e;exact ⟨fun i hi=>UInt8.toNat_inj.1 (Int.ofNat.inj (e1 i hi)),e2,e3,e4⟩
theorem underQ:Tryz.prog.underlying 117=some (.struct (Tryz.prog.fieldsOf 117)):=by kernel_rfl
theorem stoodQ:Tryz.prog.stoodInHeld 117=false:=by kernel_rfl
theorem fieldsQ : (Tryz.prog.fieldsOf 117).toList.map (fun f => (f.name != "_", f.type, f.offset)) = [(true, 70, 0), (true, 3, 72), (true, 3, 73)] := by kernel_rfl
theorem guardQ:Tryz.prog.eqGuardType Tryz.prog.depth 117=false:=by kernel_rfl
theorem part72 (xs:Array Value) (w:World):(part 70 xs 0).run Tryz.prog w=.ok (.agg (xs.extract 0 72)) w:=by
 simp [part,isAgg,run_underlying Tryz.underlying70,sizeOf,typeInfo]
 kernel_rfl
theorem qA_ext {A:Array Value} (h:A.size=72) (d n:Int):(qA A d n).extract 0 72=A:=by
 unfold qA;rw [Array.extract_append];simp [h]
theorem qA_72 {A:Array Value} (h:A.size=72) (d n:Int):(qA A d n)[72]?=some (.int .i64 d)/\(qA A d n)[73]?=some (.int .i64 n):=by
 unfold qA;constructor
 ·rw [Array.getElem?_append_right (by omega),h];rfl
 ·rw [Array.getElem?_append_right (by omega),h];rfl
def qE (E:Bool) (d d' n n':Int):Bool:=E&&((d==d')&&((n==n')&&true))
theorem q_eq {z z':Nat->UInt8} {wh wh':Bool} {f f':Nat->Bool} {b b' h h' g g':Int} {X Y:Array Value} (r:Row z wh f b h g X) (r':Row z' wh' f' b' h' g' Y) (d d' n n':Int) (w:World):(Op.equalIn 10000 117 (.agg (qA X d n)) (.agg (qA Y d' n'))).run Tryz.prog w=.ok (qE (posE z z' wh wh' f f' b b' h h' g g') d d' n n') w:=by
 rw [run_equalIn_struct w 9999 117 _ _ underQ stoodQ];have hf:=fieldsQ;generalize (Tryz.prog.fieldsOf 117).toList=fs at hf ⊢;obtain ⟨f0,gs0,rfl,e0,hf⟩:=List.map_eq_cons_iff.1 hf;obtain ⟨f1,gs1,rfl,e1,hf⟩:=List.map_eq_cons_iff.1 hf;obtain ⟨f2,gs2,rfl,e2,hf⟩:=List.map_eq_cons_iff.1 hf;rw [List.map_eq_nil_iff] at hf;subst hf;simp only [Prod.mk.injEq] at e0 e1 e2;obtain ⟨a0,b0,c0⟩:=e0;obtain ⟨a1,b1,c1⟩:=e1;obtain ⟨a2,b2,c2⟩:=e2;refine eqFields_g (a:=.agg X) (b:=.agg Y) a0 (by rw [b0,c0,part72,qA_ext r.size]) (by rw [b0,c0,part72,qA_ext r'.size]) (by rw [b0];exact pos_eq 9995 r r' w) ?_;refine eqFields_g (a:=.int .i64 d) (b:=.int .i64 d') a1 (by rw [b1,c1];exact run_part_plain w plain3 (qA_72 r.size d n).1) (by rw [b1,c1];exact run_part_plain w plain3 (qA_72 r'.size d' n').1) (by rw [b1];exact eqInt 9998 d d' w) ?_;refine eqFields_g (a:=.int .i64 n) (b:=.int .i64 n') a2 (by rw [b2,c2];exact run_part_plain w plain3 (qA_72 r.size d n).2) (by rw [b2,c2];exact run_part_plain w plain3 (qA_72 r'.size d' n').2) (by rw [b2];exact eqInt 9998 n n' w) ?_;simp [Op.eqFields]
theorem wpList_neq_q {ops:Array Oper} {rest:List Oper} {o:Oper} {a:Act} {w:World} {X Y:Array Value} {E:Bool} {Q:Exit->Act->World->Prop} (hg:o.guard=none) (x y:Operand) (ho:o.op=.binOp .neq 117 x y 117) (hx:a.eval x=.agg X) (hy:a.eval y=.agg Y)
  (hs:∀ w:World,(Op.equalIn 10000 117 (.agg X) (.agg Y)).run Tryz.prog w=.ok E w) (h:wpList Tryz.prog ops Q rest (a.put o.dst (.bool (!E))) w):wpList Tryz.prog ops Q (o :: rest) a w :=
 wpList_plain hg fun K hK=>by
  unfold Oper.wp execOp;simp only [ho,hx,hy,Sem.run_bind,Sem.run_pure,Result.andThen_ok,run_eqGuard_agg _ _ _ _ _ _ _ guardQ,run_neq_struct,hs];exact hK _ _ h
end Go.Proofs.YtnfakamfmkhlbabGreatDoor.C
namespace Go.Proofs.YtnfakamfmkhlbabGreatDoor.C
open Go.ChangeShapes Go.WideShapes Go.ChangeAt Go.RowKit Go.Shelf
open Go.Proofs.YtnfakamfmkhlbabGreatDoor.P
attribute [local go_sem] setCell_drewN alloc_drewN Oper.semAt_some
structure Mq (g n:Nat) (Q:Array Value) (b2 b3:Nat) (w W:World):Prop where
 m:W.heap[b2]?=some (.cells #[svN g n] 56)
 q:W.heap[b3]?=some (.cells Q 117)
 gr:Gr w W
theorem Mq.next {g n:Nat} {Q:Array Value} {b2 b3:Nat} {w W W':World} (h:Mq g n Q b2 b3 w W) (k:Gr W W'):Mq g n Q b2 b3 w W':=⟨(Below.block k _ (heap_lt h.m)).trans h.m,(Below.block k _ (heap_lt h.q)).trans h.q,Gr.trans h.gr k⟩
theorem Mq.c {g n:Nat} {Q:Array Value} {b2 b3:Nat} {w W:World} (h:Mq g n Q b2 b3 w W):W.cell? ⟨b2,0,none⟩=some (svN g n):=by rw [cells_at h.m];rfl
theorem Mq.rg {g n:Nat} {A:Array Value} {d k:Int} {b2 b3:Nat} {w W:World} (h:Mq g n (qA A d k) b2 b3 w W):W.rangeAt b3 0 A.toList:=fun j v hv=>by
 rw [Nat.zero_add,cells_at h.q];unfold qA;have hj:=(List.getElem?_eq_some_iff.1 hv).1;rw [Array.getElem?_append_left (by simpa using hj),<-Array.getElem?_toList];exact hv
theorem Mq.rq {g n:Nat} {Q:Array Value} {b2 b3:Nat} {w W:World} (h:Mq g n Q b2 b3 w W):W.rangeAt b3 0 Q.toList:=fun j v hv=>by
 rw [Nat.zero_add,cells_at h.q,<-Array.getElem?_toList];exact hv
theorem y_pos2 {ops:Array Oper} {op:Oper} {a:Act} {PA:Array Value} (hz:PA.size=72) {S:World->Prop} (hw:Region.wanted op (yielded ops a.tmps)=true) (x:Operand) (ho:op.op=.load 70 x) (b:Nat) (hx:a.eval x=.pointer (some ⟨b,0,none⟩)) (hS:∀ w,S w->w.rangeAt b 0 PA.toList):YieldsIf Tryz.prog ops S op (.agg PA) a:=by
 have:=yieldsIf_load_mid (P:=Tryz.prog) hw 70 x ho b 0 hx PA.toList _ hS Tryz.underlying70 rfl (by rw [infoP];simp [hz])
 rwa [Array.toArray_toList] at this
theorem placeM_any {z:Nat->UInt8} {wh:Bool} {fc:Nat->Bool} {b h gg:Int} {QA:Array Value} (o:Ok z wh fc b h gg) (r:Row z wh fc b 0 0 QA) (g n:Nat) (hn:0<n) (hn2:n<=4096) (d k:Int) (w:World) :
  Calls Tryz.prog 93 #[.agg #[svN g n],.agg (qA QA d k)] w fun e w'=>e=.returned (.int .i64 (((keyS z wh fc b).toNat%n:Nat):Int))/\Gr w w':=by
 have hz:=r.size;have hkey:=hide (fun W=>keyOf_any r o.lay o.b0 o.b1 W);obtain ⟨x1,x2⟩:=heapTwo w (.cells #[svN g n] 56) (.cells (qA QA d k) 117);have hg0:Gr w ((w.alloc (.cells #[svN g n] 56)).alloc (.cells (qA QA d k) 117)):=((Gr.refl w).alloc _ _).alloc _ _;have hU:U (keyS z wh fc b)=(((keyS z wh fc b).toNat:Nat):Int):=rfl;have hlt:(keyS z wh fc b).toNat<18446744073709551616:=(keyS z wh fc b).isLt;rw [hU] at hkey;generalize (keyS z wh fc b).toNat=kv at hkey hlt ⊢;clear hU o r;have hnz:((n:Int)==0)=false:=by rw [beq_eq_false_iff_ne];omega
 have hnz2:¬ ((n:Int)=0):=by omega
 have ew:IntKind.u64.wrap ((n:Nat):Int)=(n:Int):=by rw [IntKind.wrap_u64];omega
 have er:(kv:Int).tmod (n:Int)=((kv%n:Nat):Int):=by rw [Int.tmod_eq_emod_of_nonneg (by omega)];omega
 have em:kv%n<n:=Nat.mod_lt _ hn;have ei:IntKind.i64.wrap ((kv%n:Nat):Int)=((kv%n:Nat):Int):=by rw [IntKind.wrap_i64];omega
 have eu:IntKind.u64.wrap ((kv%n:Nat):Int)=((kv%n:Nat):Int):=by rw [IntKind.wrap_u64];omega
 generalize kv%n=pl at er em ei eu ⊢;go_enter Tryz.func93,Tryz.ntmps93;go_upto_region 1 with fail;show Code.wp _ _ _ _ ((w.alloc (.cells #[svN g n] 56)).alloc (.cells (qA QA d k) 117));generalize ((w.alloc (.cells #[svN g n] 56)).alloc (.cells (qA QA d k) 117))=w0 at x1 x2 hg0 ⊢;have hS0:Mq g n (qA QA d k) w.heap.size (w.heap.size+1) w w0.drew:=⟨x1,x2,hg0.drew⟩;refine wp_region_held_drew (S:=Mq g n (qA QA d k) w.heap.size (w.heap.size+1) w) (by kernel_rfl) hS0 (fun hHeld=>?_);clear hS0 x1 x2 hg0;refine C.tq 0 (.pointer (some ⟨w.heap.size+1,0,none⟩)) hHeld ?_;refine C.ty 1 (.agg QA) rfl (y_pos2 hz (by rfl) _ rfl (w.heap.size+1) rfl (fun _ h=>h.rg)) hHeld ?_;refine C.tq 3 (.pointer (some ⟨w.heap.size,0,none⟩)) hHeld ?_;refine C.ty 4 (svN g n) rfl (Or.inl ⟨by rfl,fun w' hw=>(by have c0:=hw.c;go_simp)⟩) hHeld ?_;unfold svN;refine C.tq 5 (.int .i64 (n:Int)) hHeld ?_;refine C.ty 6 (.int .u64 (n:Int)) rfl (Or.inl ⟨by rfl,fun w' hw=>(by go_simp;try exact ew)⟩) hHeld ?_;refine C.rd 2 fun K hK=>?_
 go_simp;refine (unhide hkey _).mono ?_;rintro e wa ⟨rfl,hga⟩;refine hK.out _ _ (hHeld.next hga) (fun hHeld=>?_);clear hK K
 try simp only [C.py]
 refine C.ty 7 (.int .u64 (pl:Int)) rfl (Or.inl ⟨by rfl,fun w' hw=>(by go_simp;try first|done|exact er|(rw [er];exact eu)|omega)⟩) hHeld ?_;refine C.ty 8 (.int .i64 (pl:Int)) rfl (Or.inl ⟨by rfl,fun w' hw=>(by go_simp;try exact ei)⟩) hHeld ?_;refine C.rd 9 fun K hK=>?_
 go_simp;refine hK.out _ _ hHeld (fun hHeld=>?_);clear hK K
 try simp only [C.py]
 refine wpAnyH_done (by kernel_rfl) ?_ _;have hgf:=hHeld.gr;clear hHeld;go_wp2_with fail;go_ret;exact ⟨rfl,hgf⟩
end Go.Proofs.YtnfakamfmkhlbabGreatDoor.C
