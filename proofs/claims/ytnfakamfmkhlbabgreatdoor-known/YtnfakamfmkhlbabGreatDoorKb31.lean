import Derived.Test.YtnfakamfmkhlbabGreatDoorKb30
import Derived.Test.YtnfakamfmkhlbabGreatDoorKb29
import Derived.Conc.MuLone
import Derived.Test.YtnfakamfmkhlbabGreatDoorKb25
import Derived.Test.YtnfakamfmkhlbabGreatDoorKb23
import Derived.Test.YtnfakamfmkhlbabGreatDoorKb26
import Derived.Test.YtnfakamfmkhlbabGreatDoorKb13
import Derived.Test.YtnfakamfmkhlbabGreatDoorKb12
import Derived.Test.YtnfakamfmkhlbabGreatDoorKb4
import Derived.Deep.QuietTactic
import Derived.BigQuiet
import Derived.Deep.RegionHeld3
import Derived.Test.YtnfakamfmkhlbabGreatDoorKz2
import Derived.Test.YtnfakamfmkhlbabGreatDoorKz3
set_option maxRecDepth 100000
set_option maxHeartbeats 4000000
set_option linter.unusedSimpArgs false
namespace Go.Proofs.YtnfakamfmkhlbabGreatDoor.C
open Go.ChangeShapes Go.WideShapes Go.ChangeAt Go.RowKit Go.Shelf Go.MuLone
open Go.Proofs.YtnfakamfmkhlbabGreatDoor.P
attribute [local go_sem] setCell_drewN alloc_drewN Oper.semAt_some
def MemA (g n:Nat) (W:World):Prop:=if n=0 then (∃ S fr,W.heap[g]?=some (.cells S 168 fr)) else MemS g n W
theorem memA (g n:Nat) (hn:n<=4096):MemI g n (MemA g n):=by
 by_cases h:n=0
 ·subst h;exact mem0 g
 ·have:MemA g n=MemS g n:=by funext W;unfold MemA;rw [if_neg h]
  rw [this];exact memN g n (by omega) hn
def cacA (v:Int) (g n:Nat):Array Value:=#[.int .i32 v,.int .u32 0,svN g n]
structure CacI (bc g n:Nat) (W:World):Prop where
 c:W.heap[bc]?=some (.cells (cacA 0 g n) 66)
 m:MemA g n W
 aw:Away g
 ne:bc≠g
 le:n<=4096
theorem CacI.fx {bc g n k:Nat} {W W':World} (h:CacI bc g n W) (f:Fx k W W') (h1:bc≠k) (h2:g≠k):CacI bc g n W' :=
 ⟨f.at h.c h1,(memA g n h.le).st _ _ h.m (Fr.mono f fun q _ _ e=>by rw [e];exact h2),h.aw,h.ne,h.le⟩
theorem CacI.gr {bc g n:Nat} {W W':World} (h:CacI bc g n W) (k:Gr W W'):CacI bc g n W' :=
 ⟨(Below.block k _ (heap_lt h.c)).trans h.c,(memA g n h.le).st _ _ h.m (Fr.of_gr k),h.aw,h.ne,h.le⟩
theorem madeC_get {z:Array Value} (hz:z.size=75) {n i j:Nat} (hi:i<n) (hj:j<75):(madeCells z (n*75))[i*75+j]?=z[j]?:=by
 unfold madeCells
 have hlt:i*75+j<n*75:=by
  have:(i+1)*75<=n*75:=Nat.mul_le_mul_right 75 hi;omega
 rw [Array.getElem?_map,Array.getElem?_range,if_pos hlt];simp only [Option.map_some];rw [hz,show (i*75+j)%75=j by omega,Array.getElem?_eq_getElem (by omega),getElem!_pos z j (by omega)]
theorem zero_take:Tryz.zeroCells70.toList.take 64=List.replicate 64 (.int .u8 0):=by kernel_rfl
theorem zero65:Tryz.zeroCells70[65]?=some (.bool false):=by kernel_rfl
theorem zero66:Tryz.zeroCells70[66]?=some (.bool false):=by kernel_rfl
theorem zero67:Tryz.zeroCells70[67]?=some (.bool false):=by kernel_rfl
theorem zero68:Tryz.zeroCells70[68]?=some (.bool false):=by kernel_rfl
theorem zero_row:Row (fun _=>0) false (fun _=>false) 0 0 0 Tryz.zeroCells70:=by
 refine ⟨zeroP,fun i hi=>?_,by kernel_rfl,fun i hi=>?_,by kernel_rfl,by kernel_rfl,by kernel_rfl⟩
 ·rw [<-Array.getElem?_toList,<-List.getElem?_take_of_lt hi,zero_take,List.getElem?_replicate,if_pos hi];rfl
 ·have:i=0\/i=1\/i=2\/i=3:=by omega
  rcases this with rfl|rfl|rfl|rfl
  ·exact zero65
  ·exact zero66
  ·exact zero67
  ·exact zero68
theorem no_zero {h g:Int}:¬ Ok (fun _=>0) false (fun _=>false) 0 h g:=fun o=>by
 have:=o.lay;have h0:layOk (fun _=>(0:UInt8))=false:=by decide +kernel
 rw [h0] at this;cases this
theorem zeroS_is:Tryz.zeroCells168=slotA (qA Tryz.zeroCells70 0 0) 0:=by kernel_rfl
theorem new_slots {g n:Nat} {W:World} {base:Nat} (h:W.ownsRow base 168 75 (svN g n) n (madeCells Tryz.zeroCells168 (n*75)).toList):MemA g n W:=by
 unfold MemA;by_cases hn:n=0
 ·subst hn;rw [if_pos rfl];exact own_ob h
 ·rw [if_neg hn];rcases h.2 with ⟨e,_⟩|⟨g',cap,cur,hv,_,hg,_,_,hcs,htk⟩
  ·cases e
  ·injection hv with hv _ hcap;injection hv with hv;injection hv with hv _ _;subst hv hcap;rw [List.take_of_length_le (by rw [Array.length_toList,hcs];exact Nat.le_refl _)] at htk;have hcur:cur=madeCells Tryz.zeroCells168 (n*75):=Array.toList_inj.1 htk;refine ⟨cur,hg,hcs,fun i hi=>⟨fun _=>0,false,fun _=>false,0,_,0,0,0,zero_row,fun _ _=>rfl,fun _ _=>rfl,fun j hj=>?_,fun h g o=>(no_zero o).elim⟩⟩;rw [hcur,madeC_get zeroS hi hj,zeroS_is]
theorem built_cac (g n:Nat):Tryz.prog.built 66 [(1,.agg #[svN g n])]=some (cacA 0 g n):=by kernel_rfl
theorem newC_any (n:Nat) (hn:n<=4096) (w:World) (hw:Wt w):Calls Tryz.prog 9 #[.int .i64 (n:Int)] w fun e w'=>(∃ bc g,e=.returned (.tuple #[.pointer (some ⟨bc,0,none⟩),.int .i64 0])/\CacI bc g n w'/\w.heap.size<=bc/\w.heap.size<=g)/\Gr w w':=by
 have hmk:=hide (newM_any n hn w);have h0:¬ (n:Int)<0:=by omega
 have h1:¬ (4096:Int)<(n:Int):=by omega
 go_enter Tryz.func9,Tryz.ntmps9
 go_wp2_with (first
  | (go_at_call 20;refine (unhide hmk).mono ?_;rintro e w1 ⟨rfl,hown,hg1⟩)
  | (refine wpList_built rfl 66 #[(1,.tmp 11)] rfl (cacA 0 (w.heap.size+1) n) ?_ ?_;focus (first|(go_simp;exact built_cac _ n)|(simp;exact built_cac _ n))))
 go_ret2;have hg2:Gr w1 (w1.alloc (.cells (cacA 0 (w.heap.size+1) n) 66)):=(Gr.refl w1).alloc _ _;have hm:=new_slots hown
 have hlt:w.heap.size+1<w1.heap.size:=by
  obtain ⟨S,fr,e⟩:=(memA _ n hn).ob _ hm;exact heap_lt' e
 exact ⟨⟨w1.heap.size,w.heap.size+1,rfl,⟨heap_alloc_new w1 _,(memA _ n hn).st _ _ hm (Fr.of_gr hg2),hw.lt (by omega),by omega,hn⟩,Below.size hg1,by omega⟩,Gr.trans hg1 hg2⟩
theorem leaves_same {P:Program} {fn:Func} {t1 t2:Array Value} {R:Ending->World->Prop} (h:∀ w,(results fn t1).run P w=(results fn t2).run P w):∀ (ds:List Deferred) (u:FrameMode) (w:World),Leaves P fn t1 R ds u w->Leaves P fn t2 R ds u w
 | [],.returning,w,⟨v,e,r⟩=>⟨v,(h w)▸e,r⟩
 | [],.panicking _,_,r=>r
 | [],.run,_,r=>r
 | _ :: ds,_,_,⟨hu,fv,cap,f,args,e1,e2,hc⟩=>⟨hu,fv,cap,f,args,e1,e2,hc.mono (fun e u' w' r=>by
   cases e with
   | returned _=>exact leaves_same h ds _ _ r
   | panicked _=>exact leaves_same h ds _ _ r
   | outgrown=>exact r)⟩
theorem leaves_put {i:Nat} {v:Value} {b:Act} {R:Ending->World->Prop} {u:FrameMode} {w:World} (h8:i≠8) (h9:i≠9) (h:Leaves Tryz.prog Tryz.f10 (b.put (some i) v).tmps R (b.put (some i) v).defers u w):Leaves Tryz.prog Tryz.f10 b.tmps R b.defers u w:=by
 refine leaves_same (fun w'=>?_) _ _ _ h;rw [results_tmp2 Tryz.results10 (b.put (some i) v).tmps Tryz.prog w',results_tmp2 Tryz.results10 b.tmps Tryz.prog w'];simp [Act.put,Array.getD_eq_getD_getElem?,h8,h9]
def PrfEnd (s:ByteArray) (D wn:Int) (e:Ending):Prop :=
 (∃ k,TocBad s D 0 wn k/\e=.returned (.tuple #[.int .u64 0,.int .i64 k])) ∨
 (∃ p,∃ m:Nat,readS s=some p/\posCan p=true/\D=(m:Int)/\m<=3/\(wn=1\/wn=2)/\e=.returned (.tuple #[.int .u64 ((pathsN m (posZ p) p.white (fcN p.castle) p.behind:Nat):Int),.int .i64 0]))
structure Pfq (bc g n b1:Nat) (A:Array Value) (b2 ga gm:Nat) (w W:World):Prop where
 c:W.heap[bc]?=some (.cells (cacA 1 g n) 66)
 p:W.heap[b1]?=some (.cells A 70)
 m:W.heap[b2]?=some (.cells (wayA ga gm) 74)
 i:MemA g n W
 wt:Wt W
 fr:Fr (fun k _=>k≠g/\k≠bc) w W
theorem Pfq.next {bc g n b1:Nat} {A:Array Value} {b2 ga gm:Nat} {w W W':World} (h:Pfq bc g n b1 A b2 ga gm w W) (f:Fx g W W') (a:Away g) (h1:bc≠g) (h2:b1≠g) (h3:b2≠g) (hi:MemA g n W'):Pfq bc g n b1 A b2 ga gm w W' :=
 ⟨f.at h.c h1,f.at h.p h2,f.at h.m h3,hi,h.wt.fx a f,Fr.trans h.fr (Fr.mono f fun _ _ _ q=>q.1)⟩
theorem Pfq.c0 {bc g n b1:Nat} {A:Array Value} {b2 ga gm:Nat} {w W:World} (h:Pfq bc g n b1 A b2 ga gm w W):W.cell? ⟨b2,0,none⟩=some (.func (.func ga) #[] #[]):=by rw [cells_at h.m];rfl
theorem Pfq.c1 {bc g n b1:Nat} {A:Array Value} {b2 ga gm:Nat} {w W:World} (h:Pfq bc g n b1 A b2 ga gm w W):W.cell? ⟨b2,1,none⟩=some (.func (.func gm) #[] #[]):=by rw [cells_at h.m];rfl
theorem Pfq.c2 {bc g n b1:Nat} {A:Array Value} {b2 ga gm:Nat} {w W:World} (h:Pfq bc g n b1 A b2 ga gm w W):W.cell? ⟨bc,2,none⟩=some (svN g n):=by rw [cells_at h.c];rfl
theorem perft_any (bc g n:Nat) (s:ByteArray) (hs:s.size<4294967281) (D wn:Int) (m:Int) (w:World) (hc:Ct m w) (htb:Tabs w) (hC:CacI bc g n w) (hbw:Away bc) :
  Calls Tryz.prog 10 #[.pointer (some ⟨bc,0,none⟩),.string s,.int .i64 D,.int .i64 wn] w fun e w'=>PrfEnd s D wn e/\Fx g w w'/\CacI bc g n w':=by
 have h1:Hid (Calls Tryz.prog 21 #[.string s,.int .i64 D,.int .i64 0,.int .i64 wn] w fun e w'=>TocEnd s D 0 wn e/\Gr w w'):=hide (toCount_any s hs D 0 wn m w hc);rcases toc_split s D 0 wn with ⟨k,hk,hbad,hone⟩|⟨p,ga,gm,gi,hr,hcan,hd,hway,hone⟩
 ·have h2:Hid (Calls Tryz.prog 21 #[.string s,.int .i64 D,.int .i64 0,.int .i64 wn] w fun e w'=>e=.returned (.tuple #[.agg Tryz.zeroCells70,.agg nilW,.int .i64 k])/\Gr w w'):=hide ((unhide h1).mono fun e w' h=>⟨hone e h.1,h.2⟩);have hend:Hid (PrfEnd s D wn (.returned (.tuple #[.int .u64 0,.int .i64 k]))):=hide (.inl ⟨k,hbad,rfl⟩);have hfin:Hid (∀ W,Gr w W->Fx g w W/\CacI bc g n W):=hide fun W q=>⟨Fx.of q,hC.gr q⟩
  have k2:(k != 0)=true:=by rw [bne_iff_ne];exact hk
  clear h1 hone hbad hk hs hc htb hC;go_enter_defers Tryz.func10,Tryz.ntmps10
  go_upto_region 2 with (first
   | (go_at_call 21;refine (unhide h2).mono ?_;rintro e w3 ⟨rfl,hg3⟩;obtain ⟨x1,x2⟩:=heapTwo w3 (.cells Tryz.zeroCells70 70) (.cells nilW 74))
   | (refine wpList_store_row rfl 70 _ _ rfl w3.heap.size Tryz.zeroCells70 rfl rfl 70 Tryz.zeroCells70 x1 (by rw [zeroP];exact infoP) rfl zeroP_ones ?_)
   | (refine wpList_store_row rfl 74 _ _ rfl (w3.heap.size+1) nilW rfl rfl 74 nilW (by rw [setRow_other _ _ _ _ (by omega)];exact x2) infoW rfl nilW_ones ?_))
  have hg4:Gr w ((((w3.alloc (.cells Tryz.zeroCells70 70)).alloc (.cells nilW 74)).setRow w3.heap.size Tryz.zeroCells70).setRow (w3.heap.size+1) nilW):=Gr.trans hg3 (((((Gr.refl w3).alloc _ _).alloc _ _).setRow _ (Nat.le_refl _) _).setRow _ (by omega) _);show Code.wp _ _ _ _ ((((w3.alloc (.cells Tryz.zeroCells70 70)).alloc (.cells nilW 74)).setRow w3.heap.size Tryz.zeroCells70).setRow (w3.heap.size+1) nilW);generalize ((((w3.alloc (.cells Tryz.zeroCells70 70)).alloc (.cells nilW 74)).setRow w3.heap.size Tryz.zeroCells70).setRow (w3.heap.size+1) nilW)=w4 at hg4 ⊢;clear hg3 h2 x1 x2;go_wp2_with fail;exact ⟨.tuple #[.int .u64 0,.int .i64 k],results_tmp2 Tryz.results10 _ _ _,unhide hend,unhide hfin _ hg4⟩
 ·have h2:Hid (Calls Tryz.prog 21 #[.string s,.int .i64 D,.int .i64 0,.int .i64 wn] w fun e w'=>e=.returned (.tuple #[.agg (posV p),.agg (wayA ga gm),.int .i64 0])/\Gr w w'):=hide ((unhide h1).mono fun e w' h=>⟨hone e h.1,h.2⟩);have hrow:=row_read hr;have hz:=hrow.size;have ho:=hide (row_ones hrow);have o:=Ok.of hr hcan;have r:=row_fcN hrow;obtain ⟨dd,hdd⟩:∃ dd:Nat,D=(dd:Int):=⟨D.toNat,by omega⟩;have hd2:dd<=3:=by omega
  have hend:Hid (PrfEnd s D wn (.returned (.tuple #[.int .u64 ((pathsN dd (posZ p) p.white (fcN p.castle) p.behind:Nat):Int),.int .i64 0]))):=hide (.inr ⟨p,dd,hr,hcan,hdd,hd2,way_is hway,rfl⟩)
  have hpa:Hid (∀ W,MemA g n W->Wt W->Calls Tryz.prog 25 #[.agg (ctrA ga gm wn g n),.agg (posV p),.int .i64 D] W fun e w'=>e=.returned (.int .u64 ((pathsN dd (posZ p) p.white (fcN p.castle) p.behind:Nat):Int))/\Fx g W w'/\MemA g n w'):=hide fun W hi hw=>by
   rw [hdd];exact paths_any (memA g n hC.le) hC.aw hway dd hd2 o r W hi hw
  have hwt:=hide (tabs_wt hc htb);generalize pathsN dd (posZ p) p.white (fcN p.castle) p.behind=R at hend hpa;generalize posV p=A at h2 hz ho hpa
  have hgl:g<w.heap.size:=by
   obtain ⟨S,fr,e⟩:=(memA g n hC.le).ob _ hC.m;exact heap_lt' e
  have hbl:=heap_lt hC.c;have hCc:=hide hC.c;have haw:=hC.aw;have hne:=hC.ne;have hle:=hC.le;have hm:=hide hC.m;clear h1 hone hrow hr hcan hs hc htb o r hdd hd2 hd hway hC;go_enter_defers Tryz.func10,Tryz.ntmps10
  go_upto_region 2 with (first
   | (go_at_call 21;refine (unhide h2).mono ?_;rintro e w3 ⟨rfl,hg3⟩;obtain ⟨x1,x2⟩:=heapTwo w3 (.cells Tryz.zeroCells70 70) (.cells nilW 74))
   | (refine wpList_store_row rfl 70 _ _ rfl w3.heap.size A rfl rfl 70 Tryz.zeroCells70 x1 (by rw [hz];exact infoP) (by rw [hz];exact zeroP) (unhide ho) ?_)
   | (refine wpList_store_row rfl 74 _ _ rfl (w3.heap.size+1) (wayA ga gm) rfl rfl 74 nilW (by rw [setRow_other _ _ _ _ (by omega)];exact x2) infoW rfl (wayA_ones _ _) ?_))
  have hg4:Gr w ((((w3.alloc (.cells Tryz.zeroCells70 70)).alloc (.cells nilW 74)).setRow w3.heap.size A).setRow (w3.heap.size+1) (wayA ga gm)):=Gr.trans hg3 (((((Gr.refl w3).alloc _ _).alloc _ _).setRow _ (Nat.le_refl _) _).setRow _ (by omega) _);have hp4:((((w3.alloc (.cells Tryz.zeroCells70 70)).alloc (.cells nilW 74)).setRow w3.heap.size A).setRow (w3.heap.size+1) (wayA ga gm)).heap[w3.heap.size]?=some (.cells A 70):=by rw [setRow_other _ _ _ _ (by omega)];exact setRow_heap _ _ _ _ _ _ x1
  have hm4:((((w3.alloc (.cells Tryz.zeroCells70 70)).alloc (.cells nilW 74)).setRow w3.heap.size A).setRow (w3.heap.size+1) (wayA ga gm)).heap[w3.heap.size+1]?=some (.cells (wayA ga gm) 74):=setRow_heap _ _ _ _ _ _ (by rw [setRow_other _ _ _ _ (by omega)];exact x2);show Code.wp _ _ _ _ ((((w3.alloc (.cells Tryz.zeroCells70 70)).alloc (.cells nilW 74)).setRow w3.heap.size A).setRow (w3.heap.size+1) (wayA ga gm));generalize ((((w3.alloc (.cells Tryz.zeroCells70 70)).alloc (.cells nilW 74)).setRow w3.heap.size A).setRow (w3.heap.size+1) (wayA ga gm))=w4 at hg4 hp4 hm4 ⊢;have hb1w:=Below.size hg3;generalize w3.heap.size=b1 at hp4 hm4 hb1w ⊢;clear hg3 h2 x1 x2 ho;have hc4:=(Below.block hg4 _ hbl).trans (unhide hCc);have l0:w4.cell? ⟨bc,0,none⟩=some (.int .i32 0):=by rw [cells_at hc4];rfl
  have lf:w4.frozen? ⟨bc,0,none⟩=false:=row_open hc4;have fs:Fr (fun k _=>k≠bc) w4 (w4.setCell ⟨bc,0,none⟩ (.int .i32 1)):=(Fr.refl _ _).setCell _ (fun _ _ q=>q rfl);have hS0:Pfq bc g n b1 A (b1+1) ga gm w (w4.setCell ⟨bc,0,none⟩ (.int .i32 1)).drew:=⟨set_row3 hc4,fs.same _ _ hp4 (by omega),fs.same _ _ hm4 (by omega),(memA g n hle).st _ _ (unhide hm) (Fr.trans (Fr.of_gr hg4) (Fr.drew (fs.mono fun q _ _ e=>by omega))),(unhide hwt).gr hg4 |>.fx hbw (Fr.drew fs),Fr.trans (Fr.of_gr hg4) (Fr.drew (fs.mono fun q _ _ e=>e.2))⟩;clear fs hp4 hm4 hg4 hwt hm;go_upto_region 6 with (go_at_call 22;refine (lock_free muLibZ ⟨bc,0,none⟩ _ l0 lf).mono ?_;rintro e w5 ⟨rfl,rfl⟩);refine wp_region_held_drew (S:=Pfq bc g n b1 A (b1+1) ga gm w) (by kernel_rfl) hS0 (fun hHeld=>?_);clear hS0 l0 lf hc4;have hb1g:b1≠g:=by omega
  have hb2g:b1+1≠g:=by omega
  refine wpAnyH_take (i:=0) (v:=.agg (wayA ga gm)) rfl (by kernel_rfl) (by kernel_rfl) (by kernel_rfl) (fun _ _ _ h=>leaves_put (i:=31) (by decide) (by decide) h) (Or.inl ⟨by rfl,fun w' hw=>(by have c0:=hw.c0;have c1:=hw.c1;go_simp;rfl)⟩) hHeld ?_;simp only [C.py];refine wpAnyH_take (i:=1) (v:=.int .i64 wn) rfl (by kernel_rfl) (by kernel_rfl) (by kernel_rfl) (fun _ _ _ h=>leaves_put (i:=32) (by decide) (by decide) h) (Or.inl ⟨by rfl,fun w' hw=>(by go_simp)⟩) hHeld ?_;simp only [C.py];refine wpAnyH_take (i:=2) (v:=.pointer (some ⟨bc,0,none⟩)) rfl (by kernel_rfl) (by kernel_rfl) (by kernel_rfl) (fun _ _ _ h=>leaves_put (i:=33) (by decide) (by decide) h) (Or.inl ⟨by rfl,fun w' hw=>(by go_simp)⟩) hHeld ?_;simp only [C.py];refine wpAnyH_take (i:=3) (v:=.pointer (some ⟨bc,0,none⟩)) rfl (by kernel_rfl) (by kernel_rfl) (by kernel_rfl) (fun _ _ _ h=>leaves_put (i:=34) (by decide) (by decide) h) (Or.inl ⟨by rfl,fun w' hw=>(by go_simp)⟩) hHeld ?_;simp only [C.py];refine wpAnyH_take (i:=4) (v:=.pointer (some ⟨bc,2,none⟩)) rfl (by kernel_rfl) (by kernel_rfl) (by kernel_rfl) (fun _ _ _ h=>leaves_put (i:=35) (by decide) (by decide) h) (Or.inl ⟨by rfl,fun w' hw=>(by go_simp)⟩) hHeld ?_;simp only [C.py];refine wpAnyH_take (i:=5) (v:=.agg #[svN g n]) rfl (by kernel_rfl) (by kernel_rfl) (by kernel_rfl) (fun _ _ _ h=>leaves_put (i:=36) (by decide) (by decide) h) (Or.inl ⟨by rfl,fun w' hw=>(by have c0:=hw.c2;go_simp)⟩) hHeld ?_;simp only [C.py];refine wpAnyH_take (i:=7) (v:=.agg A) rfl (by kernel_rfl) (by kernel_rfl) (by kernel_rfl) (fun _ _ _ h=>leaves_put (i:=38) (by decide) (by decide) h) (y_pos hz (by rfl) _ rfl b1 rfl (fun _ h=>rowAt_of h.p)) hHeld ?_;simp only [C.py];refine wpAnyH_take (i:=8) (v:=.int .i64 D) rfl (by kernel_rfl) (by kernel_rfl) (by kernel_rfl) (fun _ _ _ h=>leaves_put (i:=39) (by decide) (by decide) h) (Or.inl ⟨by rfl,fun w' hw=>(by go_simp)⟩) hHeld ?_;simp only [C.py];refine C.rd 6 fun K hK=>?_
  go_simp;refine (by_any ga gm wn g n _).mono ?_;rintro e wb ⟨rfl,hgb⟩;refine hK.out _ _ (hHeld.next (Fx.of hgb) haw hne hb1g hb2g ((memA g n hle).st _ _ hHeld.i (Fr.of_gr hgb))) (fun hHeld=>?_);clear hK K
  try simp only [C.py]
  refine C.rd 9 fun K hK=>?_
  go_simp;refine (unhide hpa _ hHeld.i hHeld.wt).mono ?_;rintro e wc ⟨rfl,hfc,hic⟩;refine hK.out _ _ (hHeld.next hfc haw hne hb1g hb2g hic) (fun hHeld=>?_);clear hK K
  try simp only [C.py]
  refine C.rd 10 fun K hK=>?_
  go_simp;refine hK.out _ _ hHeld (fun hHeld=>?_);clear hK K
  try simp only [C.py]
  refine C.rd 11 fun K hK=>?_
  go_simp;refine hK.out _ _ hHeld (fun hHeld=>?_);clear hK K
  try simp only [C.py]
  refine wpAnyH_done (by kernel_rfl) ?_ _;have l1:wc.cell? ⟨bc,0,none⟩=some (.int .i32 1):=by rw [cells_at hHeld.c];rfl
  have lf1:wc.frozen? ⟨bc,0,none⟩=false:=row_open hHeld.c;have fs:Fr (fun k _=>k≠bc) wc (wc.setCell ⟨bc,0,none⟩ (.int .i32 0)):=(Fr.refl _ _).setCell _ (fun _ _ q=>q rfl);have hc9:(wc.setCell ⟨bc,0,none⟩ (.int .i32 0)).heap[bc]?=some (.cells (cacA 0 g n) 66):=set_row3 hHeld.c
  have hfin:Hid (Fx g w (wc.setCell ⟨bc,0,none⟩ (.int .i32 0))/\CacI bc g n (wc.setCell ⟨bc,0,none⟩ (.int .i32 0))):=hide ⟨⟨fs.os.trans hHeld.fr.os,fs.tape.trans hHeld.fr.tape,fs.output.trans hHeld.fr.output,Nat.le_trans hHeld.fr.size fs.size,fun k o e q=>by
   by_cases hk:k=bc
   ·subst hk;rw [unhide hCc] at e;rw [hc9];exact e
   ·exact fs.same _ _ (hHeld.fr.same k o e ⟨q,hk⟩) hk⟩,hc9,(memA g n hle).st _ _ hHeld.i (fs.mono fun q _ _ e=>by omega),haw,hne,hle⟩
  clear hHeld fs hc9;go_wp2_with fail;refine leaves_cons (f:=23) (args:=#[.pointer (some ⟨bc,0,none⟩)]) (by simp) (by simp [go_sem]) ?_;refine (unlock_deferred muLibZ ⟨bc,0,none⟩ .returning _ l1 lf1).mono ?_;rintro e u' w'' ⟨rfl,rfl,rfl⟩;exact ⟨.tuple #[.int .u64 (R:Int),.int .i64 0],results_tmp2 Tryz.results10 _ _ _,unhide hend,(unhide hfin).1,(unhide hfin).2⟩
end Go.Proofs.YtnfakamfmkhlbabGreatDoor.C
namespace Go.Proofs.YtnfakamfmkhlbabGreatDoor.C
open Go.RowKit
open Go.Proofs.YtnfakamfmkhlbabGreatDoor.P
theorem mem_fc {s:ByteArray} {p:Pos} (hr:readS s=some p) (hc:posCan p=true) {x:Mv} (hx:x∈movS (posZ p) p.white (fcN p.castle) p.behind):x∈movS (posZ p) p.white p.castle p.behind:=by
 obtain ⟨hC,h0,h1⟩:=pos_can hr hc;exact (mov_fc hC (Ok.of hr hc).good h0 h1 (fun i hi=>(fcN_at p.castle hi).symm) x).2 hx
end Go.Proofs.YtnfakamfmkhlbabGreatDoor.C
namespace Go.Proofs.YtnfakamfmkhlbabGreatDoor.C
open Go.ChangeShapes Go.WideShapes Go.ChangeAt Go.RowKit Go.Shelf
open Go.Proofs.YtnfakamfmkhlbabGreatDoor.P
attribute [local go_sem] setCell_drewN alloc_drewN Oper.semAt_some
theorem prf_is {s:ByteArray} {p:Pos} {m:Nat} {wn:Int} {e:Ending} (hr:readS s=some p) (hc:posCan p=true) (hm:m<=3) (hn:wn=1\/wn=2) (h:PrfEnd s (m:Int) wn e):e=.returned (.tuple #[.int .u64 ((pathsN m (posZ p) p.white (fcN p.castle) p.behind:Nat):Int),.int .i64 0]):=by
 rcases h with ⟨k',(a|⟨p,_,_,a,_⟩|⟨p,_,_,_,a,_⟩),rfl⟩|⟨q,m',a,b,e',_,_,rfl⟩
 ·exact (bad_no a hr hc).elim
 ·exact (a ⟨by omega,by omega⟩).elim
 ·exact (a hn).elim
 ·rw [hr] at a;obtain rfl:m=m':=by omega
  rw [<-Option.some.inj a]
theorem div_is {s:ByteArray} {p:Pos} {m:Nat} {wn:Int} {base:Nat} {e:Ending} {w':World} (hr:readS s=some p) (hc:posCan p=true) (hm:m<=2) (hn:wn=1\/wn=2) (h:DivEnd s ((m+1:Nat):Int) wn base e w'):∃ v,e=.returned (.tuple #[v,.int .i64 0])/\Cts base v (divL m (posZ p) p.white (fcN p.castle) p.behind (sortM (movS (posZ p) p.white (fcN p.castle) p.behind))) w':=by
 rcases h with ⟨k',a,rfl⟩|⟨p,_,_,a,_⟩|⟨p,_,_,_,a,_⟩|⟨q,v,m',a,b,e',_,_,rfl,hv⟩
 ·exact (bad_no a hr hc).elim
 ·exact (a ⟨by omega,by omega⟩).elim
 ·exact (a hn).elim
 ·rw [hr] at a;obtain rfl:m=m':=by omega
  rw [<-Option.some.inj a] at hv;exact ⟨v,rfl,hv⟩
theorem ply_is {s:ByteArray} {p:Pos} {x:Mv} {e:Ending} (hr:readS s=some p) (hc:posCan p=true) (hx:x∈movS (posZ p) p.white (fcN p.castle) p.behind) (h:PlayEnd s (str (txt x)) e):e=.returned (.tuple #[.string ⟨(afW p x).toArray⟩,.int .i64 0]):=by
 have hx0:=mem_fc hr hc hx;obtain ⟨f,t,u⟩:=x;obtain ⟨hf,ht,hu,_⟩:=(Ok.of hr hc).mv hx;have hm:mvR (str (txt (f,t,u)))=some (f,t,u):=mv_read hf ht hu;rcases h with ⟨k,_,(a|⟨_,q,_,_,a⟩|⟨_,q,y,a,_,b,c⟩),_⟩|⟨q,y,a,_,b,_,rfl⟩
 ·exact (bad_no a hr hc).elim
 ·rw [hm] at a;cases a
 ·rw [hr] at a;rw [hm] at b;rw [<-Option.some.inj a,<-Option.some.inj b] at c;exact (c hx0).elim
 ·rw [hr] at a;rw [hm] at b;rw [<-Option.some.inj a,<-Option.some.inj b]
end Go.Proofs.YtnfakamfmkhlbabGreatDoor.C
