import Derived.Test.YtnfakamfmkhlbaaGreatDoorZk6
import Derived.Test.YtnfakamfmkhlbaaGreatDoorProg
import Derived.Conc.MuLib
import Derived.KernelRfl
import Derived.Conc.MuLone
import Derived.Test.YtnfakamfmkhlbaaGreatDoorKz2
import Derived.Test.YtnfakamfmkhlbaaGreatDoorKz3
set_option maxRecDepth 100000
set_option maxHeartbeats 4000000
set_option linter.unusedSimpArgs false
namespace Go.Proofs.YtnfakamfmkhlbaaGreatDoor.C
open Go.ChangeShapes Go.WideShapes Go.ChangeAt Go.RowKit Go.Shelf
open Go.Proofs.YtnfakamfmkhlbaaGreatDoor.P
attribute [local go_sem] qd qi Oper.semAt_some
def setsA:Array Value->Nat->List Value->Array Value
 | S,_,[]=>S
 | S,o,v :: r=>setsA (S.setIfInBounds o v) (o+1) r
theorem qt:∀ (vs:List Value) (S:Array Value) (o:Nat),(setsA S o vs).size=S.size
 | [],_,_=>rfl
 | v :: r,S,o=>by rw [setsA,qt r,Array.size_setIfInBounds]
theorem qw:∀ (vs:List Value) (S:Array Value) (o:Nat),o+vs.length<=S.size->∀ i,(setsA S o vs)[i]?=if o<=i/\i<o+vs.length then vs[i-o]? else S[i]?
 | [],S,o,_,i=>by rw [if_neg (by simp only [List.length_nil];omega)];rfl
 | v :: r,S,o,h,i=>by
   simp only [List.length_cons] at h;rw [setsA,qw r _ (o+1) (by rw [Array.size_setIfInBounds];omega)];by_cases h1:o+1<=i/\i<o+1+r.length
   ·rw [if_pos h1,if_pos (by simp only [List.length_cons];omega),show i-o=(i-(o+1))+1 by omega,List.getElem?_cons_succ]
   ·rw [if_neg h1];by_cases h2:i=o
    ·subst h2;rw [if_pos (by simp only [List.length_cons];omega),Nat.sub_self,Array.getElem?_setIfInBounds_self_of_lt (by omega)];rfl
    ·rw [if_neg (by simp only [List.length_cons];omega),Array.getElem?_setIfInBounds_ne (by omega)]
theorem qq (g:Nat) (t:TypeId):∀ (vs:List Value) (o:Nat) (W:World) (S:Array Value),W.heap[g]?=some (.cells S t)->(W.setCells g o vs).heap[g]?=some (.cells (setsA S o vs) t)
 | [],_,_,_,h=>h
 | v :: r,o,W,S,h=>by
   rw [World.setCells,setsA];exact qq g t r (o+1) _ _ (qy h)
theorem xd (g:Nat):∀ (vs:List Value) (o:Nat) (W:World),Fx g W (W.setCells g o vs)
 | [],_,W=>Fx.refl g W
 | v :: r,o,W=>by
   rw [World.setCells];exact Fx.trans ((Fr.refl _ W).setCell v (fun _ _ q=>q rfl)) (xd g r (o+1) _)
theorem builtS (parts:List (Nat × Value)):Tryz.prog.built 291 parts=Instr.fill (fun i=>(#[(0,74),(74,1)]:Array (Nat × Nat))[i]?) Tryz.zeroCells291 parts:=by kernel_rfl
theorem built_s (Q:Array Value) (hQ:Q.size=74) (p:Int):Tryz.prog.built 291 [(0,.agg Q),(1,.int .u64 p)]=some (slotA Q p):=by
 rw [builtS];have p0:=jf 0 Q Tryz.zeroCells291;have p1:=jf 74 #[.int .u64 p] (put 0 Q Tryz.zeroCells291);have z:=zeroS;rw [xh _ _ 0 0 74 _ _ rfl (by simpa [Value.cells] using hQ) (by omega),xh _ _ 1 74 1 _ _ rfl rfl (by simp only [Value.cells];omega)];simp only [Instr.fill,Value.cells,Option.some.injEq];apply Array.ext_getElem?;intro i;rw [p1.2 i (by simp;omega),p0.2 i (by omega)];unfold slotA;rw [Array.getElem?_append,hQ];by_cases h0:i<74
 ·rw [if_neg (by simp;omega),if_pos ⟨by omega,by omega⟩,if_pos h0];simp
 ·by_cases h8:i<75
  ·have:i=74:=by omega
   subst this;simp
  ·rw [if_neg (by simp;omega),if_neg (by omega),if_neg h0,Array.getElem?_eq_none (by omega),Array.getElem?_eq_none (by simp;omega)]
theorem mem_put {n:Nat} {S:Array Value} (hSz:S.size=n*75) (hsl:∀ i,i<n->SlotG S i) {z:Nat->UInt8} {wh:Bool} {fc:Nat->Bool} {b h gg:Int} {QA:Array Value} (o:Ok z wh fc b h gg) (r:Row z wh fc b 0 0 QA) (d:Nat) (k:Int) {pl:Nat} (hp:pl<n):∀ i,i<n->SlotG (setsA S (pl*75) (slotA (qA QA (d:Int) k) ((pathsN d z wh fc b:Nat):Int)).toList) i:=by
 have hs:=qs (qvs r.size (d:Int) k) ((pathsN d z wh fc b:Nat):Int);have hin:pl*75+(slotA (qA QA (d:Int) k) ((pathsN d z wh fc b:Nat):Int)).toList.length<=S.size:=by rw [Array.length_toList,hs,hSz];omega
 intro i hi;by_cases e:i=pl
 ·subst e;refine ⟨z,wh,fc,b,QA,d,k,((pathsN d z wh fc b:Nat):Int),r,o.nz,o.nf,fun j hj=>?_,fun h' g' o' m em _ _=>?_⟩
  ·rw [qw _ _ _ hin,if_pos (by rw [Array.length_toList,hs];omega),Nat.add_sub_cancel_left,Array.getElem?_toList]
  ·have:d=m:=by omega
   rw [this]
 ·obtain ⟨z',wh',fc',b',A,d',way,p,rA,nz,nf,hcs,hok⟩:=hsl i hi;refine ⟨z',wh',fc',b',A,d',way,p,rA,nz,nf,fun j hj=>?_,hok⟩;rw [qw _ _ _ hin,if_neg (by rw [Array.length_toList,hs];omega)];exact hcs j hj
structure Mt (g n:Nat) (Q:Array Value) (sz:Nat) (b2 b3:Nat) (w W:World):Prop where
 m:W.heap[b2]?=some (.cells #[svN g n] 122)
 q:W.heap[b3]?=some (.cells Q 202)
 s:∃ S:Array Value,S.size=sz/\W.heap[g]?=some (.cells S 291)
theorem Mt.c {g n:Nat} {Q:Array Value} {sz b2 b3:Nat} {w W:World} (h:Mt g n Q sz b2 b3 w W):W.cell? ⟨b2,0,none⟩=some (svN g n):=by rw [qm h.m];rfl
theorem Mt.rq {g n:Nat} {Q:Array Value} {sz b2 b3:Nat} {w W:World} (h:Mt g n Q sz b2 b3 w W):W.rangeAt b3 0 Q.toList:=fun j v hv=>by
 rw [Nat.zero_add,qm h.q,<-Array.getElem?_toList];exact hv
theorem zm {z:Nat->UInt8} {wh:Bool} {fc:Nat->Bool} {b h gg:Int} {QA:Array Value} (o:Ok z wh fc b h gg) (r:Row z wh fc b 0 0 QA) (g n:Nat) (hn:0<n) (hn2:n<=4096) (d:Nat) (k:Int) (w:World) (hI:MemS g n w) :
  Calls Tryz.prog 132 #[.agg #[svN g n],.agg (qA QA (d:Int) k),.int .u64 ((pathsN d z wh fc b:Nat):Int)] w fun e w'=>(∃ v,e=.returned v)/\Fx g w w'/\MemS g n w':=by
 obtain ⟨S,hS,hSz,hsl⟩:=hI;have hpl:=hide (fun W=>jcq o r g n hn hn2 (d:Int) k W);have hpm:(keyS z wh fc b).toNat%n<n:=Nat.mod_lt _ hn;generalize (keyS z wh fc b).toNat%n=pl at hpl hpm;have hq74:=qvs r.size (d:Int) k;have hR75:=qs hq74 ((pathsN d z wh fc b:Nat):Int);have hRone:=hide (xk (zt (qz r) (d:Int) k) ((pathsN d z wh fc b:Nat):Int));have hblt:=hide (built_s (qA QA (d:Int) k) hq74 ((pathsN d z wh fc b:Nat):Int));have hnew:=hide (mem_put hSz hsl o r d k hpm);obtain ⟨x1,x2⟩:=heapTwo w (.cells #[svN g n] 122) (.cells (qA QA (d:Int) k) 202);have hg0:Gr w ((w.alloc (.cells #[svN g n] 122)).alloc (.cells (qA QA (d:Int) k) 202)):=((Gr.refl w).alloc _ _).alloc _ _;have hS0:=(Below.block hg0 _ (xg hS)).trans hS;have hgl:=xg hS;generalize ((pathsN d z wh fc b:Nat):Int)=P at hR75 hRone hblt hnew ⊢;generalize qA QA (d:Int) k=Q at hpl hq74 hR75 hRone hblt hnew x1 x2 hg0 hS0 ⊢;generalize slotA Q P=RR at hR75 hRone hblt hnew;clear o r hsl hS;have hnz:(0:Int)<(n:Int):=by omega
 have hp0:(0:Int)<=(pl:Int):=by omega
 have hpn:(pl:Int)<(n:Int):=by omega
 go_enter Tryz.func132,Tryz.ntmps132;go_upto_region 1 with fail;show Code.wp _ _ _ _ ((w.alloc (.cells #[svN g n] 122)).alloc (.cells Q 202));generalize ((w.alloc (.cells #[svN g n] 122)).alloc (.cells Q 202))=w0 at x1 x2 hg0 hS0 ⊢;have c0:w0.cell? ⟨w.heap.size,0,none⟩=some (.slice (some ⟨g,0,none⟩) n n):=by rw [qm x1];rfl
 go_upto_region 2 with fail;have hM0:Mt g n Q S.size w.heap.size (w.heap.size+1) w w0.drew:=⟨x1,x2,⟨S,rfl,hS0⟩⟩;refine wp_region_held_drew (S:=Mt g n Q S.size w.heap.size (w.heap.size+1) w) (by kernel_rfl) hM0 (fun hHeld=>?_);have hMs:Ms g n Q S w.heap.size (w.heap.size+1) w w0.drew:=⟨⟨x1,x2,hg0.drew⟩,hS0⟩;clear hM0 x1 x2 hg0 hS0 c0;refine C.tq 0 (.pointer (some ⟨w.heap.size,0,none⟩)) hHeld ?_;refine C.ty 1 (.slice (some ⟨g,0,none⟩) n n) rfl (Or.inl ⟨by rfl,fun w' hw=>(by have c0:=hw.c;unfold svN at c0;go_simp)⟩) hHeld ?_;refine C.ty 2 (.agg #[svN g n]) rfl (Or.inl ⟨by rfl,fun w' hw=>(by have c0:=hw.c;go_simp)⟩) hHeld ?_;refine C.ty 3 (.agg Q) rfl (y_q hq74 (by rfl) _ rfl (w.heap.size+1) rfl (fun _ h=>h.rq)) hHeld ?_;refine C.ty 5 (.agg Q) rfl (y_q hq74 (by rfl) _ rfl (w.heap.size+1) rfl (fun _ h=>h.rq)) hHeld ?_;refine C.tq 6 (.int .u64 P) hHeld ?_;refine C.ty 7 (.agg RR) rfl (qvg (by rfl) 291 #[(0,.tmp 15),(1,.tmp 16)] rfl RR (by simp;exact qa hblt)) hHeld ?_;refine C.rd 4 fun K hK=>?_
 go_simp;refine (qa hpl _).mono ?_;rintro e wa ⟨rfl,hga⟩;have hMa:=hMs.next hga;refine hK.out _ _ ⟨hMa.mq.m,hMa.mq.q,⟨S,rfl,hMa.s⟩⟩ (fun hHeld=>?_);clear hK K
 try simp only [C.py]
 refine C.tq 8 (.pointer (some ⟨g,pl*75,none⟩)) hHeld ?_;refine C.rd 9 fun K hK=>?_
 rw [if_pos (by rfl)]
 have hth:wa.there g (pl*75) RR.size:=fun j hj=>by
  rw [hR75] at hj;refine ⟨?_,xy hMa.s⟩;rw [qm hMa.s,Array.getElem?_eq_getElem (by omega)];rfl
 refine wp_store_mid 291 _ _ rfl g (pl*75) RR rfl rfl hth (by rw [hR75];exact infoS75) (qa hRone) ?_;have hfx:=xd g RR.toList (pl*75) wa;have hs9:=qq g 291 RR.toList (pl*75) wa S hMa.s;refine hK.out _ _ ⟨hfx.at hMa.mq.m (by omega),hfx.at hMa.mq.q (by omega),⟨_,qt _ _ _,hs9⟩⟩ (fun hHeld=>?_);clear hK K
 try simp only [C.py]
 refine wpAnyH_done (by kernel_rfl) ?_ _;have hfin:Hid (Fx g w (wa.setCells g (pl*75) RR.toList)/\MemS g n (wa.setCells g (pl*75) RR.toList)):=hide ⟨Fx.trans (Fx.of hMa.mq.gr) hfx,_,hs9,by rw [qt];exact hSz,qa hnew⟩;generalize wa.setCells g (pl*75) RR.toList=w9 at hfin ⊢;clear hHeld hMa hMs hfx hs9 hth;go_wp2_with fail;go_end0;exact ⟨⟨_,rfl⟩,(qa hfin).1,(qa hfin).2⟩
theorem memN (g n:Nat) (hn:0<n) (hn2:n<=4096):MemI g n (MemS g n) where
 st:=fun A A' h f=>by obtain ⟨S,hS,r⟩:=h;exact ⟨S,f.same _ _ hS rfl,r⟩
 ob:=fun A h=>by obtain ⟨S,hS,r⟩:=h;exact ⟨S,_,hS⟩
 rc:=by
  intro z wh fc b h gg QA o r d h1 h2 way W hW;exact recallN_any o r g n hn hn2 d h1 h2 way W hW
 rm:=by
  intro z wh fc b h gg QA o r d h1 h2 way W hW;exact zm o r g n hn hn2 d way W hW
end Go.Proofs.YtnfakamfmkhlbaaGreatDoor.C
namespace Go.Proofs.YtnfakamfmkhlbaaGreatDoor.C
abbrev muLinkZ:Go.Conc.Locks.MuLink:={ lock:=62,unlock:=63,ilock:=127,iunlock:=128,lockSlow:=210,unlockSlow:=213,disable:=206,enable:=208,acquire:=209,relMerge:=211,cas32:=207,add32:=212,tMutex:=130,tIMutex:=128,tPMutex:=200,tPIMutex:=283,tPI32:=285,tUP:=287,tNoCopy:=125,tU32:=126 }
theorem muLibZ:Go.Conc.Locks.MuLib Tryz.prog muLinkZ :=
 ⟨Tryz.func62,Tryz.func63,Tryz.func127,Tryz.func128,Tryz.func206,Tryz.func208,Tryz.func209,Tryz.func211,Tryz.func207,Tryz.func212,Tryz.underlying128,Tryz.runUnderlying128,Tryz.sizeOf128,Tryz.isAgg128,Tryz.zeroValue128,Tryz.underlying130,Tryz.runUnderlying130,Tryz.sizeOf130,Tryz.isAgg130,Tryz.zeroValue130,Tryz.underlying200,Tryz.runUnderlying200,Tryz.sizeOf200,Tryz.isAgg200,Tryz.zeroValue200,Tryz.underlying283,Tryz.runUnderlying283,Tryz.sizeOf283,Tryz.isAgg283,Tryz.zeroValue283,Tryz.underlying285,Tryz.runUnderlying285,Tryz.sizeOf285,Tryz.isAgg285,Tryz.zeroValue285,Tryz.underlying287,Tryz.runUnderlying287,Tryz.sizeOf287,Tryz.isAgg287,Tryz.zeroValue287,Tryz.underlying125,Tryz.runUnderlying125,Tryz.sizeOf125,Tryz.isAgg125,Tryz.zeroValue125,Tryz.underlying21,Tryz.runUnderlying21,Tryz.sizeOf21,Tryz.isAgg21,Tryz.zeroValue21,(by kernel_rfl)⟩
end Go.Proofs.YtnfakamfmkhlbaaGreatDoor.C
namespace Go.Proofs.YtnfakamfmkhlbaaGreatDoor.C
open Go.ChangeShapes Go.WideShapes Go.ChangeAt Go.RowKit Go.Shelf Go.MuLone
open Go.Proofs.YtnfakamfmkhlbaaGreatDoor.P
attribute [local go_sem] qd qi Oper.semAt_some
def MemA (g n:Nat) (W:World):Prop:=if n=0 then (∃ S fr,W.heap[g]?=some (.cells S 291 fr)) else MemS g n W
theorem memA (g n:Nat) (hn:n<=4096):MemI g n (MemA g n):=by
 by_cases h:n=0
 ·subst h;exact mem0 g
 ·have:MemA g n=MemS g n:=by funext W;unfold MemA;rw [if_neg h]
  rw [this];exact memN g n (by omega) hn
def cacA (v:Int) (g n:Nat):Array Value:=#[.int .i32 v,.int .u32 0,svN g n]
structure CacI (bc g n:Nat) (W:World):Prop where
 c:W.heap[bc]?=some (.cells (cacA 0 g n) 132)
 m:MemA g n W
 aw:Away g
 ne:bc≠g
 le:n<=4096
theorem CacI.fx {bc g n k:Nat} {W W':World} (h:CacI bc g n W) (f:Fx k W W') (h1:bc≠k) (h2:g≠k):CacI bc g n W' :=
 ⟨f.at h.c h1,(memA g n h.le).st _ _ h.m (Fr.mono f fun q _ _ e=>by rw [e];exact h2),h.aw,h.ne,h.le⟩
theorem CacI.gr {bc g n:Nat} {W W':World} (h:CacI bc g n W) (k:Gr W W'):CacI bc g n W' :=
 ⟨(Below.block k _ (xg h.c)).trans h.c,(memA g n h.le).st _ _ h.m (Fr.of_gr k),h.aw,h.ne,h.le⟩
theorem madeC_get {z:Array Value} (hz:z.size=75) {n i j:Nat} (hi:i<n) (hj:j<75):(madeCells z (n*75))[i*75+j]?=z[j]?:=by
 unfold madeCells
 have hlt:i*75+j<n*75:=by
  have:(i+1)*75<=n*75:=Nat.mul_le_mul_right 75 hi;omega
 rw [Array.getElem?_map,Array.getElem?_range,if_pos hlt];simp only [Option.map_some];rw [hz,show (i*75+j)%75=j by omega,Array.getElem?_eq_getElem (by omega),getElem!_pos z j (by omega)]
theorem zero_take:Tryz.zeroCells25.toList.take 64=List.replicate 64 (.int .u8 0):=by kernel_rfl
theorem zero65:Tryz.zeroCells25[65]?=some (.bool false):=by kernel_rfl
theorem zero66:Tryz.zeroCells25[66]?=some (.bool false):=by kernel_rfl
theorem zero67:Tryz.zeroCells25[67]?=some (.bool false):=by kernel_rfl
theorem zero68:Tryz.zeroCells25[68]?=some (.bool false):=by kernel_rfl
theorem zero_row:Row (fun _=>0) false (fun _=>false) 0 0 0 Tryz.zeroCells25:=by
 refine ⟨zeroP,fun i hi=>?_,by kernel_rfl,fun i hi=>?_,by kernel_rfl,by kernel_rfl,by kernel_rfl⟩
 ·rw [<-Array.getElem?_toList,<-List.getElem?_take_of_lt hi,zero_take,List.getElem?_replicate,if_pos hi];rfl
 ·have:i=0\/i=1\/i=2\/i=3:=by omega
  rcases this with rfl|rfl|rfl|rfl
  ·exact zero65
  ·exact zero66
  ·exact zero67
  ·exact zero68
theorem no_zero {h g:Int}:¬ Ok (fun _=>0) false (fun _=>false) 0 h g:=fun o=>by
 have:=o.lay;have h0:layOk (fun _=>(0:UInt8))=false:=by decide +kernel
 rw [h0] at this;cases this
theorem zeroS_is:Tryz.zeroCells291=slotA (qA Tryz.zeroCells25 0 0) 0:=by kernel_rfl
theorem new_slots {g n:Nat} {W:World} {base:Nat} (h:W.ownsRow base 291 75 (svN g n) n (madeCells Tryz.zeroCells291 (n*75)).toList):MemA g n W:=by
 unfold MemA;by_cases hn:n=0
 ·subst hn;rw [if_pos rfl];exact own_ob h
 ·rw [if_neg hn];rcases h.2 with ⟨e,_⟩|⟨g',cap,cur,hv,_,hg,_,_,hcs,htk⟩
  ·cases e
  ·injection hv with hv _ hcap;injection hv with hv;injection hv with hv _ _;subst hv hcap;rw [List.take_of_length_le (by rw [Array.length_toList,hcs];exact Nat.le_refl _)] at htk;have hcur:cur=madeCells Tryz.zeroCells291 (n*75):=Array.toList_inj.1 htk;refine ⟨cur,hg,hcs,fun i hi=>⟨fun _=>0,false,fun _=>false,0,_,0,0,0,zero_row,fun _ _=>rfl,fun _ _=>rfl,fun j hj=>?_,fun h g o=>(no_zero o).elim⟩⟩;rw [hcur,madeC_get zeroS hi hj,zeroS_is]
theorem built_cac (g n:Nat):Tryz.prog.built 132 [(1,.agg #[svN g n])]=some (cacA 0 g n):=by kernel_rfl
theorem newC_any (n:Nat) (hn:n<=4096) (w:World) (hw:Wt w):Calls Tryz.prog 33 #[.int .i64 (n:Int)] w fun e w'=>(∃ bc g,e=.returned (.tuple #[.pointer (some ⟨bc,0,none⟩),.int .i64 0])/\CacI bc g n w'/\w.heap.size<=bc/\w.heap.size<=g)/\Gr w w':=by
 have hmk:=hide (newM_any n hn w);have h0:¬ (n:Int)<0:=by omega
 have h1:¬ (4096:Int)<(n:Int):=by omega
 go_enter Tryz.func33,Tryz.ntmps33
 go_wp2_with (first
  | (go_at_call 60;refine (qa hmk).mono ?_;rintro e w1 ⟨rfl,hown,hg1⟩)
  | (refine zb rfl 132 #[(1,.tmp 11)] rfl (cacA 0 (w.heap.size+1) n) ?_ ?_;focus (first|(go_simp;exact built_cac _ n)|(simp;exact built_cac _ n))))
 go_ret2;have hg2:Gr w1 (w1.alloc (.cells (cacA 0 (w.heap.size+1) n) 132)):=(Gr.refl w1).alloc _ _;have hm:=new_slots hown
 have hlt:w.heap.size+1<w1.heap.size:=by
  obtain ⟨S,fr,e⟩:=(memA _ n hn).ob _ hm;exact qr e
 exact ⟨⟨w1.heap.size,w.heap.size+1,rfl,⟨heap_alloc_new w1 _,(memA _ n hn).st _ _ hm (Fr.of_gr hg2),hw.lt (by omega),by omega,hn⟩,Below.size hg1,by omega⟩,Gr.trans hg1 hg2⟩
theorem newC_bad (n:Int) (hn:n<0\/4096<n) (w:World):Calls Tryz.prog 33 #[.int .i64 n] w fun e w'=>e=.returned (.tuple #[.pointer none,.int .i64 7])/\w'=w:=by
 by_cases h0:n<0
 ·clear hn;go_enter Tryz.func33,Tryz.ntmps33;go_wp2_with fail;go_ret2;exact ⟨rfl,rfl⟩
 ·have h1:4096<n:=by omega
  clear hn;go_enter Tryz.func33,Tryz.ntmps33;go_wp2_with fail;go_ret2;exact ⟨rfl,rfl⟩
theorem qk {P:Program} {fn:Func} {t1 t2:Array Value} {R:Ending->World->Prop} (h:∀ w,(results fn t1).run P w=(results fn t2).run P w):∀ (ds:List Deferred) (u:FrameMode) (w:World),Leaves P fn t1 R ds u w->Leaves P fn t2 R ds u w
 | [],.returning,w,⟨v,e,r⟩=>⟨v,(h w)▸e,r⟩
 | [],.panicking _,_,r=>r
 | [],.run,_,r=>r
 | _ :: ds,_,_,⟨hu,fv,cap,f,args,e1,e2,hc⟩=>⟨hu,fv,cap,f,args,e1,e2,hc.mono (fun e u' w' r=>by
   cases e with
   | returned _=>exact qk h ds _ _ r
   | panicked _=>exact qk h ds _ _ r
   | outgrown=>exact r)⟩
theorem qc {i:Nat} {v:Value} {b:Act} {R:Ending->World->Prop} {u:FrameMode} {w:World} (h8:i≠8) (h9:i≠9) (h:Leaves Tryz.prog Tryz.f34 (b.put (some i) v).tmps R (b.put (some i) v).defers u w):Leaves Tryz.prog Tryz.f34 b.tmps R b.defers u w:=by
 refine qk (fun w'=>?_) _ _ _ h;rw [results_tmp2 Tryz.results34 (b.put (some i) v).tmps Tryz.prog w',results_tmp2 Tryz.results34 b.tmps Tryz.prog w'];simp [Act.put,Array.getD_eq_getD_getElem?,h8,h9]
def PrfEnd (s:ByteArray) (D wn:Int) (e:Ending):Prop :=
 (∃ k,TocBad s D 0 wn k/\e=.returned (.tuple #[.int .u64 0,.int .i64 k])) ∨
 (∃ p,∃ m:Nat,readS s=some p/\posCan p=true/\D=(m:Int)/\m<=3/\(wn=1\/wn=2)/\e=.returned (.tuple #[.int .u64 ((pathsN m (posZ p) p.white (fcN p.castle) p.behind:Nat):Int),.int .i64 0]))
structure Pfq (bc g n b1:Nat) (A:Array Value) (b2 ga gm:Nat) (w W:World):Prop where
 c:W.heap[bc]?=some (.cells (cacA 1 g n) 132)
 p:W.heap[b1]?=some (.cells A 25)
 m:W.heap[b2]?=some (.cells (wayA ga gm) 84)
 i:MemA g n W
 wt:Wt W
 fr:Fr (fun k _=>k≠g/\k≠bc) w W
theorem Pfq.next {bc g n b1:Nat} {A:Array Value} {b2 ga gm:Nat} {w W W':World} (h:Pfq bc g n b1 A b2 ga gm w W) (f:Fx g W W') (a:Away g) (h1:bc≠g) (h2:b1≠g) (h3:b2≠g) (hi:MemA g n W'):Pfq bc g n b1 A b2 ga gm w W' :=
 ⟨f.at h.c h1,f.at h.p h2,f.at h.m h3,hi,h.wt.fx a f,Fr.trans h.fr (Fr.mono f fun _ _ _ q=>q.1)⟩
theorem Pfq.c0 {bc g n b1:Nat} {A:Array Value} {b2 ga gm:Nat} {w W:World} (h:Pfq bc g n b1 A b2 ga gm w W):W.cell? ⟨b2,0,none⟩=some (.func (.func ga) #[] #[]):=by rw [qm h.m];rfl
theorem Pfq.c1 {bc g n b1:Nat} {A:Array Value} {b2 ga gm:Nat} {w W:World} (h:Pfq bc g n b1 A b2 ga gm w W):W.cell? ⟨b2,1,none⟩=some (.func (.func gm) #[] #[]):=by rw [qm h.m];rfl
theorem Pfq.c2 {bc g n b1:Nat} {A:Array Value} {b2 ga gm:Nat} {w W:World} (h:Pfq bc g n b1 A b2 ga gm w W):W.cell? ⟨bc,2,none⟩=some (svN g n):=by rw [qm h.c];rfl
theorem perft_any (bc g n:Nat) (s:ByteArray) (hs:s.size<4294967281) (D wn:Int) (m:Int) (w:World) (hc:Ct m w) (htb:Tabs w) (hC:CacI bc g n w) (hbw:Away bc) :
  Calls Tryz.prog 34 #[.pointer (some ⟨bc,0,none⟩),.string s,.int .i64 D,.int .i64 wn] w fun e w'=>PrfEnd s D wn e/\Fx g w w'/\CacI bc g n w':=by
 have h1:Hid (Calls Tryz.prog 61 #[.string s,.int .i64 D,.int .i64 0,.int .i64 wn] w fun e w'=>TocEnd s D 0 wn e/\Gr w w'):=hide (toCount_any s hs D 0 wn m w hc);rcases toc_split s D 0 wn with ⟨k,hk,hbad,hone⟩|⟨p,ga,gm,gi,hr,hcan,hd,hway,hone⟩
 ·have h2:Hid (Calls Tryz.prog 61 #[.string s,.int .i64 D,.int .i64 0,.int .i64 wn] w fun e w'=>e=.returned (.tuple #[.agg Tryz.zeroCells25,.agg nilW,.int .i64 k])/\Gr w w'):=hide ((qa h1).mono fun e w' h=>⟨hone e h.1,h.2⟩);have hend:Hid (PrfEnd s D wn (.returned (.tuple #[.int .u64 0,.int .i64 k]))):=hide (.inl ⟨k,hbad,rfl⟩);have hfin:Hid (∀ W,Gr w W->Fx g w W/\CacI bc g n W):=hide fun W q=>⟨Fx.of q,hC.gr q⟩
  have k2:(k != 0)=true:=by rw [bne_iff_ne];exact hk
  clear h1 hone hbad hk hs hc htb hC;go_enter_defers Tryz.func34,Tryz.ntmps34
  go_upto_region 2 with (first
   | (go_at_call 61;refine (qa h2).mono ?_;rintro e w3 ⟨rfl,hg3⟩;obtain ⟨x1,x2⟩:=heapTwo w3 (.cells Tryz.zeroCells25 25) (.cells nilW 84))
   | (refine wpList_store_row rfl 25 _ _ rfl w3.heap.size Tryz.zeroCells25 rfl rfl 25 Tryz.zeroCells25 x1 (by rw [zeroP];exact infoP) rfl zeroP_ones ?_)
   | (refine wpList_store_row rfl 84 _ _ rfl (w3.heap.size+1) nilW rfl rfl 84 nilW (by rw [setRow_other _ _ _ _ (by omega)];exact x2) infoW rfl jg ?_))
  have hg4:Gr w ((((w3.alloc (.cells Tryz.zeroCells25 25)).alloc (.cells nilW 84)).setRow w3.heap.size Tryz.zeroCells25).setRow (w3.heap.size+1) nilW):=Gr.trans hg3 (((((Gr.refl w3).alloc _ _).alloc _ _).setRow _ (Nat.le_refl _) _).setRow _ (by omega) _);show Code.wp _ _ _ _ ((((w3.alloc (.cells Tryz.zeroCells25 25)).alloc (.cells nilW 84)).setRow w3.heap.size Tryz.zeroCells25).setRow (w3.heap.size+1) nilW);generalize ((((w3.alloc (.cells Tryz.zeroCells25 25)).alloc (.cells nilW 84)).setRow w3.heap.size Tryz.zeroCells25).setRow (w3.heap.size+1) nilW)=w4 at hg4 ⊢;clear hg3 h2 x1 x2;go_wp2_with fail;exact ⟨.tuple #[.int .u64 0,.int .i64 k],results_tmp2 Tryz.results34 _ _ _,qa hend,qa hfin _ hg4⟩
 ·have h2:Hid (Calls Tryz.prog 61 #[.string s,.int .i64 D,.int .i64 0,.int .i64 wn] w fun e w'=>e=.returned (.tuple #[.agg (posV p),.agg (wayA ga gm),.int .i64 0])/\Gr w w'):=hide ((qa h1).mono fun e w' h=>⟨hone e h.1,h.2⟩);have hrow:=jn hr;have hz:=hrow.size;have ho:=hide (qz hrow);have o:=Ok.of hr hcan;have r:=row_fcN hrow;obtain ⟨dd,hdd⟩:∃ dd:Nat,D=(dd:Int):=⟨D.toNat,by omega⟩;have hd2:dd<=3:=by omega
  have hend:Hid (PrfEnd s D wn (.returned (.tuple #[.int .u64 ((pathsN dd (posZ p) p.white (fcN p.castle) p.behind:Nat):Int),.int .i64 0]))):=hide (.inr ⟨p,dd,hr,hcan,hdd,hd2,way_is hway,rfl⟩)
  have hpa:Hid (∀ W,MemA g n W->Wt W->Calls Tryz.prog 65 #[.agg (ctrA ga gm wn g n),.agg (posV p),.int .i64 D] W fun e w'=>e=.returned (.int .u64 ((pathsN dd (posZ p) p.white (fcN p.castle) p.behind:Nat):Int))/\Fx g W w'/\MemA g n w'):=hide fun W hi hw=>by
   rw [hdd];exact paths_any (memA g n hC.le) hC.aw hway dd hd2 o r W hi hw
  have hwt:=hide (jj hc htb);generalize pathsN dd (posZ p) p.white (fcN p.castle) p.behind=R at hend hpa;generalize posV p=A at h2 hz ho hpa
  have hgl:g<w.heap.size:=by
   obtain ⟨S,fr,e⟩:=(memA g n hC.le).ob _ hC.m;exact qr e
  have hbl:=xg hC.c;have hCc:=hide hC.c;have haw:=hC.aw;have hne:=hC.ne;have hle:=hC.le;have hm:=hide hC.m;clear h1 hone hrow hr hcan hs hc htb o r hdd hd2 hd hway hC;go_enter_defers Tryz.func34,Tryz.ntmps34
  go_upto_region 2 with (first
   | (go_at_call 61;refine (qa h2).mono ?_;rintro e w3 ⟨rfl,hg3⟩;obtain ⟨x1,x2⟩:=heapTwo w3 (.cells Tryz.zeroCells25 25) (.cells nilW 84))
   | (refine wpList_store_row rfl 25 _ _ rfl w3.heap.size A rfl rfl 25 Tryz.zeroCells25 x1 (by rw [hz];exact infoP) (by rw [hz];exact zeroP) (qa ho) ?_)
   | (refine wpList_store_row rfl 84 _ _ rfl (w3.heap.size+1) (wayA ga gm) rfl rfl 84 nilW (by rw [setRow_other _ _ _ _ (by omega)];exact x2) infoW rfl (ju _ _) ?_))
  have hg4:Gr w ((((w3.alloc (.cells Tryz.zeroCells25 25)).alloc (.cells nilW 84)).setRow w3.heap.size A).setRow (w3.heap.size+1) (wayA ga gm)):=Gr.trans hg3 (((((Gr.refl w3).alloc _ _).alloc _ _).setRow _ (Nat.le_refl _) _).setRow _ (by omega) _);have hp4:((((w3.alloc (.cells Tryz.zeroCells25 25)).alloc (.cells nilW 84)).setRow w3.heap.size A).setRow (w3.heap.size+1) (wayA ga gm)).heap[w3.heap.size]?=some (.cells A 25):=by rw [setRow_other _ _ _ _ (by omega)];exact setRow_heap _ _ _ _ _ _ x1
  have hm4:((((w3.alloc (.cells Tryz.zeroCells25 25)).alloc (.cells nilW 84)).setRow w3.heap.size A).setRow (w3.heap.size+1) (wayA ga gm)).heap[w3.heap.size+1]?=some (.cells (wayA ga gm) 84):=setRow_heap _ _ _ _ _ _ (by rw [setRow_other _ _ _ _ (by omega)];exact x2);show Code.wp _ _ _ _ ((((w3.alloc (.cells Tryz.zeroCells25 25)).alloc (.cells nilW 84)).setRow w3.heap.size A).setRow (w3.heap.size+1) (wayA ga gm));generalize ((((w3.alloc (.cells Tryz.zeroCells25 25)).alloc (.cells nilW 84)).setRow w3.heap.size A).setRow (w3.heap.size+1) (wayA ga gm))=w4 at hg4 hp4 hm4 ⊢;have hb1w:=Below.size hg3;generalize w3.heap.size=b1 at hp4 hm4 hb1w ⊢;clear hg3 h2 x1 x2 ho;have hc4:=(Below.block hg4 _ hbl).trans (qa hCc);have l0:w4.cell? ⟨bc,0,none⟩=some (.int .i32 0):=by rw [qm hc4];rfl
  have lf:w4.frozen? ⟨bc,0,none⟩=false:=xy hc4;have fs:Fr (fun k _=>k≠bc) w4 (w4.setCell ⟨bc,0,none⟩ (.int .i32 1)):=(Fr.refl _ _).setCell _ (fun _ _ q=>q rfl);have hS0:Pfq bc g n b1 A (b1+1) ga gm w (w4.setCell ⟨bc,0,none⟩ (.int .i32 1)).drew:=⟨qy hc4,fs.same _ _ hp4 (by omega),fs.same _ _ hm4 (by omega),(memA g n hle).st _ _ (qa hm) (Fr.trans (Fr.of_gr hg4) (Fr.drew (fs.mono fun q _ _ e=>by omega))),(qa hwt).gr hg4 |>.fx hbw (Fr.drew fs),Fr.trans (Fr.of_gr hg4) (Fr.drew (fs.mono fun q _ _ e=>e.2))⟩;clear fs hp4 hm4 hg4 hwt hm;go_upto_region 6 with (go_at_call 62;refine (lock_free muLibZ ⟨bc,0,none⟩ _ l0 lf).mono ?_;rintro e w5 ⟨rfl,rfl⟩);refine wp_region_held_drew (S:=Pfq bc g n b1 A (b1+1) ga gm w) (by kernel_rfl) hS0 (fun hHeld=>?_);clear hS0 l0 lf hc4;have hb1g:b1≠g:=by omega
  have hb2g:b1+1≠g:=by omega
  refine wpAnyH_take (i:=0) (v:=.agg (wayA ga gm)) rfl (by kernel_rfl) (by kernel_rfl) (by kernel_rfl) (fun _ _ _ h=>qc (i:=31) (by decide) (by decide) h) (Or.inl ⟨by rfl,fun w' hw=>(by have c0:=hw.c0;have c1:=hw.c1;go_simp;rfl)⟩) hHeld ?_;simp only [C.py];refine wpAnyH_take (i:=1) (v:=.int .i64 wn) rfl (by kernel_rfl) (by kernel_rfl) (by kernel_rfl) (fun _ _ _ h=>qc (i:=32) (by decide) (by decide) h) (Or.inl ⟨by rfl,fun w' hw=>(by go_simp)⟩) hHeld ?_;simp only [C.py];refine wpAnyH_take (i:=2) (v:=.pointer (some ⟨bc,0,none⟩)) rfl (by kernel_rfl) (by kernel_rfl) (by kernel_rfl) (fun _ _ _ h=>qc (i:=33) (by decide) (by decide) h) (Or.inl ⟨by rfl,fun w' hw=>(by go_simp)⟩) hHeld ?_;simp only [C.py];refine wpAnyH_take (i:=3) (v:=.pointer (some ⟨bc,0,none⟩)) rfl (by kernel_rfl) (by kernel_rfl) (by kernel_rfl) (fun _ _ _ h=>qc (i:=34) (by decide) (by decide) h) (Or.inl ⟨by rfl,fun w' hw=>(by go_simp)⟩) hHeld ?_;simp only [C.py];refine wpAnyH_take (i:=4) (v:=.pointer (some ⟨bc,2,none⟩)) rfl (by kernel_rfl) (by kernel_rfl) (by kernel_rfl) (fun _ _ _ h=>qc (i:=35) (by decide) (by decide) h) (Or.inl ⟨by rfl,fun w' hw=>(by go_simp)⟩) hHeld ?_;simp only [C.py];refine wpAnyH_take (i:=5) (v:=.agg #[svN g n]) rfl (by kernel_rfl) (by kernel_rfl) (by kernel_rfl) (fun _ _ _ h=>qc (i:=36) (by decide) (by decide) h) (Or.inl ⟨by rfl,fun w' hw=>(by have c0:=hw.c2;go_simp)⟩) hHeld ?_;simp only [C.py];refine wpAnyH_take (i:=7) (v:=.agg A) rfl (by kernel_rfl) (by kernel_rfl) (by kernel_rfl) (fun _ _ _ h=>qc (i:=38) (by decide) (by decide) h) (qqz hz (by rfl) _ rfl b1 rfl (fun _ h=>xr h.p)) hHeld ?_;simp only [C.py];refine wpAnyH_take (i:=8) (v:=.int .i64 D) rfl (by kernel_rfl) (by kernel_rfl) (by kernel_rfl) (fun _ _ _ h=>qc (i:=39) (by decide) (by decide) h) (Or.inl ⟨by rfl,fun w' hw=>(by go_simp)⟩) hHeld ?_;simp only [C.py];refine C.rd 6 fun K hK=>?_
  go_simp;refine (by_any ga gm wn g n _).mono ?_;rintro e wb ⟨rfl,hgb⟩;refine hK.out _ _ (hHeld.next (Fx.of hgb) haw hne hb1g hb2g ((memA g n hle).st _ _ hHeld.i (Fr.of_gr hgb))) (fun hHeld=>?_);clear hK K
  try simp only [C.py]
  refine C.rd 9 fun K hK=>?_
  go_simp;refine (qa hpa _ hHeld.i hHeld.wt).mono ?_;rintro e wc ⟨rfl,hfc,hic⟩;refine hK.out _ _ (hHeld.next hfc haw hne hb1g hb2g hic) (fun hHeld=>?_);clear hK K
  try simp only [C.py]
  refine C.rd 10 fun K hK=>?_
  go_simp;refine hK.out _ _ hHeld (fun hHeld=>?_);clear hK K
  try simp only [C.py]
  refine C.rd 11 fun K hK=>?_
  go_simp;refine hK.out _ _ hHeld (fun hHeld=>?_);clear hK K
  try simp only [C.py]
  refine wpAnyH_done (by kernel_rfl) ?_ _;have l1:wc.cell? ⟨bc,0,none⟩=some (.int .i32 1):=by rw [qm hHeld.c];rfl
  have lf1:wc.frozen? ⟨bc,0,none⟩=false:=xy hHeld.c;have fs:Fr (fun k _=>k≠bc) wc (wc.setCell ⟨bc,0,none⟩ (.int .i32 0)):=(Fr.refl _ _).setCell _ (fun _ _ q=>q rfl);have hc9:(wc.setCell ⟨bc,0,none⟩ (.int .i32 0)).heap[bc]?=some (.cells (cacA 0 g n) 132):=qy hHeld.c
  have hfin:Hid (Fx g w (wc.setCell ⟨bc,0,none⟩ (.int .i32 0))/\CacI bc g n (wc.setCell ⟨bc,0,none⟩ (.int .i32 0))):=hide ⟨⟨fs.os.trans hHeld.fr.os,fs.tape.trans hHeld.fr.tape,fs.output.trans hHeld.fr.output,Nat.le_trans hHeld.fr.size fs.size,fun k o e q=>by
   by_cases hk:k=bc
   ·subst hk;rw [qa hCc] at e;rw [hc9];exact e
   ·exact fs.same _ _ (hHeld.fr.same k o e ⟨q,hk⟩) hk⟩,hc9,(memA g n hle).st _ _ hHeld.i (fs.mono fun q _ _ e=>by omega),haw,hne,hle⟩
  clear hHeld fs hc9;go_wp2_with fail;refine leaves_cons (f:=63) (args:=#[.pointer (some ⟨bc,0,none⟩)]) (by simp) (by simp [go_sem]) ?_;refine (unlock_deferred muLibZ ⟨bc,0,none⟩ .returning _ l1 lf1).mono ?_;rintro e u' w'' ⟨rfl,rfl,rfl⟩;exact ⟨.tuple #[.int .u64 (R:Int),.int .i64 0],results_tmp2 Tryz.results34 _ _ _,qa hend,(qa hfin).1,(qa hfin).2⟩
end Go.Proofs.YtnfakamfmkhlbaaGreatDoor.C
