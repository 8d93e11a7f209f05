import Derived.Test.YtnfakamfmkhlbabGreatDoorKb20
import Derived.Test.YtnfakamfmkhlbabGreatDoorKb23
import Derived.Test.YtnfakamfmkhlbabGreatDoorKb12
import Derived.Test.YtnfakamfmkhlbabGreatDoorKb13
import Derived.Test.YtnfakamfmkhlbabGreatDoorKb2
import Derived.Test.YtnfakamfmkhlbabGreatDoorKb4
import Derived.Deep.QuietTactic
import Derived.BigQuiet
import Derived.Deep.RegionHeld3
import Derived.Test.YtnfakamfmkhlbabGreatDoorKb21
import Derived.Test.YtnfakamfmkhlbabGreatDoorKz2
import Derived.Test.YtnfakamfmkhlbabGreatDoorKz3
set_option maxRecDepth 100000
set_option maxHeartbeats 4000000
set_option linter.unusedSimpArgs false
namespace Go.Proofs.YtnfakamfmkhlbabGreatDoor.C
open Go.ChangeShapes Go.WideShapes Go.ChangeAt Go.RowKit
open Go.Proofs.YtnfakamfmkhlbabGreatDoor.P
attribute [local go_sem] setCell_drewN alloc_drewN
structure Pmm (w:World) (PA:Array Value) (f t:Nat) (u:UInt8) (W:World):Prop where
 pa:W.heap[w.heap.size]?=some (.cells PA 70)
 mv:W.heap[w.heap.size+1]?=some (.cells #[.int .i64 (f:Int),.int .i64 (t:Int),.int .u8 (u.toNat:Int)] 87)
 lt:w.heap.size+1<W.heap.size
 gr:Gr w W
theorem Pmm.next {w W W':World} {PA:Array Value} {f t:Nat} {u:UInt8} (h:Pmm w PA f t u W) (g:Gr W W'):Pmm w PA f t u W' :=
 ⟨(Below.block g _ (Nat.lt_of_succ_lt h.lt)).trans h.pa,(Below.block g _ h.lt).trans h.mv,Nat.lt_of_lt_of_le h.lt (Below.size g),Gr.trans h.gr g⟩
theorem Pmm.start (w:World) (PA:Array Value) (f t:Nat) (u:UInt8):Pmm w PA f t u ((w.alloc (.cells PA 70)).alloc (.cells #[.int .i64 (f:Int),.int .i64 (t:Int),.int .u8 (u.toNat:Int)] 87)):=by
 obtain ⟨e1,e2⟩:=row_at (w:=w) (PA:=PA) (o:=#[.int .i64 (f:Int),.int .i64 (t:Int),.int .u8 (u.toNat:Int)]) (ty:=70) (ty2:=87) (Gr.refl _);exact ⟨e1,e2,by rw [World.size_alloc,World.size_alloc];omega,((Gr.refl w).alloc _ _).alloc _ _⟩
theorem Pmm.cells {w W:World} {PA:Array Value} {f t:Nat} {u:UInt8} (h:Pmm w PA f t u W):W.cell? ⟨w.heap.size+1,0,none⟩=some (.int .i64 (f:Int))/\W.cell? ⟨w.heap.size+1,1,none⟩=some (.int .i64 (t:Int))/\W.cell? ⟨w.heap.size+1,2,none⟩=some (.int .u8 (u.toNat:Int)) :=
 ⟨by rw [cells_at h.mv];rfl,by rw [cells_at h.mv];rfl,by rw [cells_at h.mv];rfl⟩
theorem Pmm.at {w W:World} {PA:Array Value} {f t:Nat} {u:UInt8} (h:Pmm w PA f t u W) {k:Nat} {v:Value} (hv:PA[k]?=some v):W.cell? ⟨w.heap.size,k,none⟩=some v:=by
 rw [cells_at h.pa];exact hv
def tchB (f t:Nat) (s:Int):Bool:=((f:Int)==s)||((t:Int)==s)
theorem touches_any (f t:Nat) (u:UInt8) (s:Int) (w:World):Calls Tryz.prog 190 #[.agg #[.int .i64 (f:Int),.int .i64 (t:Int),.int .u8 (u.toNat:Int)],.int .i64 s] w fun e w'=>e=.returned (.bool (tchB f t s))/\Gr w w':=by
 have hx:=World.alloc_heap_new w (.cells #[.int .i64 (f:Int),.int .i64 (t:Int),.int .u8 (u.toNat:Int)] 87);have m0:(w.alloc (.cells #[.int .i64 (f:Int),.int .i64 (t:Int),.int .u8 (u.toNat:Int)] 87)).cell? ⟨w.heap.size,0,none⟩=some (.int .i64 (f:Int)):=by rw [cells_at hx];rfl
 have m1:(w.alloc (.cells #[.int .i64 (f:Int),.int .i64 (t:Int),.int .u8 (u.toNat:Int)] 87)).cell? ⟨w.heap.size,1,none⟩=some (.int .i64 (t:Int)):=by rw [cells_at hx];rfl
 have hg:=hide ((Gr.refl w).alloc #[.int .i64 (f:Int),.int .i64 (t:Int),.int .u8 (u.toNat:Int)] 87);unfold tchB;obtain ⟨x1,e1⟩:∃ x,((f:Int)==s)=x:=⟨_,rfl⟩;obtain ⟨x2,e2⟩:∃ x,((t:Int)==s)=x:=⟨_,rfl⟩;rw [e1,e2];clear hx;cases x1
 ·go_enter Tryz.func190,Tryz.ntmps190;go_wp2_with fail;go_ret;exact ⟨rfl,unhide hg⟩
 ·go_enter Tryz.func190,Tryz.ntmps190;go_wp2_with fail;go_ret;exact ⟨rfl,unhide hg⟩
def twoP (f t:Nat):Bool:=decide (upR f t*upR f t=4)
def behA (z:Nat->UInt8) (f t:Nat):Int:=if pawnB (z f)&&twoP f t then (((f+t)/2:Nat):Int) else -1
def halA (z:Nat->UInt8) (f t:Nat) (h:Int):Int:=if pawnB (z f)||!decide (z t=46) then 0 else min (h+1) 65535
def fulA (wh:Bool) (g:Int):Int:=if wh then g else min (g+1) 65535
theorem behindAfter_any {z:Nat->UInt8} {wh:Bool} {fc:Nat->Bool} {b h g:Int} {PA:Array Value} (r:Row z wh fc b h g PA) (f t:Nat) (hf:f<64) (ht:t<64) (u:UInt8) (w:World):Calls Tryz.prog 100 #[.agg PA,.agg #[.int .i64 (f:Int),.int .i64 (t:Int),.int .u8 (u.toNat:Int)]] w fun e w'=>e=.returned (.int .i64 (behA z f t))/\Gr w w':=by
 have hP:=Pmm.start w PA f t u;have hp:=hide (fun W=>isPawn_any (z f) W);obtain ⟨m0,m1,m2⟩:=hP.cells;have cf:=hP.at (r.sq f hf);have hg:=hide hP.gr;have hf0:(0:Int)<=(f:Int):=by omega
 have hf1:(f:Int)<64:=by omega
 obtain ⟨V,hV⟩:∃ x,Hid (behA z f t=x):=⟨_,hide rfl⟩;rw [unhide hV];obtain ⟨PW,hPW⟩:∃ x,Hid (pawnB (z f)=x):=⟨_,hide rfl⟩;rw [unhide hPW] at hp;obtain ⟨dd,hdd⟩:∃ x,Hid ((t:Int)/8-(f:Int)/8=x):=⟨_,hide rfl⟩;have hwr:IntKind.i64.wrap ((t:Int)/8-(f:Int)/8)=dd:=by rw [IntKind.wrap_i64];have:=unhide hdd;omega
 have hup:upR f t=dd:=by rw [<-unhide hdd];unfold upR;omega
 have hb:-7<=dd/\dd<=7:=by have:=unhide hdd;omega
 have hsq:-100<=dd*dd/\dd*dd<=100:=by
  obtain ⟨q1,q2⟩:=hb;have h1:dd=-7\/dd=-6\/dd=-5\/dd=-4\/dd=-3\/dd=-2\/dd=-1\/dd=0\/dd=1\/dd=2\/dd=3\/dd=4\/dd=5\/dd=6\/dd=7:=by omega
  rcases h1 with e|e|e|e|e|e|e|e|e|e|e|e|e|e|e<;>(rw [e];decide)
 obtain ⟨D2,hD2⟩:∃ x,Hid (dd*dd=x):=⟨_,hide rfl⟩;have hw2:IntKind.i64.wrap (dd*dd)=D2:=by rw [IntKind.wrap_i64];have:=unhide hD2;omega
 obtain ⟨mm,hmm⟩:∃ n,Hid (n=(f+t)/2):=⟨_,hide rfl⟩;have e1:IntKind.i64.wrap ((f:Int)+(t:Int))=(f:Int)+(t:Int):=by rw [IntKind.wrap_i64];omega
 have e2:((f:Int)+(t:Int))/2=(mm:Int):=by have:=unhide hmm;omega
 have e3:((f:Int)+(t:Int)).tdiv 2=(mm:Int):=by rw [Int.tdiv_eq_ediv_of_nonneg (by omega)];exact e2
 have e4:IntKind.i64.wrap (mm:Int)=(mm:Int):=by rw [IntKind.wrap_i64];have:=unhide hmm;omega
 have hV2:Hid (V=if PW&&decide (D2=4) then (mm:Int) else -1):=hide (by rw [<-unhide hV];unfold behA twoP;rw [unhide hPW,hup,unhide hD2,unhide hmm]);clear hb hsq hup hP;cases PW
 ·have hV3:Hid (V=-1):=hide (by rw [unhide hV2];rfl);go_enter Tryz.func100,Tryz.ntmps100;go_wp2_with (go_at_call 121;refine (unhide hp _).mono ?_;rintro e w' ⟨rfl,hww⟩;have hww':=hww.symm;subst hww';clear hww);go_ret;exact ⟨by rw [unhide hV3];rfl,unhide hg⟩
 ·by_cases d4:D2=4
  ·have hV3:Hid (V=(mm:Int)):=hide (by rw [unhide hV2,decide_eq_true d4];rfl);have hd4:(D2==4)=true:=beq_iff_eq.2 d4;clear d4;go_enter Tryz.func100,Tryz.ntmps100;go_wp2_with (go_at_call 121;refine (unhide hp _).mono ?_;rintro e w' ⟨rfl,hww⟩;have hww':=hww.symm;subst hww';clear hww);go_ret;exact ⟨by rw [unhide hV3];rfl,unhide hg⟩
  ·have hV3:Hid (V=-1):=hide (by rw [unhide hV2,decide_eq_false d4];rfl);have hd4:(D2==4)=false:=by rw [beq_eq_false_iff_ne];exact d4
   clear d4;go_enter Tryz.func100,Tryz.ntmps100;go_wp2_with (go_at_call 121;refine (unhide hp _).mono ?_;rintro e w' ⟨rfl,hww⟩;have hww':=hww.symm;subst hww';clear hww);go_ret;exact ⟨by rw [unhide hV3];rfl,unhide hg⟩
theorem halfAfter_any {z:Nat->UInt8} {wh:Bool} {fc:Nat->Bool} {b h g:Int} {PA:Array Value} (r:Row z wh fc b h g PA) (f t:Nat) (hf:f<64) (ht:t<64) (u:UInt8) (h0:0<=h) (h1:h<=65535) (w:World):Calls Tryz.prog 101 #[.agg PA,.agg #[.int .i64 (f:Int),.int .i64 (t:Int),.int .u8 (u.toNat:Int)]] w fun e w'=>e=.returned (.int .i64 (halA z f t h))/\Gr w w':=by
 have hP:=Pmm.start w PA f t u;have hp:=hide (fun W=>isPawn_any (z f) W);obtain ⟨m0,m1,m2⟩:=hP.cells;have cf:=hP.at (r.sq f hf);have ct:=hP.at (r.sq t ht);have ch:=hP.at r.h;have hg:=hide hP.gr;have hf0:(0:Int)<=(f:Int):=by omega
 have hf1:(f:Int)<64:=by omega
 have ht0:(0:Int)<=(t:Int):=by omega
 have ht1:(t:Int)<64:=by omega
 obtain ⟨V,hV⟩:∃ x,Hid (halA z f t h=x):=⟨_,hide rfl⟩;rw [unhide hV];obtain ⟨PW,hPW⟩:∃ x,Hid (pawnB (z f)=x):=⟨_,hide rfl⟩;rw [unhide hPW] at hp;obtain ⟨TK,hTK⟩:∃ x,Hid ((!decide (z t=46))=x):=⟨_,hide rfl⟩
 have htk:(((z t).toNat:Int) != 46)=TK:=by
  rw [<-unhide hTK];by_cases e:z t=46
  ·rw [e];rfl
  ·have:((z t).toNat:Int)≠46:=fun q=>e (UInt8.toNat_inj.1 (by show (z t).toNat=46;omega))
   rw [bne_iff_ne.2 this,decide_eq_false e];rfl
 have hV2:Hid (V=if PW||TK then 0 else min (h+1) 65535):=hide (by rw [<-unhide hV];unfold halA;rw [unhide hPW,unhide hTK]);have hw:IntKind.i64.wrap (h+1)=h+1:=by rw [IntKind.wrap_i64];omega
 clear hP;cases PW
 ·cases TK
  ·have hV3:Hid (V=min (h+1) 65535):=hide (by rw [unhide hV2];rfl);go_enter Tryz.func101,Tryz.ntmps101;go_wp2_with (go_at_call 121;refine (unhide hp _).mono ?_;rintro e w' ⟨rfl,hww⟩;have hww':=hww.symm;subst hww';clear hww);go_ret;exact ⟨by rw [unhide hV3];rfl,unhide hg⟩
  ·have hV3:Hid (V=0):=hide (by rw [unhide hV2];rfl);go_enter Tryz.func101,Tryz.ntmps101;go_wp2_with (go_at_call 121;refine (unhide hp _).mono ?_;rintro e w' ⟨rfl,hww⟩;have hww':=hww.symm;subst hww';clear hww);go_ret;exact ⟨by rw [unhide hV3];rfl,unhide hg⟩
 ·have hV3:Hid (V=0):=hide (by rw [unhide hV2];rfl);go_enter Tryz.func101,Tryz.ntmps101;go_wp2_with (go_at_call 121;refine (unhide hp _).mono ?_;rintro e w' ⟨rfl,hww⟩;have hww':=hww.symm;subst hww';clear hww);go_ret;exact ⟨by rw [unhide hV3];rfl,unhide hg⟩
theorem fullAfter_any {z:Nat->UInt8} {wh:Bool} {fc:Nat->Bool} {b h g:Int} {PA:Array Value} (r:Row z wh fc b h g PA) (g0:0<=g) (g1:g<=65535) (w:World):Calls Tryz.prog 102 #[.agg PA] w fun e w'=>e=.returned (.int .i64 (fulA wh g))/\Gr w w':=by
 have cw:(w.alloc (.cells PA 70)).cell? ⟨w.heap.size,64,none⟩=some (.bool wh):=by rw [World.cell?_alloc_at _ _ _ _ rfl];exact r.wh
 have cg:(w.alloc (.cells PA 70)).cell? ⟨w.heap.size,71,none⟩=some (.int .i64 g):=by rw [World.cell?_alloc_at _ _ _ _ rfl];exact r.g
 have hw:IntKind.i64.wrap (g+1)=g+1:=by rw [IntKind.wrap_i64];omega
 have hg:=hide ((Gr.refl w).alloc PA 70);clear r;cases wh
 ·go_enter Tryz.func102,Tryz.ntmps102;go_wp2_with fail;go_ret;exact ⟨rfl,unhide hg⟩
 ·go_enter Tryz.func102,Tryz.ntmps102;go_wp2_with fail;go_ret;exact ⟨rfl,unhide hg⟩
def hoA (k:Nat):Array Value:=#[.int .i64 (homeK k),.int .u8 (if k<2 then 75 else 107),.int .i64 (homeR k),.int .u8 (if k<2 then 82 else 114)]
theorem ixh_k (k:Nat) (hk:k<4) (w:World):(Instr.index 269 (.agg homesL.toArray) (.int .i64 (k:Int))).run Tryz.prog w=.ok (.agg (hoA k)) w:=by
 have:k=0\/k=1\/k=2\/k=3:=by omega
 rcases this with rfl|rfl|rfl|rfl
 ·exact ixh0 w
 ·exact ixh1 w
 ·exact ixh2 w
 ·exact ixh3 w
def toA (f t k:Nat):Bool:=tchB f t (homeK k)||tchB f t (homeR k)
def cfA (fc:Nat->Bool) (f t n k:Nat):Bool:=fc k&&!(decide (k<n)&&toA f t k)
def cfV (F:Nat->Bool):Array Value:=#[.bool (F 0),.bool (F 1),.bool (F 2),.bool (F 3)]
theorem cfV_at (F:Nat->Bool) (k:Nat) (hk:k<4):(cfV F)[k]?=some (.bool (F k)):=by
 have:k=0\/k=1\/k=2\/k=3:=by omega
 rcases this with rfl|rfl|rfl|rfl<;>rfl
theorem cfV_set (F:Nat->Bool) (k:Nat) (hk:k<4) (c:Bool):(cfV F).setIfInBounds k (.bool c)=cfV (fun j=>if j=k then c else F j):=by
 have:k=0\/k=1\/k=2\/k=3:=by omega
 rcases this with rfl|rfl|rfl|rfl<;>rfl
theorem cfV_congr {F G:Nat->Bool} (h:∀ k,k<4->F k=G k):cfV F=cfV G:=by
 unfold cfV;rw [h 0 (by omega),h 1 (by omega),h 2 (by omega),h 3 (by omega)]
theorem infoC4:(Tryz.prog.info? 68).map (·.size)=some 4:=by kernel_rfl
theorem cfV_ones (F:Nat->Bool):(cfV F).all (·.oneCell')=true:=by simp [cfV,Value.oneCell']
structure Ca (w:World) (F:Nat->Bool) (f t:Nat) (u:UInt8) (W:World):Prop where
 ca:W.heap[w.heap.size]?=some (.cells (cfV F) 68)
 mv:W.heap[w.heap.size+1]?=some (.cells #[.int .i64 (f:Int),.int .i64 (t:Int),.int .u8 (u.toNat:Int)] 87)
 rs:W.heap[w.heap.size+2]?=some (.cells (cfV fun _=>false) 68)
 lt:w.heap.size+2<W.heap.size
 gr:Gr w W
theorem Ca.next {w W W':World} {F:Nat->Bool} {f t:Nat} {u:UInt8} (h:Ca w F f t u W) (g:Gr W W'):Ca w F f t u W':=by
 have:=h.lt;exact ⟨(Below.block g _ (by omega)).trans h.ca,(Below.block g _ (by omega)).trans h.mv,(Below.block g _ h.lt).trans h.rs,Nat.lt_of_lt_of_le h.lt (Below.size g),Gr.trans h.gr g⟩
theorem Ca.set {w W:World} {F:Nat->Bool} {f t:Nat} {u:UInt8} (h:Ca w F f t u W) (k:Nat) (hk:k<4) (c:Bool):Ca w (fun j=>if j=k then c else F j) f t u (W.setCell ⟨w.heap.size,k,none⟩ (.bool c)):=by
 have fs:Fr (fun j _=>j≠w.heap.size) W (W.setCell ⟨w.heap.size,k,none⟩ (.bool c)):=(Fr.refl _ _).setCell _ (fun o _ q=>q rfl);have hs:(W.setCell ⟨w.heap.size,k,none⟩ (.bool c)).heap.size=W.heap.size:=World.size_setCell ..;exact ⟨by rw [<-cfV_set F k hk c];exact set_row3 h.ca,fs.same _ _ h.mv (by omega),fs.same _ _ h.rs (by omega),by rw [hs];exact h.lt,Below.setCell h.gr (Nat.le_refl _) _⟩
theorem castlingsAfter_any (fc:Nat->Bool) (f t:Nat) (u:UInt8) (w:World) (hH:Homes w):Calls Tryz.prog 99 #[.agg (cfV fc),.agg #[.int .i64 (f:Int),.int .i64 (t:Int),.int .u8 (u.toNat:Int)]] w fun e w'=>e=.returned (.agg (cfV (cfA fc f t 4)))/\Gr w w':=by
 obtain ⟨x1,x2,x3,x4⟩:=heapThree w (.cells (cfV fc) 68) (.cells #[.int .i64 (f:Int),.int .i64 (t:Int),.int .u8 (u.toNat:Int)] 87) (.cells (cfV fun _=>false) 68);have hg3:Gr w (((w.alloc (.cells (cfV fc) 68)).alloc (.cells #[.int .i64 (f:Int),.int .i64 (t:Int),.int .u8 (u.toNat:Int)] 87)).alloc (.cells (cfV fun _=>false) 68)):=(((Gr.refl w).alloc _ _).alloc _ _).alloc _ _;have hC0:Ca w fc f t u (((w.alloc (.cells (cfV fc) 68)).alloc (.cells #[.int .i64 (f:Int),.int .i64 (t:Int),.int .u8 (u.toNat:Int)] 87)).alloc (.cells (cfV fun _=>false) 68)):=⟨x1,x2,x3,by rw [x4];omega,hg3⟩;have hC0':=hide hC0;have hH':=hide (hH.gr hg3);have hto:=hide (fun (s:Int) W=>touches_any f t u s W);clear x1 x2 x3 x4 hg3 hC0 hH;generalize hL:homesL.toArray=HL;obtain ⟨RV,hRV⟩:∃ F,Hid (cfA fc f t 4=F):=⟨_,hide rfl⟩;rw [unhide hRV];show Calls Tryz.prog 99 #[.agg #[.bool (fc 0),.bool (fc 1),.bool (fc 2),.bool (fc 3)],.agg #[.int .i64 (f:Int),.int .i64 (t:Int),.int .u8 (u.toNat:Int)]] w fun e w'=>e=.returned (.agg (cfV RV))/\Gr w w'
 go_enter Tryz.func99,Tryz.ntmps99;go_upto_region 1 with fail;show Code.wp _ _ _ _ (((w.alloc (.cells (cfV fc) 68)).alloc (.cells #[.int .i64 (f:Int),.int .i64 (t:Int),.int .u8 (u.toNat:Int)] 87)).alloc (.cells (cfV fun _=>false) 68));generalize (((w.alloc (.cells (cfV fc) 68)).alloc (.cells #[.int .i64 (f:Int),.int .i64 (t:Int),.int .u8 (u.toNat:Int)] 87)).alloc (.cells (cfV fun _=>false) 68))=w0 at hC0' hH' ⊢;go_wp2_with (refine wpList_load_mid rfl 269 _ rfl 1 0 rfl homesL _ (unhide hH').1 Tryz.underlying269 rfl info16 ?_);go_loopg [8] 4 (fun gm n wr=>∃ k:Nat,k+gm=4/\n=.int .i64 (k:Int)/\Ca w (cfA fc f t k) f t u wr)
 case atStart=>exact ⟨0,by omega,rfl,by
  have:cfA fc f t 0=fc:=by funext j;unfold cfA;simp
  rw [this];exact unhide hC0'⟩
 case round =>
  clear hC0' hH';obtain ⟨k,k1,rfl,hC⟩:=hrel;by_cases hk:k<4
  ·obtain ⟨KL,hKL⟩:∃ x:Int,Hid ((if k<2 then (75:Int) else 107)=x):=⟨_,hide rfl⟩;obtain ⟨RL,hRL⟩:∃ x:Int,Hid ((if k<2 then (82:Int) else 114)=x):=⟨_,hide rfl⟩
   have hix:∀ W:World,(Instr.index 269 (.agg HL) (.int .i64 (k:Int))).run Tryz.prog W=.ok (.agg #[.int .i64 (homeK k),.int .u8 KL,.int .i64 (homeR k),.int .u8 RL]) W:=fun W=>by
    rw [<-unhide hKL,<-unhide hRL,<-hL];exact ixh_k k hk W
   clear hKL hRL
   have hcf:Hid (∀ j,j<4->cfA fc f t (k+1) j=if j=k then fc k&&!(toA f t k) else cfA fc f t k j):=hide (fun j _=>by
    unfold cfA;by_cases e:j=k
    ·subst e;rw [if_pos rfl,decide_eq_true (by omega)];rfl
    ·rw [if_neg e]
     have:decide (j<k+1)=decide (j<k):=by
      by_cases q:j<k
      ·rw [decide_eq_true q,decide_eq_true (by omega)]
      ·rw [decide_eq_false q,decide_eq_false (by omega)]
     rw [this])
   have hself:Hid (cfA fc f t k k=fc k):=hide (by unfold cfA;simp);have hta:Hid (toA f t k=(tchB f t (homeK k)||tchB f t (homeR k))):=hide rfl;obtain ⟨TA,hTA⟩:∃ x,Hid (toA f t k=x):=⟨_,hide rfl⟩;rw [unhide hTA] at hta hcf;obtain ⟨HK,hHK⟩:∃ x,Hid (homeK k=x):=⟨_,hide rfl⟩;obtain ⟨HR,hHR⟩:∃ x,Hid (homeR k=x):=⟨_,hide rfl⟩;rw [unhide hHK,unhide hHR] at hta
   have hix2:∀ W:World,(Instr.index 269 (.agg HL) (.int .i64 (k:Int))).run Tryz.prog W=.ok (.agg #[.int .i64 HK,.int .u8 KL,.int .i64 HR,.int .u8 RL]) W:=fun W=>by
    rw [<-unhide hHK,<-unhide hHR];exact hix W
   clear hix hHK hHR hTA;go_upto_region 4 with fail;have hx:=World.alloc_heap_new wr (.cells #[.int .i64 HK,.int .u8 KL,.int .i64 HR,.int .u8 RL] 268);have hCa:=hC.next ((Gr.refl wr).alloc #[.int .i64 HK,.int .u8 KL,.int .i64 HR,.int .u8 RL] 268);show Code.wp _ _ _ _ (wr.alloc (.cells #[.int .i64 HK,.int .u8 KL,.int .i64 HR,.int .u8 RL] 268));generalize (wr.alloc (.cells #[.int .i64 HK,.int .u8 KL,.int .i64 HR,.int .u8 RL] 268))=w4 at hx hCa ⊢;generalize wr.heap.size=Bh4 at hx ⊢;have c0:w4.cell? ⟨Bh4,0,none⟩=some (.int .i64 HK):=by rw [cells_at hx];rfl
   have c2:w4.cell? ⟨Bh4,2,none⟩=some (.int .i64 HR):=by rw [cells_at hx];rfl
   have hbl:Bh4<w4.heap.size:=World.block_lt_of_cell? _ _ c0;have m0:w4.cell? ⟨w.heap.size+1,0,none⟩=some (.int .i64 (f:Int)):=by rw [cells_at hCa.mv];rfl
   have m1:w4.cell? ⟨w.heap.size+1,1,none⟩=some (.int .i64 (t:Int)):=by rw [cells_at hCa.mv];rfl
   have m2:w4.cell? ⟨w.heap.size+1,2,none⟩=some (.int .u8 (u.toNat:Int)):=by rw [cells_at hCa.mv];rfl
   clear hx hC hix2;go_cut [21] from 9 to 24 (fun s21 wx=>s21=.bool TA/\Ca w (cfA fc f t k) f t u wx)
   case first =>
    obtain ⟨y1,q1⟩:∃ x,tchB f t HK=x:=⟨_,rfl⟩;obtain ⟨y2,q2⟩:∃ x,tchB f t HR=x:=⟨_,rfl⟩;rw [q1,q2] at hta;have hml:w.heap.size+1<w4.heap.size:=World.block_lt_of_cell? _ _ m0;clear hcf hself;cases y1
    ·go_wp2_with (go_at_call 190;refine (unhide hto _ _).mono ?_;rintro e w5 ⟨rfl,hg5⟩;have c2:=(Below.cell hg5 (p:=⟨Bh4,2,none⟩) hbl).trans c2;have m0:=(Below.cell hg5 (p:=⟨w.heap.size+1,0,none⟩) hml).trans m0;have m1:=(Below.cell hg5 (p:=⟨w.heap.size+1,1,none⟩) hml).trans m1;have m2:=(Below.cell hg5 (p:=⟨w.heap.size+1,2,none⟩) hml).trans m2;have hCa:=hCa.next hg5;have hbl:=Nat.lt_of_lt_of_le hbl (Below.size hg5);have hml:=Nat.lt_of_lt_of_le hml (Below.size hg5));go_meet
     case rel=>exact ⟨by rw [unhide hta];rfl,hCa⟩
    ·go_wp2_with (go_at_call 190;refine (unhide hto _ _).mono ?_;rintro e w5 ⟨rfl,hg5⟩;have c2:=(Below.cell hg5 (p:=⟨Bh4,2,none⟩) hbl).trans c2;have m0:=(Below.cell hg5 (p:=⟨w.heap.size+1,0,none⟩) hml).trans m0;have m1:=(Below.cell hg5 (p:=⟨w.heap.size+1,1,none⟩) hml).trans m1;have m2:=(Below.cell hg5 (p:=⟨w.heap.size+1,2,none⟩) hml).trans m2;have hCa:=hCa.next hg5;have hbl:=Nat.lt_of_lt_of_le hbl (Below.size hg5);have hml:=Nat.lt_of_lt_of_le hml (Below.size hg5));go_meet
     case rel=>exact ⟨by rw [unhide hta];rfl,hCa⟩
   case rest =>
    obtain ⟨rfl,hCc⟩:=hcut;clear hCa c0 c2 m0 m1 m2 hbl hta;go_upto_if 21 with fail;cases TA
    ·have hcc:Hid (cfV (cfA fc f t (k+1))=cfV (cfA fc f t k)):=hide (cfV_congr fun j hj=>by
      rw [unhide hcf j hj];by_cases e:j=k
      ·subst e;rw [if_pos rfl,unhide hself];simp
      ·rw [if_neg e])
     have hCd:Hid (Ca w (cfA fc f t (k+1)) f t u wc):=hide ⟨by rw [unhide hcc];exact hCc.ca,hCc.mv,hCc.rs,hCc.lt,hCc.gr⟩;clear hCc hcf hself;go_wp2_with fail;go_roundg (gk-1)
     case measure=>omega
     case rel=>exact ⟨k+1,by omega,by go_num,unhide hCd⟩
    ·have hcc:Hid (cfV (cfA fc f t (k+1))=cfV (fun j=>if j=k then false else cfA fc f t k j)):=hide (cfV_congr fun j hj=>by
      rw [unhide hcf j hj];by_cases e:j=k
      ·rw [if_pos e,if_pos e];simp
      ·rw [if_neg e,if_neg e])
     have hCs:=hCc.set k hk false;have hCd:Hid (Ca w (cfA fc f t (k+1)) f t u (wc.setCell ⟨w.heap.size,k,none⟩ (.bool false))):=hide ⟨by rw [unhide hcc];exact hCs.ca,hCs.mv,hCs.rs,hCs.lt,hCs.gr⟩;have qk:wc.cell? ⟨w.heap.size,k,none⟩=some (.bool (cfA fc f t k k)):=by rw [cells_at hCc.ca];exact cfV_at _ k hk
     have ok:wc.frozen? ⟨w.heap.size,k,none⟩=false:=row_open hCc.ca;have dd0:(0:Int)<=(k:Int):=by omega
     have dd1:(k:Int)<4:=by omega
     clear hCc hcf hself hCs hcc;go_wp2_with fail;go_roundg (gk-1)
     case measure=>omega
     case rel=>exact ⟨k+1,by omega,by go_num,unhide hCd⟩
  ·have ek:k=4:=by omega
   subst ek;have hca:=hide hC.ca;have hrs:Hid (wr.heap[w.heap.size+1+1]?=some (.cells (cfV fun _=>false) 68)):=hide hC.rs;have hgr:=hide hC.gr;clear hC;rw [unhide hRV] at hca
   go_wp2_with (first
    | (refine wpList_load_row rfl 68 _ rfl w.heap.size rfl 68 (cfV RV) (0,0) _ (unhide hca) Tryz.underlying68 rfl infoC4 ?_)
    | (refine wpList_store_row rfl 68 _ _ rfl (w.heap.size+1+1) (cfV RV) rfl rfl 68 (cfV fun _=>false) (unhide hrs) infoC4 rfl (cfV_ones RV) ?_))
   exact bodyPost_ret (v:=.agg (cfV RV)) (results_cell_row Tryz.results99 _ _ (w.heap.size+1+1) 68 _ (0,0) _ rfl (setRow_heap _ _ _ _ _ _ (unhide hrs)) Tryz.underlying68 rfl infoC4) rfl ⟨rfl,(unhide hgr).setRow _ (by omega) _⟩
structure Af3 (w:World) (PA:Array Value) (f t:Nat) (u:UInt8) (W:World):Prop where
 pm:Pmm w PA f t u W
 rs:∃ R,R.size=72/\W.heap[w.heap.size+1+1]?=some (.cells R 70)
 lt:w.heap.size+1+1<W.heap.size
theorem Af3.next {w W W':World} {PA:Array Value} {f t:Nat} {u:UInt8} (h:Af3 w PA f t u W) (g:Gr W W'):Af3 w PA f t u W':=by
 obtain ⟨R,r1,r2⟩:=h.rs;exact ⟨h.pm.next g,⟨R,r1,(Below.block g _ h.lt).trans r2⟩,Nat.lt_of_lt_of_le h.lt (Below.size g)⟩
theorem Af3.put {w W:World} {PA:Array Value} {f t:Nat} {u:UInt8} (h:Af3 w PA f t u W) (X:Array Value) (hX:X.size=72):Af3 w PA f t u (W.setRow (w.heap.size+1+1) X):=by
 obtain ⟨R,r1,r2⟩:=h.rs;exact ⟨⟨by rw [setRow_other _ _ _ _ (by omega)];exact h.pm.pa,by rw [setRow_other _ _ _ _ (by omega)];exact h.pm.mv,by rw [size_setRow];exact h.pm.lt,h.pm.gr.setRow _ (by omega) _⟩,⟨X,hX,setRow_heap _ _ _ _ _ _ r2⟩,by rw [size_setRow];exact h.lt⟩
theorem afterP_any {z:Nat->UInt8} {wh:Bool} {fc:Nat->Bool} {b h g:Int} {PA:Array Value} (r:Row z wh fc b h g PA) (f t:Nat) (u:UInt8) (hf:f<64) (ht:t<64) (hk1:kingB (z f)=true->t=f+2->f+3<64) (hk2:kingB (z f)=true->t+2=f->4<=f) (h0:0<=h) (h1:h<=65535) (g0:0<=g) (g1:g<=65535) (w:World) (hH:Homes w) :
  Calls Tryz.prog 50 #[.agg PA,.agg #[.int .i64 (f:Int),.int .i64 (t:Int),.int .u8 (u.toNat:Int)]] w fun e w'=>∃ Q,e=.returned (.agg Q)/\Row (plZ z b (f,t,u)) (!wh) (cfA fc f t 4) (behA z f t) (halA z f t h) (fulA wh g) Q/\Gr w w':=by
 have hz:=r.size;have hr:=hide r;have hpl:=hide (fun W=>placeL_any r f t u hf ht hk1 hk2 W);have hca:Hid (∀ W,Homes W->Calls Tryz.prog 99 #[.agg #[.bool (fc 0),.bool (fc 1),.bool (fc 2),.bool (fc 3)],.agg #[.int .i64 (f:Int),.int .i64 (t:Int),.int .u8 (u.toNat:Int)]] W fun e w'=>e=.returned (.agg (cfV (cfA fc f t 4)))/\Gr W w'):=hide (fun W hh=>castlingsAfter_any fc f t u W hh);have hbh:=hide (fun W=>behindAfter_any r f t hf ht u W);have hha:=hide (fun W=>halfAfter_any r f t hf ht u h0 h1 W);have hfu:=hide (fun W=>fullAfter_any r g0 g1 W);obtain ⟨x1,x2,x3,x4⟩:=heapThree w (.cells PA 70) (.cells #[.int .i64 (f:Int),.int .i64 (t:Int),.int .u8 (u.toNat:Int)] 87) (.cells Tryz.zeroCells70 70);have hP0:=(Pmm.start w PA f t u).next ((Gr.refl _).alloc Tryz.zeroCells70 70);have hA0:Af3 w PA f t u (((w.alloc (.cells PA 70)).alloc (.cells #[.int .i64 (f:Int),.int .i64 (t:Int),.int .u8 (u.toNat:Int)] 87)).alloc (.cells Tryz.zeroCells70 70)):=⟨hP0,⟨_,zeroP,x3⟩,by rw [x4];omega⟩;have hH':=hide hH;clear x1 x2 x3 x4 hP0 r hH;obtain ⟨CQ,hC⟩:∃ x,Hid (cfA fc f t 4=x):=⟨_,hide rfl⟩;obtain ⟨bb,hbb⟩:∃ x,Hid (behA z f t=x):=⟨_,hide rfl⟩;obtain ⟨hh,hhh⟩:∃ x,Hid (halA z f t h=x):=⟨_,hide rfl⟩;obtain ⟨gg,hgg⟩:∃ x,Hid (fulA wh g=x):=⟨_,hide rfl⟩;rw [unhide hC] at hca ⊢;rw [unhide hbb] at hbh ⊢;rw [unhide hhh] at hha ⊢;rw [unhide hgg] at hfu ⊢;clear hC hbb hhh hgg;go_enter Tryz.func50,Tryz.ntmps50;go_upto_region 1 with fail;show Code.wp _ _ _ _ (((w.alloc (.cells PA 70)).alloc (.cells #[.int .i64 (f:Int),.int .i64 (t:Int),.int .u8 (u.toNat:Int)] 87)).alloc (.cells Tryz.zeroCells70 70));generalize (((w.alloc (.cells PA 70)).alloc (.cells #[.int .i64 (f:Int),.int .i64 (t:Int),.int .u8 (u.toNat:Int)] 87)).alloc (.cells Tryz.zeroCells70 70))=w0 at hA0 ⊢;have hA1:=hA0.next (Gr.refl _).drew;clear hA0;refine wp_region_held_drew (S:=Af3 w PA f t u) (by kernel_rfl) hA1 (fun hHeld=>?_);clear hA1;refine C.ty 0 (.agg PA) rfl (y_pos hz (by rfl) _ rfl w.heap.size rfl (fun _ h=>rowOf h.pm.pa)) hHeld ?_;refine C.ty 1 (.agg #[.int .i64 (f:Int),.int .i64 (t:Int),.int .u8 (u.toNat:Int)]) rfl (Or.inl ⟨by rfl,fun w' hw=>(by obtain ⟨m0,m1,m2⟩:=hw.pm.cells;have c64:=hw.pm.at (unhide hr).wh;have c65:=hw.pm.at ((unhide hr).c 0 (by decide));have c66:=hw.pm.at ((unhide hr).c 1 (by decide));have c67:=hw.pm.at ((unhide hr).c 2 (by decide));have c68:=hw.pm.at ((unhide hr).c 3 (by decide));go_simp)⟩) hHeld ?_;refine C.ty 3 (.pointer (some ⟨w.heap.size,64,none⟩)) rfl (Or.inl ⟨by rfl,fun w' hw=>(by obtain ⟨m0,m1,m2⟩:=hw.pm.cells;have c64:=hw.pm.at (unhide hr).wh;have c65:=hw.pm.at ((unhide hr).c 0 (by decide));have c66:=hw.pm.at ((unhide hr).c 1 (by decide));have c67:=hw.pm.at ((unhide hr).c 2 (by decide));have c68:=hw.pm.at ((unhide hr).c 3 (by decide));go_simp)⟩) hHeld ?_;refine C.ty 4 (.bool wh) rfl (Or.inl ⟨by rfl,fun w' hw=>(by obtain ⟨m0,m1,m2⟩:=hw.pm.cells;have c64:=hw.pm.at (unhide hr).wh;have c65:=hw.pm.at ((unhide hr).c 0 (by decide));have c66:=hw.pm.at ((unhide hr).c 1 (by decide));have c67:=hw.pm.at ((unhide hr).c 2 (by decide));have c68:=hw.pm.at ((unhide hr).c 3 (by decide));go_simp)⟩) hHeld ?_;refine C.ty 5 (.bool (!wh)) rfl (Or.inl ⟨by rfl,fun w' hw=>(by obtain ⟨m0,m1,m2⟩:=hw.pm.cells;have c64:=hw.pm.at (unhide hr).wh;have c65:=hw.pm.at ((unhide hr).c 0 (by decide));have c66:=hw.pm.at ((unhide hr).c 1 (by decide));have c67:=hw.pm.at ((unhide hr).c 2 (by decide));have c68:=hw.pm.at ((unhide hr).c 3 (by decide));go_simp)⟩) hHeld ?_;refine C.ty 6 (.pointer (some ⟨w.heap.size,65,none⟩)) rfl (Or.inl ⟨by rfl,fun w' hw=>(by obtain ⟨m0,m1,m2⟩:=hw.pm.cells;have c64:=hw.pm.at (unhide hr).wh;have c65:=hw.pm.at ((unhide hr).c 0 (by decide));have c66:=hw.pm.at ((unhide hr).c 1 (by decide));have c67:=hw.pm.at ((unhide hr).c 2 (by decide));have c68:=hw.pm.at ((unhide hr).c 3 (by decide));go_simp)⟩) hHeld ?_;refine C.ty 7 (.agg #[.bool (fc 0),.bool (fc 1),.bool (fc 2),.bool (fc 3)]) rfl (Or.inl ⟨by rfl,fun w' hw=>(by obtain ⟨m0,m1,m2⟩:=hw.pm.cells;have c64:=hw.pm.at (unhide hr).wh;have c65:=hw.pm.at ((unhide hr).c 0 (by decide));have c66:=hw.pm.at ((unhide hr).c 1 (by decide));have c67:=hw.pm.at ((unhide hr).c 2 (by decide));have c68:=hw.pm.at ((unhide hr).c 3 (by decide));go_simp)⟩) hHeld ?_;refine C.ty 8 (.agg #[.int .i64 (f:Int),.int .i64 (t:Int),.int .u8 (u.toNat:Int)]) rfl (Or.inl ⟨by rfl,fun w' hw=>(by obtain ⟨m0,m1,m2⟩:=hw.pm.cells;have c64:=hw.pm.at (unhide hr).wh;have c65:=hw.pm.at ((unhide hr).c 0 (by decide));have c66:=hw.pm.at ((unhide hr).c 1 (by decide));have c67:=hw.pm.at ((unhide hr).c 2 (by decide));have c68:=hw.pm.at ((unhide hr).c 3 (by decide));go_simp)⟩) hHeld ?_;refine C.ty 10 (.agg PA) rfl (y_pos hz (by rfl) _ rfl w.heap.size rfl (fun _ h=>rowOf h.pm.pa)) hHeld ?_;refine C.ty 11 (.agg #[.int .i64 (f:Int),.int .i64 (t:Int),.int .u8 (u.toNat:Int)]) rfl (Or.inl ⟨by rfl,fun w' hw=>(by obtain ⟨m0,m1,m2⟩:=hw.pm.cells;have c64:=hw.pm.at (unhide hr).wh;have c65:=hw.pm.at ((unhide hr).c 0 (by decide));have c66:=hw.pm.at ((unhide hr).c 1 (by decide));have c67:=hw.pm.at ((unhide hr).c 2 (by decide));have c68:=hw.pm.at ((unhide hr).c 3 (by decide));go_simp)⟩) hHeld ?_;refine C.ty 13 (.agg PA) rfl (y_pos hz (by rfl) _ rfl w.heap.size rfl (fun _ h=>rowOf h.pm.pa)) hHeld ?_
 refine C.ty 14 (.agg #[.int .i64 (f:Int),.int .i64 (t:Int),.int .u8 (u.toNat:Int)]) rfl (Or.inl ⟨by rfl,fun w' hw=>(by obtain ⟨m0,m1,m2⟩:=hw.pm.cells;have c64:=hw.pm.at (unhide hr).wh;have c65:=hw.pm.at ((unhide hr).c 0 (by decide));have c66:=hw.pm.at ((unhide hr).c 1 (by decide));have c67:=hw.pm.at ((unhide hr).c 2 (by decide));have c68:=hw.pm.at ((unhide hr).c 3 (by decide));go_simp)⟩) hHeld ?_;refine C.ty 16 (.agg PA) rfl (y_pos hz (by rfl) _ rfl w.heap.size rfl (fun _ h=>rowOf h.pm.pa)) hHeld ?_;refine C.rd 2 fun K hK=>?_
 go_simp;refine (unhide hpl _).mono ?_;rintro e wa2 ⟨BA,rfl,hBA,hga2⟩;refine hK.out _ _ (hHeld.next hga2) (fun hHeld=>?_);clear hK K hga2
 try simp only [C.py]
 refine C.rd 9 fun K hK=>?_
 go_simp;refine (unhide hca _ ((unhide hH').gr hHeld.pm.gr)).mono ?_;rintro e wa9 ⟨rfl,hga9⟩;refine hK.out _ _ (hHeld.next hga9) (fun hHeld=>?_);clear hK K hga9
 try simp only [C.py]
 refine C.rd 12 fun K hK=>?_
 go_simp;refine (unhide hbh _).mono ?_;rintro e wa12 ⟨rfl,hga12⟩;refine hK.out _ _ (hHeld.next hga12) (fun hHeld=>?_);clear hK K hga12
 try simp only [C.py]
 refine C.rd 15 fun K hK=>?_
 go_simp;refine (unhide hha _).mono ?_;rintro e wa15 ⟨rfl,hga15⟩;refine hK.out _ _ (hHeld.next hga15) (fun hHeld=>?_);clear hK K hga15
 try simp only [C.py]
 refine C.rd 17 fun K hK=>?_
 go_simp;refine (unhide hfu _).mono ?_;rintro e wa17 ⟨rfl,hga17⟩;refine hK.out _ _ (hHeld.next hga17) (fun hHeld=>?_);clear hK K hga17
 try simp only [C.py]
 refine C.ty 18 (.agg (posA BA (!wh) (CQ 0) (CQ 1) (CQ 2) (CQ 3) bb hh gg)) rfl (y_build (by rfl) 70 #[(0,.tmp 7),(1,.tmp 10),(2,.tmp 14),(3,.tmp 17),(4,.tmp 20),(5,.tmp 22)] rfl _ (by simp only [List.map_toArray,List.map_cons,List.map_nil];exact built_pos BA hBA.1 (!wh) (CQ 0) (CQ 1) (CQ 2) (CQ 3) bb hh gg)) hHeld ?_;have hpz:(posA BA (!wh) (CQ 0) (CQ 1) (CQ 2) (CQ 3) bb hh gg).size=72:=by unfold posA;simp [hBA.1]
 have hrw:=row_posA _ BA hBA.1 hBA.2 (!wh) CQ bb hh gg;have hon:=row_ones hrw;refine C.rd 19 fun K hK=>?_
 rw [if_pos (by rfl)];obtain ⟨R,r1,hrs⟩:=hHeld.rs;refine wp_store_row 70 _ _ rfl (w.heap.size+1+1) (posA BA (!wh) (CQ 0) (CQ 1) (CQ 2) (CQ 3) bb hh gg) rfl rfl 70 R hrs (by rw [hpz];exact infoP) (by rw [hpz,r1]) hon ?_;have hgf:=hide (hHeld.pm.gr.setRow (w.heap.size+1+1) (by omega) (posA BA (!wh) (CQ 0) (CQ 1) (CQ 2) (CQ 3) bb hh gg));refine hK.out _ _ (hHeld.put _ hpz) (fun hHeld=>?_);clear hK K
 try simp only [C.py]
 refine wpAnyH_done (by kernel_rfl) ?_ _;go_wp2_with fail;exact bodyPost_ret (v:=.agg (posA BA (!wh) (CQ 0) (CQ 1) (CQ 2) (CQ 3) bb hh gg)) (results_cell_row Tryz.results50 _ _ (w.heap.size+1+1) 70 _ (0,0) _ rfl (setRow_heap _ _ _ _ _ _ hrs) Tryz.underlying70 rfl (by rw [hpz];exact infoP)) rfl ⟨_,rfl,hrw,unhide hgf⟩
end Go.Proofs.YtnfakamfmkhlbabGreatDoor.C
namespace Go.Proofs.YtnfakamfmkhlbabGreatDoor.C
open Go.ChangeShapes Go.WideShapes Go.ChangeAt Go.RowKit
attribute [local go_sem] setCell_drewN alloc_drewN
def turnsL:List UInt8:=[113,114,98,110]
def rdT (s:ByteArray):UInt8 × Bool:=if h:0<s.size then (s[0],decide (0<=Lib.indexByte turnsL s[0])) else (0,true)
def mvR (s:ByteArray):Option (Nat × Nat × UInt8) :=
 if s.size=4\/s.size=5 then
  match sqS (s.extract 0 2),sqS (s.extract 2 4) with
  | some f,some t=>if (rdT (s.extract 4 s.size)).2 then some (f,t,(rdT (s.extract 4 s.size)).1) else none
  | _,_=>none
 else none
end Go.Proofs.YtnfakamfmkhlbabGreatDoor.C
namespace Go.Proofs.YtnfakamfmkhlbabGreatDoor.C
open Go.ChangeShapes Go.WideShapes Go.ChangeAt Go.RowKit Go.Shelf
open Go.Proofs.YtnfakamfmkhlbabGreatDoor.P
attribute [local go_sem] setCell_drewN alloc_drewN Oper.semAt_some
theorem results_cct {P:Program} {fn:Func} {p p2 q:Tmp} {ty ty2:TypeId} (h:fn.results=#[.cell p ty,.cell p2 ty2,.tmp q]) (tmps:Array Value) (w:World) (g g2:Nat) (t t2:TypeId) (cs cs2:Array Value) (fr fr2:Nat × Nat) (d d2:TypeDesc)
  (hp:tmps.getD p undef=.pointer (some ⟨g,0,none⟩)) (hg:w.heap[g]?=some (.cells cs t fr)) (hu:P.underlying ty=some d) (hd:(match d with|.struct _|.array _ _=>true|_=>false)=true) (hi:(P.info? ty).map (·.size)=some cs.size)
  (hp2:tmps.getD p2 undef=.pointer (some ⟨g2,0,none⟩)) (hg2:w.heap[g2]?=some (.cells cs2 t2 fr2)) (hu2:P.underlying ty2=some d2) (hd2:(match d2 with|.struct _|.array _ _=>true|_=>false)=true) (hi2:(P.info? ty2).map (·.size)=some cs2.size) :
  (results fn tmps).run P w=.ok (.tuple #[.agg cs,.agg cs2,tmps.getD q undef]) w:=by
 have hp':tmps[p]?.getD undef=.pointer (some ⟨g,0,none⟩):=by simpa using hp
 have hp2':tmps[p2]?.getD undef=.pointer (some ⟨g2,0,none⟩):=by simpa using hp2
 simp [results,h,hp',hp2',asAddr,run_loadVar_row w g t ty cs fr d hg hu hd hi,run_loadVar_row w g2 t2 ty2 cs2 fr2 d2 hg2 hu2 hd2 hi2]
def afW (p:Pos) (x:Mv):List UInt8:=writeS (plZ (posZ p) p.behind x) (!p.white) (cfA p.castle x.1 x.2.1 4) (behA (posZ p) x.1 x.2.1) (halA (posZ p) x.1 x.2.1 p.half) (fulA p.white p.full)
def ErrK (s t:ByteArray) (k:Int):Prop:=BadK s k\/(k=1/\∃ p,readS s=some p/\posCan p=true/\mvR t=none)\/(k=4/\∃ p x,readS s=some p/\posCan p=true/\mvR t=some x/\x∉movS (posZ p) p.white p.castle p.behind)
def PlayEnd (s t:ByteArray) (e:Ending):Prop :=
 (∃ k,k≠0/\ErrK s t k/\e=.returned (.tuple #[.string ⟨#[]⟩,.int .i64 k])) ∨
 (∃ p x,readS s=some p/\posCan p=true/\mvR t=some x/\x∈movS (posZ p) p.white p.castle p.behind/\e=.returned (.tuple #[.string ⟨(afW p x).toArray⟩,.int .i64 0]))
theorem aft_bounds (z:Nat->UInt8) (f t:Nat) (hf:f<64) (ht:t<64) {h:Int} (h0:0<=h) {wh:Bool} {g:Int} (g0:0<=g) (g1:g<=65535):(behA z f t=-1\/(0<=behA z f t/\behA z f t<64))/\0<=halA z f t h/\halA z f t h<=65535/\0<=fulA wh g/\fulA wh g<=65535:=by
 unfold behA halA fulA;refine ⟨?_,?_,?_,?_,?_⟩
 ·split
  ·right;omega
  ·left;rfl
 ·split<;>omega
 ·split<;>omega
 ·split<;>omega
 ·split<;>omega
end Go.Proofs.YtnfakamfmkhlbabGreatDoor.C
namespace Go.Proofs.YtnfakamfmkhlbabGreatDoor.C
open Go.ChangeShapes Go.WideShapes Go.ChangeAt Go.RowKit Go.Shelf
theorem rdT_4 {s:ByteArray} (h:s.size=4):rdT (s.extract 4 s.size)=(0,true):=by
 have:¬ 0<(s.extract 4 s.size).size:=by rw [ByteArray.size_extract];omega
 unfold rdT;rw [dif_neg this]
theorem rdT_5 {s:ByteArray} (h:s.size=5):rdT (s.extract 4 s.size)=(s[4],decide (0<=Lib.indexByte turnsL s[4])):=by
 have h1:0<(s.extract 4 s.size).size:=by rw [ByteArray.size_extract];omega
 have h2:(s.extract 4 s.size)[0]=s[4]:=by rw [ByteArray.getElem_extract]
 unfold rdT;rw [dif_pos h1,h2]
end Go.Proofs.YtnfakamfmkhlbabGreatDoor.C
namespace Go.Proofs.YtnfakamfmkhlbabGreatDoor.C
open Go.RowKit
open Go.Proofs.YtnfakamfmkhlbabGreatDoor.P
theorem pawn_kd:∀ c:UInt8,pawnB c=decide (kdc c=0):=all256 (by decide +kernel)
theorem beq_int (a b:Int):(a==b)=decide (a=b):=rfl
theorem att0_up {z:Nat->UInt8} {wh:Bool} {f t:Nat} (h:attI (zI z) 0 (sdb wh) (f:Int) (t:Int)=true):upR f t=sdb wh:=by
 unfold attI at h;rw [if_pos rfl,Bool.and_eq_true] at h;have h2:=of_decide_eq_true h.2;unfold upR;omega
end Go.Proofs.YtnfakamfmkhlbabGreatDoor.C
namespace Go.Proofs.YtnfakamfmkhlbabGreatDoor.C
open Go.ChangeShapes Go.WideShapes Go.ChangeAt Go.RowKit Go.Shelf
open Go.Proofs.YtnfakamfmkhlbabGreatDoor.P
attribute [local go_sem] setCell_drewN alloc_drewN Oper.semAt_some
theorem heap_lt {W:World} {b:Nat} {o:Obj} (h:W.heap[b]?=some o):b<W.heap.size:=(Array.getElem?_eq_some_iff.1 h).1
theorem err_one {s t:ByteArray} {k k':Int} (h:ErrK s t k) (h':ErrK s t k'):k=k':=by
 rcases h with (⟨e,a⟩|⟨e,q,a,b⟩)|⟨e,q,a,b,c⟩|⟨e,q,y,a,b,c,d⟩<;>rcases h' with (⟨e',a'⟩|⟨e',q',a',b'⟩)|⟨e',q',a',b',c'⟩|⟨e',q',y',a',b',c',d'⟩<;>first|(rw [e,e'];done)|(exfalso;rw [a] at a';first|(cases a';done)|(have a2:=Option.some.inj a';subst a2;first|(rw [b] at b';cases b';done)|(rw [c] at c';cases c')))
end Go.Proofs.YtnfakamfmkhlbabGreatDoor.C
