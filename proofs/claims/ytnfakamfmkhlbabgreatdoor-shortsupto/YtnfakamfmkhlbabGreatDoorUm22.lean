import Derived.Test.YtnfakamfmkhlbabGreatDoorUm18
import Derived.Test.YtnfakamfmkhlbabGreatDoorUm21
import Derived.Test.YtnfakamfmkhlbabGreatDoorUm11
import Derived.Test.YtnfakamfmkhlbabGreatDoorUm12
import Derived.Test.YtnfakamfmkhlbabGreatDoorUm2
import Derived.Test.YtnfakamfmkhlbabGreatDoorUm4
import Derived.Deep.QuietTactic
import Derived.BigQuiet
import Derived.Deep.RegionHeld3
import Derived.Test.YtnfakamfmkhlbabGreatDoorUm19
import Derived.Test.YtnfakamfmkhlbabGreatDoorKz2
import Derived.Test.YtnfakamfmkhlbabGreatDoorKz3
set_option maxRecDepth 100000
set_option maxHeartbeats 4000000
set_option linter.unusedSimpArgs false
namespace Go.Proofs.YtnfakamfmkhlbabGreatDoor.C
open Go.ChangeShapes Go.WideShapes Go.ChangeAt Go.RowKit Go.Proofs.YtnfakamfmkhlbabGreatDoor.P Go.Shelf
section
attribute [local go_sem] qd qe
structure nn(w:World)(PA:Array Value)(f t:Nat)(u:UInt8)(W:World):Prop where
 pa:W.heap[w.heap.size]?=some (.cells PA 70)
 mv:W.heap[w.heap.size+1]?=some (.cells #[.int .i64 (f:Int),.int .i64 (t:Int),.int .u8 (u.toNat:Int)] 87)
 lt:w.heap.size+1<W.heap.size
 gr:Gr w W
theorem nn.next{w W W':World}{PA:Array Value}{f t:Nat}{u:UInt8}(h:nn w PA f t u W)(g:Gr W W'):nn w PA f t u W' :=
 ⟨(Below.block g _ (Nat.lt_of_succ_lt h.lt)).trans h.pa,(Below.block g _ h.lt).trans h.mv,qN h.lt (Below.size g),Gr.trans h.gr g⟩
theorem nn.start(w:World)(PA:Array Value)(f t:Nat)(u:UInt8):nn w PA f t u ((w.alloc (.cells PA 70)).alloc (.cells #[.int .i64 (f:Int),.int .i64 (t:Int),.int .u8 (u.toNat:Int)] 87)):=by
 obtain⟨e1,e2⟩:=eQ (w:=w) (PA:=PA) (o:=#[.int .i64 (f:Int),.int .i64 (t:Int),.int .u8 (u.toNat:Int)]) (ty:=70) (ty2:=87) (Gr.refl _);exact⟨e1,e2,by rw[World.size_alloc,World.size_alloc];omega,((Gr.refl w).alloc _ _).alloc _ _⟩
theorem nn.cells{w W:World}{PA:Array Value}{f t:Nat}{u:UInt8}(h:nn w PA f t u W):W.cell? ⟨w.heap.size+1,0,none⟩=some (.int .i64 (f:Int))/\W.cell? ⟨w.heap.size+1,1,none⟩=some (.int .i64 (t:Int))/\W.cell? ⟨w.heap.size+1,2,none⟩=some (.int .u8 (u.toNat:Int)) :=
 ⟨by rw[qn h.mv];rfl,by rw[qn h.mv];rfl,by rw[qn h.mv];rfl⟩
theorem nn.at{w W:World}{PA:Array Value}{f t:Nat}{u:UInt8}(h:nn w PA f t u W){k:Nat}{v:Value}(hv:PA[k]?=some v):W.cell? ⟨w.heap.size,k,none⟩=some v:=by
 rw[qn h.pa];exact hv
def pP(f t:Nat)(s:Int):Bool:=((f:Int)==s)||((t:Int)==s)
theorem bD(f t:Nat)(u:UInt8)(s:Int)(w:World):Calls Tryz.prog 190 #[.agg #[.int .i64 (f:Int),.int .i64 (t:Int),.int .u8 (u.toNat:Int)],.int .i64 s] w fun e w'=>e=.returned (.bool (pP f t s))/\Gr w w':=by
 have hx:=World.alloc_heap_new w (.cells #[.int .i64 (f:Int),.int .i64 (t:Int),.int .u8 (u.toNat:Int)] 87);have m0:(w.alloc (.cells #[.int .i64 (f:Int),.int .i64 (t:Int),.int .u8 (u.toNat:Int)] 87)).cell? ⟨w.heap.size,0,none⟩=some (.int .i64 (f:Int)):=by rw[qn hx];rfl
 have m1:(w.alloc (.cells #[.int .i64 (f:Int),.int .i64 (t:Int),.int .u8 (u.toNat:Int)] 87)).cell? ⟨w.heap.size,1,none⟩=some (.int .i64 (t:Int)):=by rw[qn hx];rfl
 have hg:=qC ((Gr.refl w).alloc #[.int .i64 (f:Int),.int .i64 (t:Int),.int .u8 (u.toNat:Int)] 87);unfold pP;obtain⟨x1,e1⟩:∃x,((f:Int)==s)=x:=⟨_,rfl⟩;obtain⟨x2,e2⟩:∃x,((t:Int)==s)=x:=⟨_,rfl⟩;rw[e1,e2];clear hx;cases x1
 ·go_enter Tryz.func190,Tryz.ntmps190;go_wp2_with fail;go_ret;exact⟨rfl,qa hg⟩
 ·go_enter Tryz.func190,Tryz.ntmps190;go_wp2_with fail;go_ret;exact⟨rfl,qa hg⟩
def AW(f t:Nat):Bool:=decide (uI f t*uI f t=4)
def vK(z:Nat->UInt8)(f t:Nat):Int:=if jD (z f)&&AW f t then(((f+t)/2:Nat):Int)else -1
def kK(z:Nat->UInt8)(f t:Nat)(h:Int):Int:=if jD (z f)||!decide (z t=46)then 0 else min (h+1) 65535
def kj(wh:Bool)(g:Int):Int:=if wh then g else min (g+1) 65535
theorem qzy{z:Nat->UInt8}{wh:Bool}{fc:Nat->Bool}{b h g:Int}{PA:Array Value}(r:jE z wh fc b h g PA)(f t:Nat)(hf:f<64)(ht:t<64)(u:UInt8)(w:World):Calls Tryz.prog 100 #[.agg PA,.agg #[.int .i64 (f:Int),.int .i64 (t:Int),.int .u8 (u.toNat:Int)]] w fun e w'=>e=.returned (.int .i64 (vK z f t))/\Gr w w':=by
 have hP:=nn.start w PA f t u;have hp:=qC (fun W=>xz (z f) W);obtain⟨m0,m1,m2⟩:=hP.cells;have cf:=hP.at (r.sq f hf);have hg:=qC hP.gr;have hf0:(0:Int)<=(f:Int):=by omega
 have hf1:(f:Int)<64:=by omega
 obtain⟨V,hV⟩:∃x,Hid (vK z f t=x):=⟨_,qC rfl⟩;rw[qa hV];obtain⟨PW,hPW⟩:∃x,Hid (jD (z f)=x):=⟨_,qC rfl⟩;rw[qa hPW]at hp;obtain⟨dd,hdd⟩:∃x,Hid ((t:Int)/8-(f:Int)/8=x):=⟨_,qC rfl⟩;have hwr:IntKind.i64.wrap ((t:Int)/8-(f:Int)/8)=dd:=by rw[IntKind.wrap_i64];have:=qa hdd;omega
 have hup:uI f t=dd:=by rw[<-qa hdd];unfold uI;omega
 have hb:-7<=dd/\dd<=7:=by have:=qa hdd;omega
 have hsq:-100<=dd*dd/\dd*dd<=100:=by
  obtain⟨q1,q2⟩:=hb;have h1:dd=-7\/dd=-6\/dd=-5\/dd=-4\/dd=-3\/dd=-2\/dd=-1\/dd=0\/dd=1\/dd=2\/dd=3\/dd=4\/dd=5\/dd=6\/dd=7:=by omega
  rcases h1 with e|e|e|e|e|e|e|e|e|e|e|e|e|e|e<;>(rw[e];decide)
 obtain⟨D2,hD2⟩:∃x,Hid (dd*dd=x):=⟨_,qC rfl⟩;have hw2:IntKind.i64.wrap (dd*dd)=D2:=by rw[IntKind.wrap_i64];have:=qa hD2;omega
 obtain⟨mm,hmm⟩:∃n,Hid (n=(f+t)/2):=⟨_,qC rfl⟩;have e1:IntKind.i64.wrap ((f:Int)+(t:Int))=(f:Int)+(t:Int):=by rw[IntKind.wrap_i64];omega
 have e2:((f:Int)+(t:Int))/2=(mm:Int):=by have:=qa hmm;omega
 have e3:((f:Int)+(t:Int)).tdiv 2=(mm:Int):=by rw[Int.tdiv_eq_ediv_of_nonneg (by omega)];exact e2
 have e4:IntKind.i64.wrap (mm:Int)=(mm:Int):=by rw[IntKind.wrap_i64];have:=qa hmm;omega
 have hV2:Hid (V=if PW&&decide (D2=4)then(mm:Int)else -1):=qC (by rw[<-qa hV];unfold vK AW;rw[qa hPW,hup,qa hD2,qa hmm]);clear hb hsq hup hP;cases PW
 ·have hV3:Hid (V=-1):=qC (by rw[qa hV2];rfl);go_enter Tryz.func100,Tryz.ntmps100;go_wp2_with(go_at_call 121;refine(qa hp _).mono ?_;rintro e w' ⟨rfl,hww⟩;have hww':=hww.symm;subst hww';clear hww);go_ret;exact⟨by rw[qa hV3];rfl,qa hg⟩
 ·by_cases d4:D2=4
  ·have hV3:Hid (V=(mm:Int)):=qC (by rw[qa hV2,qJ d4];rfl);have hd4:(D2==4)=true:=beq_iff_eq.2 d4;clear d4;go_enter Tryz.func100,Tryz.ntmps100;go_wp2_with(go_at_call 121;refine(qa hp _).mono ?_;rintro e w' ⟨rfl,hww⟩;have hww':=hww.symm;subst hww';clear hww);go_ret;exact⟨by rw[qa hV3];rfl,qa hg⟩
  ·have hV3:Hid (V=-1):=qC (by rw[qa hV2,qE d4];rfl);have hd4:(D2==4)=false:=by rw[qM];exact d4
   clear d4;go_enter Tryz.func100,Tryz.ntmps100;go_wp2_with(go_at_call 121;refine(qa hp _).mono ?_;rintro e w' ⟨rfl,hww⟩;have hww':=hww.symm;subst hww';clear hww);go_ret;exact⟨by rw[qa hV3];rfl,qa hg⟩
theorem qkn{z:Nat->UInt8}{wh:Bool}{fc:Nat->Bool}{b h g:Int}{PA:Array Value}(r:jE z wh fc b h g PA)(f t:Nat)(hf:f<64)(ht:t<64)(u:UInt8)(h0:0<=h)(h1:h<=65535)(w:World):Calls Tryz.prog 101 #[.agg PA,.agg #[.int .i64 (f:Int),.int .i64 (t:Int),.int .u8 (u.toNat:Int)]] w fun e w'=>e=.returned (.int .i64 (kK z f t h))/\Gr w w':=by
 have hP:=nn.start w PA f t u;have hp:=qC (fun W=>xz (z f) W);obtain⟨m0,m1,m2⟩:=hP.cells;have cf:=hP.at (r.sq f hf);have ct:=hP.at (r.sq t ht);have ch:=hP.at r.h;have hg:=qC hP.gr;have hf0:(0:Int)<=(f:Int):=by omega
 have hf1:(f:Int)<64:=by omega
 have ht0:(0:Int)<=(t:Int):=by omega
 have ht1:(t:Int)<64:=by omega
 obtain⟨V,hV⟩:∃x,Hid (kK z f t h=x):=⟨_,qC rfl⟩;rw[qa hV];obtain⟨PW,hPW⟩:∃x,Hid (jD (z f)=x):=⟨_,qC rfl⟩;rw[qa hPW]at hp;obtain⟨TK,hTK⟩:∃x,Hid ((!decide (z t=46))=x):=⟨_,qC rfl⟩
 have htk:(((z t).toNat:Int) != 46)=TK:=by
  rw[<-qa hTK];by_cases e:z t=46
  ·rw[e];rfl
  ·have:((z t).toNat:Int)≠46:=fun q=>e (q6.1 (by show(z t).toNat=46;omega))
   rw[qU.2 this,qE e];rfl
 have hV2:Hid (V=if PW||TK then 0 else min (h+1) 65535):=qC (by rw[<-qa hV];unfold kK;rw[qa hPW,qa hTK]);have hw:IntKind.i64.wrap (h+1)=h+1:=by rw[IntKind.wrap_i64];omega
 clear hP;cases PW
 ·cases TK
  ·have hV3:Hid (V=min (h+1) 65535):=qC (by rw[qa hV2];rfl);go_enter Tryz.func101,Tryz.ntmps101;go_wp2_with(go_at_call 121;refine(qa hp _).mono ?_;rintro e w' ⟨rfl,hww⟩;have hww':=hww.symm;subst hww';clear hww);go_ret;exact⟨by rw[qa hV3];rfl,qa hg⟩
  ·have hV3:Hid (V=0):=qC (by rw[qa hV2];rfl);go_enter Tryz.func101,Tryz.ntmps101;go_wp2_with(go_at_call 121;refine(qa hp _).mono ?_;rintro e w' ⟨rfl,hww⟩;have hww':=hww.symm;subst hww';clear hww);go_ret;exact⟨by rw[qa hV3];rfl,qa hg⟩
 ·have hV3:Hid (V=0):=qC (by rw[qa hV2];rfl);go_enter Tryz.func101,Tryz.ntmps101;go_wp2_with(go_at_call 121;refine(qa hp _).mono ?_;rintro e w' ⟨rfl,hww⟩;have hww':=hww.symm;subst hww';clear hww);go_ret;exact⟨by rw[qa hV3];rfl,qa hg⟩
theorem qkp{z:Nat->UInt8}{wh:Bool}{fc:Nat->Bool}{b h g:Int}{PA:Array Value}(r:jE z wh fc b h g PA)(g0:0<=g)(g1:g<=65535)(w:World):Calls Tryz.prog 102 #[.agg PA] w fun e w'=>e=.returned (.int .i64 (kj wh g))/\Gr w w':=by
 have cw:(w.alloc (.cells PA 70)).cell? ⟨w.heap.size,64,none⟩=some (.bool wh):=by rw[World.cell?_alloc_at _ _ _ _ rfl];exact r.wh
 have cg:(w.alloc (.cells PA 70)).cell? ⟨w.heap.size,71,none⟩=some (.int .i64 g):=by rw[World.cell?_alloc_at _ _ _ _ rfl];exact r.g
 have hw:IntKind.i64.wrap (g+1)=g+1:=by rw[IntKind.wrap_i64];omega
 have hg:=qC ((Gr.refl w).alloc PA 70);clear r;cases wh
 ·go_enter Tryz.func102,Tryz.ntmps102;go_wp2_with fail;go_ret;exact⟨rfl,qa hg⟩
 ·go_enter Tryz.func102,Tryz.ntmps102;go_wp2_with fail;go_ret;exact⟨rfl,qa hg⟩
def hoA(k:Nat):Array Value:=#[.int .i64 (xY k),.int .u8 (if k<2 then 75 else 107),.int .i64 (zD k),.int .u8 (if k<2 then 82 else 114)]
theorem Gh(k:Nat)(hk:k<4)(w:World):(Instr.index 269 (.agg vp.toArray) (.int .i64 (k:Int))).run Tryz.prog w=.ok (.agg (hoA k)) w:=by
 have:k=0\/k=1\/k=2\/k=3:=by omega
 rcases this with rfl|rfl|rfl|rfl
 ·exact Gl w
 ·exact Gk w
 ·exact Gj w
 ·exact Gi w
def E6(f t k:Nat):Bool:=pP f t (xY k)||pP f t (zD k)
def kB(fc:Nat->Bool)(f t n k:Nat):Bool:=fc k&&!(decide (k<n)&&E6 f t k)
def yi(F:Nat->Bool):Array Value:=#[.bool (F 0),.bool (F 1),.bool (F 2),.bool (F 3)]
theorem En(F:Nat->Bool)(k:Nat)(hk:k<4):(yi F)[k]?=some (.bool (F k)):=by
 have:k=0\/k=1\/k=2\/k=3:=by omega
 rcases this with rfl|rfl|rfl|rfl<;>rfl
theorem CT(F:Nat->Bool)(k:Nat)(hk:k<4)(c:Bool):(yi F).setIfInBounds k (.bool c)=yi (fun j=>if j=k then c else F j):=by
 have:k=0\/k=1\/k=2\/k=3:=by omega
 rcases this with rfl|rfl|rfl|rfl<;>rfl
theorem gd{F G:Nat->Bool}(h:∀k,k<4->F k=G k):yi F=yi G:=by
 unfold yi;rw[h 0 (by omega),h 1 (by omega),h 2 (by omega),h 3 (by omega)]
theorem fN:(Tryz.prog.info? 68).map (·.size)=some 4:=by kernel_rfl
theorem td(F:Nat->Bool):(yi F).all (·.oneCell')=true:=by simp[yi,Value.oneCell']
structure Ca(w:World)(F:Nat->Bool)(f t:Nat)(u:UInt8)(W:World):Prop where
 ca:W.heap[w.heap.size]?=some (.cells (yi F) 68)
 mv:W.heap[w.heap.size+1]?=some (.cells #[.int .i64 (f:Int),.int .i64 (t:Int),.int .u8 (u.toNat:Int)] 87)
 rs:W.heap[w.heap.size+2]?=some (.cells (yi fun _=>false) 68)
 lt:w.heap.size+2<W.heap.size
 gr:Gr w W
theorem Ca.next{w W W':World}{F:Nat->Bool}{f t:Nat}{u:UInt8}(h:Ca w F f t u W)(g:Gr W W'):Ca w F f t u W':=by
 have:=h.lt;exact⟨(Below.block g _ (by omega)).trans h.ca,(Below.block g _ (by omega)).trans h.mv,(Below.block g _ h.lt).trans h.rs,qN h.lt (Below.size g),Gr.trans h.gr g⟩
theorem Ca.set{w W:World}{F:Nat->Bool}{f t:Nat}{u:UInt8}(h:Ca w F f t u W)(k:Nat)(hk:k<4)(c:Bool):Ca w (fun j=>if j=k then c else F j) f t u (W.setCell ⟨w.heap.size,k,none⟩ (.bool c)):=by
 have fs:Fr (fun j _=>j≠w.heap.size) W (W.setCell ⟨w.heap.size,k,none⟩ (.bool c)):=(Fr.refl _ _).setCell _ (fun o _ q=>q rfl);have hs:(W.setCell ⟨w.heap.size,k,none⟩ (.bool c)).heap.size=W.heap.size:=World.size_setCell ..;exact⟨by rw[<-CT F k hk c];exact qv h.ca,fs.same _ _ h.mv (by omega),fs.same _ _ h.rs (by omega),by rw[hs];exact h.lt,Below.setCell h.gr (qL _) _⟩
theorem qx4(fc:Nat->Bool)(f t:Nat)(u:UInt8)(w:World)(hH:vJ w):Calls Tryz.prog 99 #[.agg (yi fc),.agg #[.int .i64 (f:Int),.int .i64 (t:Int),.int .u8 (u.toNat:Int)]] w fun e w'=>e=.returned (.agg (yi (kB fc f t 4)))/\Gr w w':=by
 obtain⟨x1,x2,x3,x4⟩:=jG w (.cells (yi fc) 68) (.cells #[.int .i64 (f:Int),.int .i64 (t:Int),.int .u8 (u.toNat:Int)] 87) (.cells (yi fun _=>false) 68);have hg3:Gr w (((w.alloc (.cells (yi fc) 68)).alloc (.cells #[.int .i64 (f:Int),.int .i64 (t:Int),.int .u8 (u.toNat:Int)] 87)).alloc (.cells (yi fun _=>false) 68)):=(((Gr.refl w).alloc _ _).alloc _ _).alloc _ _;have hC0:Ca w fc f t u (((w.alloc (.cells (yi fc) 68)).alloc (.cells #[.int .i64 (f:Int),.int .i64 (t:Int),.int .u8 (u.toNat:Int)] 87)).alloc (.cells (yi fun _=>false) 68)):=⟨x1,x2,x3,by rw[x4];omega,hg3⟩;have hC0':=qC hC0;have hH':=qC (hH.gr hg3);have hto:=qC (fun(s:Int) W=>bD f t u s W);clear x1 x2 x3 x4 hg3 hC0 hH;generalize hL:vp.toArray=HL;obtain⟨RV,hRV⟩:∃F,Hid (kB fc f t 4=F):=⟨_,qC rfl⟩;rw[qa hRV];show Calls Tryz.prog 99 #[.agg #[.bool (fc 0),.bool (fc 1),.bool (fc 2),.bool (fc 3)],.agg #[.int .i64 (f:Int),.int .i64 (t:Int),.int .u8 (u.toNat:Int)]] w fun e w'=>e=.returned (.agg (yi RV))/\Gr w w'
 go_enter Tryz.func99,Tryz.ntmps99;go_upto_region 1 with fail;show Code.wp _ _ _ _ (((w.alloc (.cells (yi fc) 68)).alloc (.cells #[.int .i64 (f:Int),.int .i64 (t:Int),.int .u8 (u.toNat:Int)] 87)).alloc (.cells (yi fun _=>false) 68));generalize (((w.alloc (.cells (yi fc) 68)).alloc (.cells #[.int .i64 (f:Int),.int .i64 (t:Int),.int .u8 (u.toNat:Int)] 87)).alloc (.cells (yi fun _=>false) 68))=w0 at hC0' hH' ⊢;go_wp2_with(refine wpList_load_mid rfl 269 _ rfl 1 0 rfl vp _ (qa hH').1 Tryz.underlying269 rfl ss ?_);go_loopg [8] 4 (fun gm n wr=>∃k:Nat,k+gm=4/\n=.int .i64 (k:Int)/\Ca w (kB fc f t k) f t u wr)
 case atStart=>exact⟨0,by omega,rfl,by
  have:kB fc f t 0=fc:=by funext j;unfold kB;simp
  rw[this];exact qa hC0'⟩
 case round =>
  clear hC0' hH';obtain⟨k,k1,rfl,hC⟩:=hrel;by_cases hk:k<4
  ·obtain⟨KL,hKL⟩:∃x:Int,Hid ((if k<2 then(75:Int)else 107)=x):=⟨_,qC rfl⟩;obtain⟨RL,hRL⟩:∃x:Int,Hid ((if k<2 then(82:Int)else 114)=x):=⟨_,qC rfl⟩
   have hix:∀W:World,(Instr.index 269 (.agg HL) (.int .i64 (k:Int))).run Tryz.prog W=.ok (.agg #[.int .i64 (xY k),.int .u8 KL,.int .i64 (zD k),.int .u8 RL]) W:=fun W=>by
    rw[<-qa hKL,<-qa hRL,<-hL];exact Gh k hk W
   clear hKL hRL
   have hcf:Hid (∀j,j<4->kB fc f t (k+1) j=if j=k then fc k&&!(E6 f t k)else kB fc f t k j):=qC (fun j _=>by
    unfold kB;by_cases e:j=k
    ·subst e;rw[qI rfl,qJ (by omega)];rfl
    ·rw[qF e]
     have:decide (j<k+1)=decide (j<k):=by
      by_cases q:j<k
      ·rw[qJ q,qJ (by omega)]
      ·rw[qE q,qE (by omega)]
     rw[this])
   have hself:Hid (kB fc f t k k=fc k):=qC (by unfold kB;simp);have hta:Hid (E6 f t k=(pP f t (xY k)||pP f t (zD k))):=qC rfl;obtain⟨TA,hTA⟩:∃x,Hid (E6 f t k=x):=⟨_,qC rfl⟩;rw[qa hTA]at hta hcf;obtain⟨HK,hHK⟩:∃x,Hid (xY k=x):=⟨_,qC rfl⟩;obtain⟨HR,hHR⟩:∃x,Hid (zD k=x):=⟨_,qC rfl⟩;rw[qa hHK,qa hHR]at hta
   have hix2:∀W:World,(Instr.index 269 (.agg HL) (.int .i64 (k:Int))).run Tryz.prog W=.ok (.agg #[.int .i64 HK,.int .u8 KL,.int .i64 HR,.int .u8 RL]) W:=fun W=>by
    rw[<-qa hHK,<-qa hHR];exact hix W
   clear hix hHK hHR hTA;go_upto_region 4 with fail;have hx:=World.alloc_heap_new wr (.cells #[.int .i64 HK,.int .u8 KL,.int .i64 HR,.int .u8 RL] 268);have hCa:=hC.next ((Gr.refl wr).alloc #[.int .i64 HK,.int .u8 KL,.int .i64 HR,.int .u8 RL] 268);show Code.wp _ _ _ _ (wr.alloc (.cells #[.int .i64 HK,.int .u8 KL,.int .i64 HR,.int .u8 RL] 268));generalize (wr.alloc (.cells #[.int .i64 HK,.int .u8 KL,.int .i64 HR,.int .u8 RL] 268))=w4 at hx hCa ⊢;generalize wr.heap.size=Bh4 at hx ⊢;have c0:w4.cell? ⟨Bh4,0,none⟩=some (.int .i64 HK):=by rw[qn hx];rfl
   have c2:w4.cell? ⟨Bh4,2,none⟩=some (.int .i64 HR):=by rw[qn hx];rfl
   have hbl:Bh4<w4.heap.size:=World.block_lt_of_cell? _ _ c0;have m0:w4.cell? ⟨w.heap.size+1,0,none⟩=some (.int .i64 (f:Int)):=by rw[qn hCa.mv];rfl
   have m1:w4.cell? ⟨w.heap.size+1,1,none⟩=some (.int .i64 (t:Int)):=by rw[qn hCa.mv];rfl
   have m2:w4.cell? ⟨w.heap.size+1,2,none⟩=some (.int .u8 (u.toNat:Int)):=by rw[qn hCa.mv];rfl
   clear hx hC hix2;go_cut [21]from 9 to 24 (fun s21 wx=>s21=.bool TA/\Ca w (kB fc f t k) f t u wx)
   case first =>
    obtain⟨y1,q1⟩:∃x,pP f t HK=x:=⟨_,rfl⟩;obtain⟨y2,q2⟩:∃x,pP f t HR=x:=⟨_,rfl⟩;rw[q1,q2]at hta;have hml:w.heap.size+1<w4.heap.size:=World.block_lt_of_cell? _ _ m0;clear hcf hself;cases y1
    ·go_wp2_with(go_at_call 190;refine(qa hto _ _).mono ?_;rintro e w5 ⟨rfl,hg5⟩;have c2:=(Below.cell hg5 (p:=⟨Bh4,2,none⟩) hbl).trans c2;have m0:=(Below.cell hg5 (p:=⟨w.heap.size+1,0,none⟩) hml).trans m0;have m1:=(Below.cell hg5 (p:=⟨w.heap.size+1,1,none⟩) hml).trans m1;have m2:=(Below.cell hg5 (p:=⟨w.heap.size+1,2,none⟩) hml).trans m2;have hCa:=hCa.next hg5;have hbl:=qN hbl (Below.size hg5);have hml:=qN hml (Below.size hg5));go_meet
     case rel=>exact⟨by rw[qa hta];rfl,hCa⟩
    ·go_wp2_with(go_at_call 190;refine(qa hto _ _).mono ?_;rintro e w5 ⟨rfl,hg5⟩;have c2:=(Below.cell hg5 (p:=⟨Bh4,2,none⟩) hbl).trans c2;have m0:=(Below.cell hg5 (p:=⟨w.heap.size+1,0,none⟩) hml).trans m0;have m1:=(Below.cell hg5 (p:=⟨w.heap.size+1,1,none⟩) hml).trans m1;have m2:=(Below.cell hg5 (p:=⟨w.heap.size+1,2,none⟩) hml).trans m2;have hCa:=hCa.next hg5;have hbl:=qN hbl (Below.size hg5);have hml:=qN hml (Below.size hg5));go_meet
     case rel=>exact⟨by rw[qa hta];rfl,hCa⟩
   case rest =>
    obtain⟨rfl,hCc⟩:=hcut;clear hCa c0 c2 m0 m1 m2 hbl hta;go_upto_if 21 with fail;cases TA
    ·have hcc:Hid (yi (kB fc f t (k+1))=yi (kB fc f t k)):=qC (gd fun j hj=>by
      rw[qa hcf j hj];by_cases e:j=k
      ·subst e;rw[qI rfl,qa hself];simp
      ·rw[qF e])
     have hCd:Hid (Ca w (kB fc f t (k+1)) f t u wc):=qC ⟨by rw[qa hcc];exact hCc.ca,hCc.mv,hCc.rs,hCc.lt,hCc.gr⟩;clear hCc hcf hself;go_wp2_with fail;go_roundg (gk-1)
     case measure=>omega
     case rel=>exact⟨k+1,by omega,by go_num,qa hCd⟩
    ·have hcc:Hid (yi (kB fc f t (k+1))=yi (fun j=>if j=k then false else kB fc f t k j)):=qC (gd fun j hj=>by
      rw[qa hcf j hj];by_cases e:j=k
      ·rw[qI e,qI e];simp
      ·rw[qF e,qF e])
     have hCs:=hCc.set k hk false;have hCd:Hid (Ca w (kB fc f t (k+1)) f t u (wc.setCell ⟨w.heap.size,k,none⟩ (.bool false))):=qC ⟨by rw[qa hcc];exact hCs.ca,hCs.mv,hCs.rs,hCs.lt,hCs.gr⟩;have qk:wc.cell? ⟨w.heap.size,k,none⟩=some (.bool (kB fc f t k k)):=by rw[qn hCc.ca];exact En _ k hk
     have ok:wc.frozen? ⟨w.heap.size,k,none⟩=false:=xr hCc.ca;have dd0:(0:Int)<=(k:Int):=by omega
     have dd1:(k:Int)<4:=by omega
     clear hCc hcf hself hCs hcc;go_wp2_with fail;go_roundg (gk-1)
     case measure=>omega
     case rel=>exact⟨k+1,by omega,by go_num,qa hCd⟩
  ·have ek:k=4:=by omega
   subst ek;have hca:=qC hC.ca;have hrs:Hid (wr.heap[w.heap.size+1+1]?=some (.cells (yi fun _=>false) 68)):=qC hC.rs;have hgr:=qC hC.gr;clear hC;rw[qa hRV]at hca
   go_wp2_with(first
    | (refine wpList_load_row rfl 68 _ rfl w.heap.size rfl 68 (yi RV) (0,0) _ (qa hca) Tryz.underlying68 rfl fN ?_)
    | (refine wpList_store_row rfl 68 _ _ rfl (w.heap.size+1+1) (yi RV) rfl rfl 68 (yi fun _=>false) (qa hrs) fN rfl (td RV) ?_))
   exact bodyPost_ret (v:=.agg (yi RV)) (results_cell_row Tryz.results99 _ _ (w.heap.size+1+1) 68 _ (0,0) _ rfl (setRow_heap _ _ _ _ _ _ (qa hrs)) Tryz.underlying68 rfl fN) rfl ⟨rfl,(qa hgr).setRow _ (by omega) _⟩
structure DT(w:World)(PA:Array Value)(f t:Nat)(u:UInt8)(W:World):Prop where
 pm:nn w PA f t u W
 rs:∃R,R.size=72/\W.heap[w.heap.size+1+1]?=some (.cells R 70)
 lt:w.heap.size+1+1<W.heap.size
theorem DT.next{w W W':World}{PA:Array Value}{f t:Nat}{u:UInt8}(h:DT w PA f t u W)(g:Gr W W'):DT w PA f t u W':=by
 obtain⟨R,r1,r2⟩:=h.rs;exact⟨h.pm.next g,⟨R,r1,(Below.block g _ h.lt).trans r2⟩,qN h.lt (Below.size g)⟩
theorem DT.put{w W:World}{PA:Array Value}{f t:Nat}{u:UInt8}(h:DT w PA f t u W)(X:Array Value)(hX:X.size=72):DT w PA f t u (W.setRow (w.heap.size+1+1) X):=by
 obtain⟨R,r1,r2⟩:=h.rs;exact⟨⟨by rw[setRow_other _ _ _ _ (by omega)];exact h.pm.pa,by rw[setRow_other _ _ _ _ (by omega)];exact h.pm.mv,by rw[size_setRow];exact h.pm.lt,h.pm.gr.setRow _ (by omega) _⟩,⟨X,hX,setRow_heap _ _ _ _ _ _ r2⟩,by rw[size_setRow];exact h.lt⟩
theorem iJ{z:Nat->UInt8}{wh:Bool}{fc:Nat->Bool}{b h g:Int}{PA:Array Value}(r:jE z wh fc b h g PA)(f t:Nat)(u:UInt8)(hf:f<64)(ht:t<64)(hk1:jA (z f)=true->t=f+2->f+3<64)(hk2:jA (z f)=true->t+2=f->4<=f)(h0:0<=h)(h1:h<=65535)(g0:0<=g)(g1:g<=65535)(w:World)(hH:vJ w) :
  Calls Tryz.prog 50 #[.agg PA,.agg #[.int .i64 (f:Int),.int .i64 (t:Int),.int .u8 (u.toNat:Int)]] w fun e w'=>∃Q,e=.returned (.agg Q)/\jE (zE z b (f,t,u)) (!wh) (kB fc f t 4) (vK z f t) (kK z f t h) (kj wh g) Q/\Gr w w':=by
 have hz:=r.size;have hr:=qC r;have hpl:=qC (fun W=>qvj r f t u hf ht hk1 hk2 W);have hca:Hid (∀W,vJ W->Calls Tryz.prog 99 #[.agg #[.bool (fc 0),.bool (fc 1),.bool (fc 2),.bool (fc 3)],.agg #[.int .i64 (f:Int),.int .i64 (t:Int),.int .u8 (u.toNat:Int)]] W fun e w'=>e=.returned (.agg (yi (kB fc f t 4)))/\Gr W w'):=qC (fun W hh=>qx4 fc f t u W hh);have hbh:=qC (fun W=>qzy r f t hf ht u W);have hha:=qC (fun W=>qkn r f t hf ht u h0 h1 W);have hfu:=qC (fun W=>qkp r g0 g1 W);obtain⟨x1,x2,x3,x4⟩:=jG w (.cells PA 70) (.cells #[.int .i64 (f:Int),.int .i64 (t:Int),.int .u8 (u.toNat:Int)] 87) (.cells Tryz.zeroCells70 70);have hP0:=(nn.start w PA f t u).next ((Gr.refl _).alloc Tryz.zeroCells70 70);have hA0:DT w PA f t u (((w.alloc (.cells PA 70)).alloc (.cells #[.int .i64 (f:Int),.int .i64 (t:Int),.int .u8 (u.toNat:Int)] 87)).alloc (.cells Tryz.zeroCells70 70)):=⟨hP0,⟨_,xF,x3⟩,by rw[x4];omega⟩;have hH':=qC hH;clear x1 x2 x3 x4 hP0 r hH;obtain⟨CQ,hC⟩:∃x,Hid (kB fc f t 4=x):=⟨_,qC rfl⟩;obtain⟨bb,hbb⟩:∃x,Hid (vK z f t=x):=⟨_,qC rfl⟩;obtain⟨hh,hhh⟩:∃x,Hid (kK z f t h=x):=⟨_,qC rfl⟩;obtain⟨gg,hgg⟩:∃x,Hid (kj wh g=x):=⟨_,qC rfl⟩;rw[qa hC]at hca ⊢;rw[qa hbb]at hbh ⊢;rw[qa hhh]at hha ⊢;rw[qa hgg]at hfu ⊢;clear hC hbb hhh hgg;go_enter Tryz.func50,Tryz.ntmps50;go_upto_region 1 with fail;show Code.wp _ _ _ _ (((w.alloc (.cells PA 70)).alloc (.cells #[.int .i64 (f:Int),.int .i64 (t:Int),.int .u8 (u.toNat:Int)] 87)).alloc (.cells Tryz.zeroCells70 70));generalize (((w.alloc (.cells PA 70)).alloc (.cells #[.int .i64 (f:Int),.int .i64 (t:Int),.int .u8 (u.toNat:Int)] 87)).alloc (.cells Tryz.zeroCells70 70))=w0 at hA0 ⊢;have hA1:=hA0.next (Gr.refl _).drew;clear hA0;refine wp_region_held_drew (S:=DT w PA f t u) (by kernel_rfl) hA1 (fun qD=>?_);clear hA1;refine C.ty 0 (.agg PA) rfl (zy hz (by rfl) _ rfl w.heap.size rfl (fun _ h=>vF h.pm.pa)) qD ?_;refine C.ty 1 (.agg #[.int .i64 (f:Int),.int .i64 (t:Int),.int .u8 (u.toNat:Int)]) rfl (Or.inl ⟨by rfl,fun w' hw=>(by obtain⟨m0,m1,m2⟩:=hw.pm.cells;have c64:=hw.pm.at (qa hr).wh;have c65:=hw.pm.at ((qa hr).c 0 (by decide));have c66:=hw.pm.at ((qa hr).c 1 (by decide));have c67:=hw.pm.at ((qa hr).c 2 (by decide));have c68:=hw.pm.at ((qa hr).c 3 (by decide));go_simp)⟩) qD ?_;refine C.ty 3 (.pointer (some ⟨w.heap.size,64,none⟩)) rfl (Or.inl ⟨by rfl,fun w' hw=>(by obtain⟨m0,m1,m2⟩:=hw.pm.cells;have c64:=hw.pm.at (qa hr).wh;have c65:=hw.pm.at ((qa hr).c 0 (by decide));have c66:=hw.pm.at ((qa hr).c 1 (by decide));have c67:=hw.pm.at ((qa hr).c 2 (by decide));have c68:=hw.pm.at ((qa hr).c 3 (by decide));go_simp)⟩) qD ?_;refine C.ty 4 (.bool wh) rfl (Or.inl ⟨by rfl,fun w' hw=>(by obtain⟨m0,m1,m2⟩:=hw.pm.cells;have c64:=hw.pm.at (qa hr).wh;have c65:=hw.pm.at ((qa hr).c 0 (by decide));have c66:=hw.pm.at ((qa hr).c 1 (by decide));have c67:=hw.pm.at ((qa hr).c 2 (by decide));have c68:=hw.pm.at ((qa hr).c 3 (by decide));go_simp)⟩) qD ?_;refine C.ty 5 (.bool (!wh)) rfl (Or.inl ⟨by rfl,fun w' hw=>(by obtain⟨m0,m1,m2⟩:=hw.pm.cells;have c64:=hw.pm.at (qa hr).wh;have c65:=hw.pm.at ((qa hr).c 0 (by decide));have c66:=hw.pm.at ((qa hr).c 1 (by decide));have c67:=hw.pm.at ((qa hr).c 2 (by decide));have c68:=hw.pm.at ((qa hr).c 3 (by decide));go_simp)⟩) qD ?_;refine C.ty 6 (.pointer (some ⟨w.heap.size,65,none⟩)) rfl (Or.inl ⟨by rfl,fun w' hw=>(by obtain⟨m0,m1,m2⟩:=hw.pm.cells;have c64:=hw.pm.at (qa hr).wh;have c65:=hw.pm.at ((qa hr).c 0 (by decide));have c66:=hw.pm.at ((qa hr).c 1 (by decide));have c67:=hw.pm.at ((qa hr).c 2 (by decide));have c68:=hw.pm.at ((qa hr).c 3 (by decide));go_simp)⟩) qD ?_;refine C.ty 7 (.agg #[.bool (fc 0),.bool (fc 1),.bool (fc 2),.bool (fc 3)]) rfl (Or.inl ⟨by rfl,fun w' hw=>(by obtain⟨m0,m1,m2⟩:=hw.pm.cells;have c64:=hw.pm.at (qa hr).wh;have c65:=hw.pm.at ((qa hr).c 0 (by decide));have c66:=hw.pm.at ((qa hr).c 1 (by decide));have c67:=hw.pm.at ((qa hr).c 2 (by decide));have c68:=hw.pm.at ((qa hr).c 3 (by decide));go_simp)⟩) qD ?_;refine C.ty 8 (.agg #[.int .i64 (f:Int),.int .i64 (t:Int),.int .u8 (u.toNat:Int)]) rfl (Or.inl ⟨by rfl,fun w' hw=>(by obtain⟨m0,m1,m2⟩:=hw.pm.cells;have c64:=hw.pm.at (qa hr).wh;have c65:=hw.pm.at ((qa hr).c 0 (by decide));have c66:=hw.pm.at ((qa hr).c 1 (by decide));have c67:=hw.pm.at ((qa hr).c 2 (by decide));have c68:=hw.pm.at ((qa hr).c 3 (by decide));go_simp)⟩) qD ?_;refine C.ty 10 (.agg PA) rfl (zy hz (by rfl) _ rfl w.heap.size rfl (fun _ h=>vF h.pm.pa)) qD ?_;refine C.ty 11 (.agg #[.int .i64 (f:Int),.int .i64 (t:Int),.int .u8 (u.toNat:Int)]) rfl (Or.inl ⟨by rfl,fun w' hw=>(by obtain⟨m0,m1,m2⟩:=hw.pm.cells;have c64:=hw.pm.at (qa hr).wh;have c65:=hw.pm.at ((qa hr).c 0 (by decide));have c66:=hw.pm.at ((qa hr).c 1 (by decide));have c67:=hw.pm.at ((qa hr).c 2 (by decide));have c68:=hw.pm.at ((qa hr).c 3 (by decide));go_simp)⟩) qD ?_;refine C.ty 13 (.agg PA) rfl (zy hz (by rfl) _ rfl w.heap.size rfl (fun _ h=>vF h.pm.pa)) qD ?_
 refine C.ty 14 (.agg #[.int .i64 (f:Int),.int .i64 (t:Int),.int .u8 (u.toNat:Int)]) rfl (Or.inl ⟨by rfl,fun w' hw=>(by obtain⟨m0,m1,m2⟩:=hw.pm.cells;have c64:=hw.pm.at (qa hr).wh;have c65:=hw.pm.at ((qa hr).c 0 (by decide));have c66:=hw.pm.at ((qa hr).c 1 (by decide));have c67:=hw.pm.at ((qa hr).c 2 (by decide));have c68:=hw.pm.at ((qa hr).c 3 (by decide));go_simp)⟩) qD ?_;refine C.ty 16 (.agg PA) rfl (zy hz (by rfl) _ rfl w.heap.size rfl (fun _ h=>vF h.pm.pa)) qD ?_;refine C.rd 2 fun K hK=>?_
 go_simp;refine(qa hpl _).mono ?_;rintro e wa2 ⟨BA,rfl,hBA,hga2⟩;refine hK.out _ _ (qD.next hga2) (fun qD=>?_);clear hK K hga2
 try simp only[C.py]
 refine C.rd 9 fun K hK=>?_
 go_simp;refine(qa hca _ ((qa hH').gr qD.pm.gr)).mono ?_;rintro e wa9 ⟨rfl,hga9⟩;refine hK.out _ _ (qD.next hga9) (fun qD=>?_);clear hK K hga9
 try simp only[C.py]
 refine C.rd 12 fun K hK=>?_
 go_simp;refine(qa hbh _).mono ?_;rintro e wa12 ⟨rfl,hga12⟩;refine hK.out _ _ (qD.next hga12) (fun qD=>?_);clear hK K hga12
 try simp only[C.py]
 refine C.rd 15 fun K hK=>?_
 go_simp;refine(qa hha _).mono ?_;rintro e wa15 ⟨rfl,hga15⟩;refine hK.out _ _ (qD.next hga15) (fun qD=>?_);clear hK K hga15
 try simp only[C.py]
 refine C.rd 17 fun K hK=>?_
 go_simp;refine(qa hfu _).mono ?_;rintro e wa17 ⟨rfl,hga17⟩;refine hK.out _ _ (qD.next hga17) (fun qD=>?_);clear hK K hga17
 try simp only[C.py]
 refine C.ty 18 (.agg (kU BA (!wh) (CQ 0) (CQ 1) (CQ 2) (CQ 3) bb hh gg)) rfl (BB (by rfl) 70 #[(0,.tmp 7),(1,.tmp 10),(2,.tmp 14),(3,.tmp 17),(4,.tmp 20),(5,.tmp 22)] rfl _ (by simp only[List.map_toArray,List.map_cons,List.map_nil];exact gj BA hBA.1 (!wh) (CQ 0) (CQ 1) (CQ 2) (CQ 3) bb hh gg)) qD ?_;have hpz:(kU BA (!wh) (CQ 0) (CQ 1) (CQ 2) (CQ 3) bb hh gg).size=72:=by unfold kU;simp[hBA.1]
 have hrw:=qkb _ BA hBA.1 hBA.2 (!wh) CQ bb hh gg;have hon:=qx hrw;refine C.rd 19 fun K hK=>?_
 rw[qI (by rfl)];obtain⟨R,r1,hrs⟩:=qD.rs;refine wp_store_row 70 _ _ rfl (w.heap.size+1+1) (kU BA (!wh) (CQ 0) (CQ 1) (CQ 2) (CQ 3) bb hh gg) rfl rfl 70 R hrs (by rw[hpz];exact q9) (by rw[hpz,r1]) hon ?_;have hgf:=qC (qD.pm.gr.setRow (w.heap.size+1+1) (by omega) (kU BA (!wh) (CQ 0) (CQ 1) (CQ 2) (CQ 3) bb hh gg));refine hK.out _ _ (qD.put _ hpz) (fun qD=>?_);clear hK K
 try simp only[C.py]
 refine wpAnyH_done (by kernel_rfl) ?_ _;go_wp2_with fail;exact bodyPost_ret (v:=.agg (kU BA (!wh) (CQ 0) (CQ 1) (CQ 2) (CQ 3) bb hh gg)) (results_cell_row Tryz.results50 _ _ (w.heap.size+1+1) 70 _ (0,0) _ rfl (setRow_heap _ _ _ _ _ _ hrs) Tryz.underlying70 rfl (by rw[hpz];exact q9)) rfl ⟨_,rfl,hrw,qa hgf⟩
def uf:List UInt8:=[113,114,98,110]
def aw(s:ByteArray):UInt8 × Bool:=if h:0<s.size then(s[0],decide (0<=Lib.indexByte uf s[0]))else(0,true)
def yn(s:ByteArray):Option (Nat × Nat × UInt8) :=
 if s.size=4\/s.size=5 then
  match uX (s.extract 0 2),uX (s.extract 2 4)with
  | some f,some t=>if(aw (s.extract 4 s.size)).2 then some (f,t,(aw (s.extract 4 s.size)).1)else none
  | _,_=>none
 else none
end
section
attribute [local go_sem] qd qe Oper.semAt_some
theorem qqk{P:Program}{fn:Func}{p p2 q:Tmp}{ty ty2:TypeId}(h:fn.results=#[.cell p ty,.cell p2 ty2,.tmp q])(tmps:Array Value)(w:World)(g g2:Nat)(t t2:TypeId)(cs cs2:Array Value)(fr fr2:Nat × Nat)(d d2:TypeDesc)
  (hp:tmps.getD p undef=.pointer (some ⟨g,0,none⟩)) (hg:w.heap[g]?=some (.cells cs t fr)) (hu:P.underlying ty=some d) (hd:(match d with|.struct _|.array _ _=>true|_=>false)=true) (hi:(P.info? ty).map (·.size)=some cs.size)
  (hp2:tmps.getD p2 undef=.pointer (some ⟨g2,0,none⟩)) (hg2:w.heap[g2]?=some (.cells cs2 t2 fr2)) (hu2:P.underlying ty2=some d2) (hd2:(match d2 with|.struct _|.array _ _=>true|_=>false)=true) (hi2:(P.info? ty2).map (·.size)=some cs2.size) :
  (results fn tmps).run P w=.ok (.tuple #[.agg cs,.agg cs2,tmps.getD q undef]) w:=by
 have hp':tmps[p]?.getD undef=.pointer (some ⟨g,0,none⟩):=by simpa using hp
 have hp2':tmps[p2]?.getD undef=.pointer (some ⟨g2,0,none⟩):=by simpa using hp2
 simp[results,h,hp',hp2',asAddr,run_loadVar_row w g t ty cs fr d hg hu hd hi,run_loadVar_row w g2 t2 ty2 cs2 fr2 d2 hg2 hu2 hd2 hi2]
def iO(s t:ByteArray)(k:Int):Prop:=iP s k\/(k=1/\∃p,xG s=some p/\xP p=true/\yn t=none)\/(k=4/\∃p x,xG s=some p/\xP p=true/\yn t=some x/\x∉xC (xM p) p.white p.castle p.behind)
theorem iK(z:Nat->UInt8)(f t:Nat)(hf:f<64)(ht:t<64){h:Int}(h0:0<=h){wh:Bool}{g:Int}(g0:0<=g)(g1:g<=65535):(vK z f t=-1\/(0<=vK z f t/\vK z f t<64))/\0<=kK z f t h/\kK z f t h<=65535/\0<=kj wh g/\kj wh g<=65535:=by
 unfold vK kK kj;refine⟨?_,?_,?_,?_,?_⟩
 ·split
  ·right;omega
  ·left;rfl
 ·split<;>omega
 ·split<;>omega
 ·split<;>omega
 ·split<;>omega
end
theorem rc{s:ByteArray}(h:s.size=4):aw (s.extract 4 s.size)=(0,true):=by
 have:¬ 0<(s.extract 4 s.size).size:=by rw[ByteArray.size_extract];omega
 unfold aw;rw[dif_neg this]
theorem rZ{s:ByteArray}(h:s.size=5):aw (s.extract 4 s.size)=(s[4],decide (0<=Lib.indexByte uf s[4])):=by
 have h1:0<(s.extract 4 s.size).size:=by rw[ByteArray.size_extract];omega
 have h2:(s.extract 4 s.size)[0]=s[4]:=by rw[ByteArray.getElem_extract]
 unfold aw;rw[dif_pos h1,h2]
theorem dR:∀c:UInt8,jD c=decide (vE c=0):=vg (by decide +kernel)
theorem lS(a b:Int):(a==b)=decide (a=b):=rfl
theorem lW{z:Nat->UInt8}{wh:Bool}{f t:Nat}(h:xS (zI z) 0 (xK wh) (f:Int) (t:Int)=true):uI f t=xK wh:=by
 unfold xS at h;rw[qI rfl,qH]at h;have h2:=q8 h.2;unfold uI;omega
section
attribute [local go_sem] qd qe Oper.semAt_some
theorem xe{W:World}{b:Nat}{o:Obj}(h:W.heap[b]?=some o):b<W.heap.size:=(qB.1 h).1
theorem dz{s t:ByteArray}{k k':Int}(h:iO s t k)(h':iO s t k'):k=k':=by
 rcases h with(⟨e,a⟩|⟨e,q,a,b⟩)|⟨e,q,a,b,c⟩|⟨e,q,y,a,b,c,d⟩<;>rcases h' with(⟨e',a'⟩|⟨e',q',a',b'⟩)|⟨e',q',a',b',c'⟩|⟨e',q',y',a',b',c',d'⟩<;>first|(rw[e,e'];done)|(exfalso;rw[a]at a';first|(cases a';done)|(have a2:=qP a';subst a2;first|(rw[b]at b';cases b';done)|(rw[c]at c';cases c')))
end
end Go.Proofs.YtnfakamfmkhlbabGreatDoor.C
