import Derived.Test.YtnfakamfmkhlbabGreatDoorUm31
import Derived.Test.YtnfakamfmkhlbabGreatDoorKz2
import Derived.Test.YtnfakamfmkhlbabGreatDoorKz3
set_option maxRecDepth 100000
set_option maxHeartbeats 4000000
set_option linter.unusedSimpArgs false
namespace Go.Proofs.YtnfakamfmkhlbabGreatDoor.C
open Go.RowKit Go.Proofs.YtnfakamfmkhlbabGreatDoor.P Go.ChangeShapes Go.WideShapes Go.ChangeAt
section
attribute [local go_sem] qd qe
def toB(f t k:Nat):Bool:=decide ((f:Int)=xY k)||decide ((f:Int)=zD k)||decide ((t:Int)=xY k)||decide ((t:Int)=zD k)
def cM(fc:Nat->Bool)(f t:Nat)(n:Nat)(k:Nat):Bool:=fc k&&!(decide (k<n)&&toB f t k)
def oZ(z:Nat->UInt8)(f t:Nat):Bool:=decide (vE (z f)=0)&&decide (uI f t=2\/uI f t=-2)
def oA(z:Nat->UInt8)(wh:Bool)(f t:Nat):Int:=if oZ z f t then(f:Int)+8*xK wh else -1
def iQ(z:Nat->UInt8)(b:Int)(f t:Nat):Bool:=decide (vE (z f)=0)||(!decide (z t=46)||uP z b f t)
def Cd(z:Nat->UInt8)(b:Int)(f t:Nat)(h:Int):Int:=if iQ z b f t then 0 else if h<65535 then h+1 else h
def Ce(wh:Bool)(g:Int):Int:=if !wh&&decide (g<65535)then g+1 else g
structure Bh(w:World)(PA:Array Value)(f t:Nat)(u:UInt8)(B:Nat)(Q:Array Value)(W:World):Prop where
 pm:Pm w PA f t u W
 rs:W.heap[w.heap.size+2]?=some (.cells Tryz.zeroCells70 70)
 q:W.heap[B]?=some (.cells Q 70)
 lo:w.heap.size+2<B
 hi:B<W.heap.size
theorem Bh.next{w W W':World}{PA Q:Array Value}{f t B:Nat}{u:UInt8}(h:Bh w PA f t u B Q W)(g:Gr W W'):Bh w PA f t u B Q W' :=
 ⟨h.pm.next g,(Below.block g _ (Nat.lt_trans h.lo h.hi)).trans h.rs,(Below.block g _ h.hi).trans h.q,h.lo,qN h.hi (Below.size g)⟩
theorem Bh.set{w W:World}{PA Q:Array Value}{f t B:Nat}{u:UInt8}(h:Bh w PA f t u B Q W)(i:Nat)(v:Value):Bh w PA f t u B (Q.setIfInBounds i v) (W.setCell ⟨B,i,none⟩ v):=by
 have fs:Fr (fun k _=>k≠B) W (W.setCell ⟨B,i,none⟩ v):=(Fr.refl _ _).setCell _ (fun o _ q=>q rfl);have lo:=h.lo;have hs:(W.setCell ⟨B,i,none⟩ v).heap.size=W.heap.size:=World.size_setCell ..;refine⟨⟨fs.same _ _ h.pm.pa (by omega),fs.same _ _ h.pm.mv (by omega),by rw[hs];exact h.pm.lt,Below.setCell h.pm.gr (show w.heap.size<=B by omega) _⟩,fs.same _ _ h.rs (by omega),qv h.q,lo,by rw[hs];exact h.hi⟩
theorem Bh.drew{w W:World}{PA Q:Array Value}{f t B:Nat}{u:UInt8}(h:Bh w PA f t u B Q W):Bh w PA f t u B Q W.drew:=⟨⟨h.pm.pa,h.pm.mv,h.pm.lt,h.pm.gr.drew⟩,h.rs,h.q,h.lo,h.hi⟩
theorem Bh.at{w W:World}{PA Q:Array Value}{f t B:Nat}{u:UInt8}(h:Bh w PA f t u B Q W){k:Nat}{v:Value}(hv:Q[k]?=some v):W.cell? ⟨B,k,none⟩=some v:=by
 rw[qn h.q];exact hv
theorem Bh.op{w W:World}{PA Q:Array Value}{f t B:Nat}{u:UInt8}(h:Bh w PA f t u B Q W)(k:Nat):W.frozen? ⟨B,k,none⟩=false:=xr h.q
theorem Dx(u:UInt8):dP u<6:=by unfold dP;split;omega;split;omega;split<;>omega
theorem Dy:∀u∈U5,u≠0->Lib.indexByte [112,110,98,114,113,107] u=((dP u:Nat):Int):=by decide +kernel
theorem qvi(u:UInt8)(hu:u∈U5)(h0:u≠0)(w:World):Calls Tryz.prog 111 #[.string ⟨#[112,110,98,114,113,107]⟩,.int .u8 (u.toNat:Int)] w fun e w'=>e=.returned (.int .i64 ((dP u:Nat):Int))/\w'=w:=by
 rw[<-Dy u hu h0];exact xa ⟨#[112,110,98,114,113,107]⟩ (by decide +kernel) u w
theorem GI(k:Nat)(hk:k<6)(b:Bool)(w:World):Calls Tryz.prog 195 #[.int .i64 ((k:Nat):Int),.int .i64 (xK b)] w fun e w'=>e=.returned (.int .u8 ((yP k b).toNat:Int))/\w'=w:=by
 have:k=0\/k=1\/k=2\/k=3\/k=4\/k=5:=by omega
 rcases this with rfl|rfl|rfl|rfl|rfl|rfl
 ·cases b
  ·show Calls Tryz.prog 195 #[.int .i64 0,.int .i64 (-1)] w _;go_enter Tryz.func195,Tryz.ntmps195;go_wp2;go_ret;exact⟨rfl,rfl⟩
  ·show Calls Tryz.prog 195 #[.int .i64 0,.int .i64 1] w _;go_enter Tryz.func195,Tryz.ntmps195;go_wp2;go_ret;exact⟨rfl,rfl⟩
 ·cases b
  ·show Calls Tryz.prog 195 #[.int .i64 1,.int .i64 (-1)] w _;go_enter Tryz.func195,Tryz.ntmps195;go_wp2;go_ret;exact⟨rfl,rfl⟩
  ·show Calls Tryz.prog 195 #[.int .i64 1,.int .i64 1] w _;go_enter Tryz.func195,Tryz.ntmps195;go_wp2;go_ret;exact⟨rfl,rfl⟩
 ·cases b
  ·show Calls Tryz.prog 195 #[.int .i64 2,.int .i64 (-1)] w _;go_enter Tryz.func195,Tryz.ntmps195;go_wp2;go_ret;exact⟨rfl,rfl⟩
  ·show Calls Tryz.prog 195 #[.int .i64 2,.int .i64 1] w _;go_enter Tryz.func195,Tryz.ntmps195;go_wp2;go_ret;exact⟨rfl,rfl⟩
 ·cases b
  ·show Calls Tryz.prog 195 #[.int .i64 3,.int .i64 (-1)] w _;go_enter Tryz.func195,Tryz.ntmps195;go_wp2;go_ret;exact⟨rfl,rfl⟩
  ·show Calls Tryz.prog 195 #[.int .i64 3,.int .i64 1] w _;go_enter Tryz.func195,Tryz.ntmps195;go_wp2;go_ret;exact⟨rfl,rfl⟩
 ·cases b
  ·show Calls Tryz.prog 195 #[.int .i64 4,.int .i64 (-1)] w _;go_enter Tryz.func195,Tryz.ntmps195;go_wp2;go_ret;exact⟨rfl,rfl⟩
  ·show Calls Tryz.prog 195 #[.int .i64 4,.int .i64 1] w _;go_enter Tryz.func195,Tryz.ntmps195;go_wp2;go_ret;exact⟨rfl,rfl⟩
 ·cases b
  ·show Calls Tryz.prog 195 #[.int .i64 5,.int .i64 (-1)] w _;go_enter Tryz.func195,Tryz.ntmps195;go_wp2;go_ret;exact⟨rfl,rfl⟩
  ·show Calls Tryz.prog 195 #[.int .i64 5,.int .i64 1] w _;go_enter Tryz.func195,Tryz.ntmps195;go_wp2;go_ret;exact⟨rfl,rfl⟩
theorem qxg{z:Nat->UInt8}{wh:Bool}{fc:Nat->Bool}{b h g:Int}{PA:Array Value}(r:jE z wh fc b h g PA)(f t:Nat)(hf:f<64)(ht:t<64)(u:UInt8)(hu:u∈U5)(h0:0<=h)(h1:h<=65535)(g0:0<=g)(g1:g<=65535)(w:World) :
  Calls Tryz.prog 106 #[.agg PA,.agg #[.int .i64 (f:Int),.int .i64 (t:Int),.int .u8 (u.toNat:Int)]] w fun e w'=>∃Q,e=.returned (.agg Q)/\jE (ua z wh fc b f t u) (!wh) (cM fc f t 4) (oA z wh f t) (Cd z b f t h) (Ce wh g) Q/\Gr w w':=by
 have hz:=r.size;have hone:=qC (qx r);obtain⟨x1,x2,x3,x4⟩:=jG w (.cells PA 70) (.cells #[.int .i64 (f:Int),.int .i64 (t:Int),.int .u8 (u.toNat:Int)] 125) (.cells Tryz.zeroCells70 70);have hP0:=(Pm.start w PA f t u).next ((Gr.refl _).alloc Tryz.zeroCells70 70);have htu:=qC (fun W=>Dv r W);have hkf:=qC (fun W=>zp (z f) W);have hpa:=qC (fun W=>bZ r f t hf ht u W);have hcs:=qC (fun W=>qxf r f t u W);have hf0:(0:Int)<=(f:Int):=by omega
 have hf1:(f:Int)<64:=by omega
 have ht0:(0:Int)<=(t:Int):=by omega
 have ht1:(t:Int)<64:=by omega
 have hvf:=r.sq f hf;have hvt:=r.sq t ht;have hvw:=r.wh;have hrow:=qC (vF hP0.pa);have x3':=qC x3;have x4':=qC x4;clear x1 x2 x3 x4;go_enter Tryz.func106,Tryz.ntmps106
 go_upto_region 2 with(first
  | (go_at_call 116;refine(qa htu _).mono ?_;rintro e w1 ⟨rfl,hg1⟩)
  | (refine ql (by rfl) _ rfl w.heap.size rfl hz (qa hrow) ?_))
 have hP1:=hP0.next hg1;have hlo:w.heap.size+2<w1.heap.size:=qN (by rw[qa x4'];omega) (Below.size hg1);have hrs1:=qC ((Below.block hg1 (w.heap.size+2) (by rw[qa x4'];omega)).trans (qa x3'));clear hP0 hg1 hrow htu x3' x4';have hrow:=qC (vF hP1.pa)
 go_upto_region 3 with(first
  | (refine ql (by rfl) _ rfl w.heap.size rfl hz (qa hrow) ?_)
  | (refine wpList_store_row rfl 70 _ _ rfl w1.heap.size PA rfl rfl 70 Tryz.zeroCells70 (heap_alloc_new _ _) (by rw[hz];exact q9) (by rw[hz];rfl) (qa hone) ?_))
 show Code.wp _ _ _ _ ((w1.alloc (.cells Tryz.zeroCells70 70)).setRow w1.heap.size PA);have hg3:Gr w1 ((w1.alloc (.cells Tryz.zeroCells70 70)).setRow w1.heap.size PA):=((Gr.refl w1).alloc _ _).setRow _ (qL _) _;have hB3:Bh w PA f t u w1.heap.size PA ((w1.alloc (.cells Tryz.zeroCells70 70)).setRow w1.heap.size PA):=⟨hP1.next hg3,(Below.block hg3 _ hlo).trans (qa hrs1),setRow_heap _ _ _ _ _ _ (heap_alloc_new w1 _),hlo,by rw[size_setRow,World.size_alloc];omega⟩;generalize ((w1.alloc (.cells Tryz.zeroCells70 70)).setRow w1.heap.size PA)=w3 at hB3 ⊢;generalize w1.heap.size=B at hB3 ⊢;clear hP1 hlo hrs1 hrow hg3;obtain⟨KD,hKD⟩:∃x,Hid (vE (z f)=x):=⟨_,qC rfl⟩;rw[qa hKD]at hkf;obtain⟨PS,hPS⟩:∃x,Hid (uP z b f t=x):=⟨_,qC rfl⟩;have hpa:Hid (∀W,Calls Tryz.prog 194 #[.agg PA,.agg #[.int .i64 (f:Int),.int .i64 (t:Int),.int .u8 (u.toNat:Int)]] W fun e w'=>e=.returned (.bool PS)/\Gr W w'):=qC (fun W=>by rw[<-qa hPS];exact qa hpa W);obtain⟨TK,hTK⟩:∃x,Hid ((!decide (z t=46))=x):=⟨_,qC rfl⟩
 have htk:(((z t).toNat:Int) != 46)=TK:=by
  rw[<-qa hTK];by_cases e:z t=46
  ·rw[e];rfl
  ·have:((z t).toNat:Int)≠46:=fun q=>e (q6.1 (by show(z t).toNat=46;omega))
   rw[qU.2 this,qE e];rfl
 have hcl:=qC (fun(Q:Array Value) W (h:Bh w PA f t u B Q W)=>h.pm.cells);have hbd:=qC (fun(Q:Array Value) W (h:Bh w PA f t u B Q W)=>(⟨h.pm.at hvf,h.pm.at hvt⟩:_/\_));obtain⟨m0,m1,m2⟩:=qa hcl _ _ hB3;obtain⟨cf,ct⟩:=qa hbd _ _ hB3;have hrow:=qC (vF hB3.pm.pa)
 go_upto_if 38 with(first
  | (go_at_call 107;refine(qa hkf _).mono ?_;rintro e w' ⟨rfl,hww⟩;have hww':=hww.symm;subst hww';clear hww)
  | (go_at_call 194;refine(qa hpa _).mono ?_;rintro e w5 ⟨rfl,hg5⟩)
  | (refine ql (by rfl) _ rfl w.heap.size rfl hz (qa hrow) ?_))
 have hB5:=hB3.next hg5;clear hB3 hg5 m0 m1 m2 cf ct hrow hkf hpa htk hone;obtain⟨n1,hn1⟩:∃n,Hid (n=f/8*8+t%8):=⟨_,qC rfl⟩;go_cut [8]from 39 (fun s8 wx=>∃Q,s8=.bool (TK||PS)/\Bh w PA f t u B Q wx/\jE (wC z b f t) wh fc b h g Q)
 case first =>
  cases PS
  ·have hz1:Hid (wC z b f t=z):=qC (by unfold wC;rw[qa hPS];rfl);clear hcs hcl hbd hPS;go_wp2_with fail;go_meet
   case rel=>exact⟨PA,by simp,hB5,by rw[qa hz1];exact r⟩
  ·have hz1:Hid (wC z b f t=vW z n1 46):=qC (by unfold wC;rw[qa hPS,qa hn1];rfl);have hn64:n1<64:=by have:=qa hn1;omega
   have e1:IntKind.i64.wrap ((f:Int)/8*8)=(f:Int)/8*8:=by rw[IntKind.wrap_i64];omega
   have e2:IntKind.i64.wrap ((f:Int)/8*8+(t:Int)%8)=(n1:Int):=by rw[IntKind.wrap_i64];have:=qa hn1;omega
   have e3:(0:Int)<=(n1:Int):=by omega
   have e4:(n1:Int)<64:=by omega
   obtain⟨m0,m1,m2⟩:=qa hcl _ _ hB5;have cn:=hB5.at (r.sq n1 hn64);have on:=hB5.op n1;have hfin:=qC (hB5.set n1 (.int .u8 46));have hrw:=qC (r.setSq n1 hn64 46);clear hcs hcl hbd hPS hB5;go_wp2_with fail;go_meet
   case rel=>exact⟨PA.setIfInBounds n1 (.int .u8 46),by simp,qa hfin,by rw[qa hz1];exact qa hrw⟩
 case rest =>
  obtain⟨Q1,rfl,hB6,hR6⟩:=hcut;clear hB5 hn1 r;obtain⟨m0,m1,m2⟩:=qa hcl _ _ hB6;obtain⟨cf,ct⟩:=qa hbd _ _ hB6;have qt:=hB6.at (hR6.sq t ht);have ot:=hB6.op t;have hin:Hid (∀w',(∃Q,Bh w PA f t u B Q w')->(∃Q,Bh w PA f t u B Q w')/\w'.cell? ⟨w.heap.size+1,0,none⟩=some (.int .i64 (f:Int))/\w'.cell? ⟨w.heap.size+1,1,none⟩=some (.int .i64 (t:Int))/\w'.cell? ⟨w.heap.size,f,none⟩=some (.int .u8 ((z f).toNat:Int))):=qC (fun w' h=>⟨h,by obtain⟨Q,h⟩:=h;exact⟨h.pm.cells.1,h.pm.cells.2.1,h.pm.at hvf⟩⟩);have qt':wc.drew.cell? ⟨B,t,none⟩=some (.int .u8 ((wC z b f t t).toNat:Int)):=qt;have ot':wc.drew.frozen? ⟨B,t,none⟩=false:=ot;have hBd:=hB6.drew;clear qt ot m0 m1 m2 cf ct;go_upto_region 9 with fail;go_region_held3 (fun w'=>(∃Q,Bh w PA f t u B Q w')/\w'.cell? ⟨w.heap.size+1,0,none⟩=some (.int .i64 (f:Int))/\w'.cell? ⟨w.heap.size+1,1,none⟩=some (.int .i64 (t:Int))/\w'.cell? ⟨w.heap.size,f,none⟩=some (.int .u8 ((z f).toNat:Int))) (first|exact qa hin _ ⟨_,hBd⟩|exact qa hin _ ⟨_,Bh.set hBd _ _⟩|exact qa hin _ (And.left (by assumption))) (fail);show Exit.then _ _ _ _ (wc.setCell ⟨B,t,none⟩ (.int .u8 ((z f).toNat:Int))).drew;have hB9:=(hB6.set t (.int .u8 ((z f).toNat:Int))).drew;have hR9:Hid (jE (vW (wC z b f t) t (z f)) wh fc b h g (Q1.setIfInBounds t (.int .u8 ((z f).toNat:Int)))):=qC (hR6.setSq t ht (z f));rename_i hHx;clear hHx hB6 hR6 hBd qt' ot' hin;generalize (wc.setCell ⟨B,t,none⟩ (.int .u8 ((z f).toNat:Int))).drew=w9 at hB9 ⊢;generalize Q1.setIfInBounds t (.int .u8 ((z f).toNat:Int))=Q9 at hB9 hR9;obtain⟨m0,m1,m2⟩:=qa hcl _ _ hB9;have qf:=hB9.at ((qa hR9).sq f hf);have of:=hB9.op f;go_upto_region 11 with fail;show Code.wp _ _ _ _ (w9.setCell ⟨B,f,none⟩ (.int .u8 46));have hB10:=hB9.set f (.int .u8 46);have hR10:Hid (jE (CY z b f t) wh fc b h g (Q9.setIfInBounds f (.int .u8 46))):=qC ((qa hR9).setSq f hf 46);clear qf of m0 m1 m2 hB9 hR9;generalize w9.setCell ⟨B,f,none⟩ (.int .u8 46)=w10 at hB10 ⊢;generalize Q9.setIfInBounds f (.int .u8 46)=Q10 at hB10 hR10;obtain⟨m0,m1,m2⟩:=qa hcl _ _ hB10;obtain⟨NU,hNU⟩:∃x,Hid (decide (u≠0)=x):=⟨_,qC rfl⟩
  have hnu:((u.toNat:Int) != 0)=NU:=by
   rw[<-qa hNU];by_cases e:u=0
   ·subst e;rfl
   ·have:(u.toNat:Int)≠0:=fun h=>e (q6.1 (by simpa using h))
    rw[qU.2 this,qJ e]
  go_upto_if 64 with fail;clear hnu;go_cut [7]from 65 (fun s7 wx=>∃Q,s7=.int .i64 KD/\Bh w PA f t u B Q wx/\jE (n9 z wh b f t u) wh fc b h g Q)
  case first =>
   clear hcs;cases NU
   ·have hu0:u=0:=by simpa using qa hNU
    have hbz:Hid (n9 z wh b f t u=CY z b f t):=qC (by unfold n9;rw[qI hu0]);clear hu0;go_wp2_with fail;go_meet
    case rel=>exact⟨Q10,rfl,hB10,by rw[qa hbz];exact qa hR10⟩
   ·have hu0:u≠0:=by simpa using qa hNU
    have hplc:=qC (fun W=>qvi u hu hu0 W);have hman:=qC (fun W=>GI (dP u) (Dx u) wh W);have hrw:=qC ((qa hR10).setSq t ht (yP (dP u) wh));have hbz:Hid (n9 z wh b f t u=vW (CY z b f t) t (yP (dP u) wh)):=qC (by unfold n9;rw[qF hu0]);have hin:Hid (∀w',(∃Q,Bh w PA f t u B Q w')->(∃Q,Bh w PA f t u B Q w')/\w'.cell? ⟨w.heap.size+1,1,none⟩=some (.int .i64 (t:Int))/\w'.cell? ⟨w.heap.size+1,2,none⟩=some (.int .u8 (u.toNat:Int))):=qC (fun w' h=>⟨h,by obtain⟨Q,h⟩:=h;exact⟨h.pm.cells.2.1,h.pm.cells.2.2⟩⟩);have qt':w10.drew.cell? ⟨B,t,none⟩=some (.int .u8 ((CY z b f t t).toNat:Int)):=hB10.at ((qa hR10).sq t ht);have ot':w10.drew.frozen? ⟨B,t,none⟩=false:=hB10.op t;have hBd:=hB10.drew;have hfin:=qC (hB10.set t (.int .u8 ((yP (dP u) wh).toNat:Int))).drew;clear m0 m1 m2 hcl hbd hu0;generalize yP (dP u) wh=ML at hman hrw hbz hfin;generalize ((dP u:Nat):Int)=PU at hplc hman;go_upto_region 12 with fail;go_region_held3 (fun w'=>(∃Q,Bh w PA f t u B Q w')/\w'.cell? ⟨w.heap.size+1,1,none⟩=some (.int .i64 (t:Int))/\w'.cell? ⟨w.heap.size+1,2,none⟩=some (.int .u8 (u.toNat:Int))) (first|exact qa hin _ ⟨_,hBd⟩|exact qa hin _ ⟨_,Bh.set hBd _ _⟩|exact qa hin _ (And.left (by assumption))) (first|(go_at_call 111;refine(qa hplc _).mono ?_;rintro e w6 ⟨rfl,rfl⟩)|(go_at_call 195;refine(qa hman _).mono ?_;rintro e w6 ⟨rfl,rfl⟩));show Exit.then _ _ _ _ (w10.setCell ⟨B,t,none⟩ (.int .u8 (ML.toNat:Int))).drew;go_wp2_with fail;go_meet
    case rel=>exact⟨_,rfl,qa hfin,by rw[qa hbz];exact qa hrw⟩
  case rest =>
   obtain⟨Q12,rfl,hB12,hR12⟩:=hcut;clear hB10 hR10 hNU m0 m1 m2;obtain⟨C,hCc⟩:∃C,Hid (zK wh fc f t u=C):=⟨_,qC rfl⟩;rw[qa hCc]at hcs;have hcc:=qC (qvy wh fc f t u);rw[qa hCc]at hcc;obtain⟨m0,m1,m2⟩:=qa hcl _ _ hB12;have hrow:=qC (vF hB12.pm.pa)
   go_upto_region 14 with(first
    | (go_at_call 108;refine(qa hcs _).mono ?_;rintro e w13 ⟨rfl,hg13⟩)
    | (refine ql (by rfl) _ rfl w.heap.size rfl hz (qa hrow) ?_))
   have hB13:=hB12.next hg13;clear hB12 hg13 m0 m1 m2 hrow hcs;obtain⟨KC,hKC⟩:∃x,Hid ((decide (KD=5)&&decide (0<=C))=x):=⟨_,qC rfl⟩;go_cut [82]from 77 (fun s82 wx=>s82=.bool KC/\wx=w13)
   case first =>
    clear hcl hbd;by_cases k5:KD=5
    ·have hk6:(KD==5)=true:=beq_iff_eq.2 k5;by_cases c0:0<=C
     ·have hx:Hid (KC=true):=qC (by rw[<-qa hKC,qJ k5,qJ c0];rfl);clear k5;go_wp2_with fail;go_meet
      case rel=>exact⟨by rw[qa hx],rfl⟩
     ·have hx:Hid (KC=false):=qC (by rw[<-qa hKC,qJ k5,qE c0];rfl);have c1:C<0:=by omega
      clear k5;go_wp2_with fail;go_meet
      case rel=>exact⟨by rw[qa hx],rfl⟩
    ·have hk6:(KD==5)=false:=by rw[qM];exact k5
     have hx:Hid (KC=false):=qC (by rw[<-qa hKC,qE k5];rfl);clear k5;go_wp2_with fail;go_meet
     case rel=>exact⟨by rw[qa hx],rfl⟩
   case rest =>
    obtain⟨rfl,rfl⟩:=hcut;go_upto_if 82 with fail;go_cut [7]from 83 (fun s7 wx=>∃Q,s7=.int .i64 KD/\Bh w PA f t u B Q wx/\jE (ua z wh fc b f t u) wh fc b h g Q)
    case first =>
     cases KC
     ·have hbz:Hid (ua z wh fc b f t u=n9 z wh b f t u):=qC (by
       have:sm z wh fc f t u=false:=by unfold sm;rw[qa hKD,qa hCc];exact qa hKC
       unfold ua;rw[this];rfl)
      clear hcl hbd;go_wp2_with fail;go_meet
      case rel=>exact⟨Q12,rfl,hB13,by rw[qa hbz];exact hR12⟩
     ·have hkc:sm z wh fc f t u=true:=by unfold sm;rw[qa hKD,qa hCc];exact qa hKC
      have hc0:0<=C:=by
       have:=qa hKC;rw[qH,qG,qG]at this;exact this.2
      obtain⟨ci,hci,eC⟩:∃i:Nat,i<4/\C=(i:Int):=by
       rcases qa hcc with e|e
       ·omega
       ·exact e
      obtain⟨rr,hrr,er⟩:∃n:Nat,n<64/\zD ci=(n:Int):=⟨hR ci,(zi ci hci).2.2.1,(dq ci hci).2.2⟩;obtain⟨mm,hmm⟩:∃n,Hid (n=(f+t)/2):=⟨_,qC rfl⟩;have hmm64:mm<64:=by have:=qa hmm;omega
      have hbz:Hid (ua z wh fc b f t u=vW (vW (n9 z wh b f t u) rr 46) mm (yP 3 wh)):=qC (by
       unfold ua;rw[hkc,qI rfl,qa hCc,eC,Int.toNat_natCast,er,Int.toNat_natCast,qa hmm])
      have hho:Hid (∀W,Calls Tryz.prog 196 #[.int .i64 C] W fun e w'=>e=.returned (.tuple #[.int .i64 (xY ci),.int .i64 (vN ci),.int .i64 (rr:Int),.int .i64 (xK (decide (ci<2)))])/\w'=W):=qC (fun W=>by rw[eC,<-er];exact zr ci hci W);have hman:=qC (fun W=>DF wh W);have r0:(0:Int)<=(rr:Int):=by omega
      have r1:(rr:Int)<64:=by omega
      have n0:(0:Int)<=(mm:Int):=by omega
      have n1':(mm:Int)<64:=by omega
      have e1:IntKind.i64.wrap ((f:Int)+(t:Int))=(f:Int)+(t:Int):=by rw[IntKind.wrap_i64];omega
      have e2:((f:Int)+(t:Int))/2=(mm:Int):=by have:=qa hmm;omega
      have e3:((f:Int)+(t:Int)).tdiv 2=(mm:Int):=by rw[Int.tdiv_eq_ediv_of_nonneg (by omega)];exact e2
      have e4:IntKind.i64.wrap (mm:Int)=(mm:Int):=by rw[IntKind.wrap_i64];omega
      have qr:=hB13.at (hR12.sq rr hrr);have or:=hB13.op rr;clear hkc hc0 eC er hKC hcc;go_upto_region 17 with(go_at_call 196;refine(qa hho _).mono ?_;rintro e w' ⟨rfl,hww⟩;have hww':=hww.symm;subst hww';clear hww);show Code.wp _ _ _ _ (wc.setCell ⟨B,rr,none⟩ (.int .u8 46));have hB16:=hB13.set rr (.int .u8 46);have hR16:Hid (jE (vW (n9 z wh b f t u) rr 46) wh fc b h g (Q12.setIfInBounds rr (.int .u8 46))):=qC (hR12.setSq rr hrr 46);clear hB13 hR12 qr or hho;generalize wc.setCell ⟨B,rr,none⟩ (.int .u8 46)=w16 at hB16 ⊢;generalize Q12.setIfInBounds rr (.int .u8 46)=Q16 at hB16 hR16;have hrw:=qC ((qa hR16).setSq mm hmm64 (yP 3 wh));have hin:Hid (∀w',(∃Q,Bh w PA f t u B Q w')->(∃Q,Bh w PA f t u B Q w')/\w'.cell? ⟨w.heap.size+1,0,none⟩=some (.int .i64 (f:Int))/\w'.cell? ⟨w.heap.size+1,1,none⟩=some (.int .i64 (t:Int))):=qC (fun w' h=>⟨h,by obtain⟨Q,h⟩:=h;exact⟨h.pm.cells.1,h.pm.cells.2.1⟩⟩);obtain⟨ov,hov⟩:∃v,Q16[mm]?=some v:=⟨_,(qa hR16).sq mm hmm64⟩;have qt':w16.drew.cell? ⟨B,mm,none⟩=some ov:=hB16.at hov;have ot':w16.drew.frozen? ⟨B,mm,none⟩=false:=hB16.op mm;have hBd:=hB16.drew;have hfin:=qC (hB16.set mm (.int .u8 ((yP 3 wh).toNat:Int))).drew;clear hcl hbd;generalize yP 3 wh=ML at hman hrw hbz hfin;go_region_held3 (fun w'=>(∃Q,Bh w PA f t u B Q w')/\w'.cell? ⟨w.heap.size+1,0,none⟩=some (.int .i64 (f:Int))/\w'.cell? ⟨w.heap.size+1,1,none⟩=some (.int .i64 (t:Int))) (first|exact qa hin _ ⟨_,hBd⟩|exact qa hin _ ⟨_,Bh.set hBd _ _⟩|exact qa hin _ (And.left (by assumption))) (first|(go_at_call 195;refine(qa hman _).mono ?_;rintro e w6 ⟨rfl,rfl⟩));show Exit.then _ _ _ _ (w16.setCell ⟨B,mm,none⟩ (.int .u8 (ML.toNat:Int))).drew;go_wp2_with fail;go_meet
      case rel=>exact⟨_,rfl,qa hfin,by rw[qa hbz];exact qa hrw⟩
    case rest =>
     obtain⟨Q17,rfl,hB17,hR17⟩:=hcut;clear hB13 hR12 hKC hcc;have hR17':=qC (hR17.castle (fc':=cM fc f t 0) (fun i _=>by unfold cM;simp));obtain⟨Z4,hZ4⟩:∃x,Hid (ua z wh fc b f t u=x):=⟨_,qC rfl⟩;rw[qa hZ4]at hR17';clear hR17;go_wp2_with fail;go_loopg [15] 4 (fun gm k wr=>∃(d:Nat)(Q:Array Value),d+gm=4/\k=.int .i64 (d:Int)/\Bh w PA f t u B Q wr/\jE Z4 wh (cM fc f t d) b h g Q)
     case atStart=>exact⟨0,Q17,by omega,rfl,hB17,qa hR17'⟩
     case round =>
      clear hB17 hR17';obtain⟨d,Qd,d1,rfl,hBd,hRd⟩:=hrel;by_cases hd:d<4
      ·have hho:=qC (fun W=>zr d hd W);obtain⟨m0,m1,m2⟩:=qa hcl _ _ hBd;obtain⟨TB,hTB⟩:∃x,Hid (toB f t d=x):=⟨_,qC rfl⟩;go_upto_region 22 with(go_at_call 196;refine(qa hho _).mono ?_;rintro e w' ⟨rfl,hww⟩;have hww':=hww.symm;subst hww';clear hww);go_cut [135]from 103 to 138 (fun s135 wx=>s135=.bool TB/\wx=wr)
       case first =>
        have hto:Hid (TB=(((f:Int)==xY d)||((f:Int)==zD d)||((t:Int)==xY d)||((t:Int)==zD d))):=qC (by
         rw[<-qa hTB];unfold toB
         have e:∀a c:Int,decide (a=c)=(a==c):=fun a c=>by
          by_cases q:a=c
          ·rw[qJ q,beq_iff_eq.2 q]
          ·rw[qE q,qM.2 q]
         rw[e,e,e,e])
        clear hcl hbd hTB hho;obtain⟨y1,e1⟩:∃x,((f:Int)==xY d)=x:=⟨_,rfl⟩;obtain⟨y2,e2⟩:∃x,((f:Int)==zD d)=x:=⟨_,rfl⟩;obtain⟨y3,e3⟩:∃x,((t:Int)==xY d)=x:=⟨_,rfl⟩;obtain⟨y4,e4⟩:∃x,((t:Int)==zD d)=x:=⟨_,rfl⟩;rw[e1,e2,e3,e4]at hto;cases y1
        ·cases y2
         ·cases y3
          ·cases y4
           ·go_wp2_with fail;go_meet
            case rel=>exact⟨by rw[qa hto];rfl,rfl⟩
           ·go_wp2_with fail;go_meet
            case rel=>exact⟨by rw[qa hto];rfl,rfl⟩
          ·go_wp2_with fail;go_meet
           case rel=>exact⟨by rw[qa hto];rfl,rfl⟩
         ·go_wp2_with fail;go_meet
          case rel=>exact⟨by rw[qa hto];rfl,rfl⟩
        ·go_wp2_with fail;go_meet
         case rel=>exact⟨by rw[qa hto];rfl,rfl⟩
       case rest =>
        obtain⟨rfl,rfl⟩:=hcut;clear hho;go_upto_if 135 with fail;cases TB
        ·have hR':=qC (hRd.castle (fc':=cM fc f t (d+1)) (fun i _=>by
          unfold cM;by_cases e:i=d
          ·subst e;rw[qa hTB];simp
          ·have:decide (i<d+1)=decide (i<d):=by
            by_cases q:i<d
            ·rw[qJ q,qJ (by omega)]
            ·rw[qE q,qE (by omega)]
           rw[this]))
         clear hRd hTB;go_wp2_with fail;go_roundg (gk-1)
         case measure=>omega
         case rel=>exact⟨d+1,Qd,by omega,by go_num,hBd,qa hR'⟩
        ·have hR':=qC ((hRd.setC d hd false).castle (fc':=cM fc f t (d+1)) (fun i _=>by
          unfold cM;by_cases e:i=d
          ·subst e;rw[qa hTB];simp
          ·have:decide (i<d+1)=decide (i<d):=by
            by_cases q:i<d
            ·rw[qJ q,qJ (by omega)]
            ·rw[qE q,qE (by omega)]
           rw[this,qF e]))
         have qc:=hBd.at (hRd.c d hd);have oc:=hBd.op (65+d);have hB':=qC (hBd.set (65+d) (.bool false));have dd0:(0:Int)<=(d:Int):=by omega
         have dd1:(d:Int)<4:=by omega
         clear hRd hTB hBd;go_wp2_with fail;go_roundg (gk-1)
         case measure=>omega
         case rel=>exact⟨d+1,Qd.setIfInBounds (65+d) (.bool false),by omega,by go_num,qa hB',qa hR'⟩
      ·have ed:d=4:=by omega
       subst ed;have qb:=hBd.at hRd.b;have ob:=hBd.op 69;go_upto_region 25 with fail;show Code.wp _ _ _ _ (wr.setCell ⟨B,69,none⟩ (.int .i64 (-1)));have hB24:=hBd.set 69 (.int .i64 (-1));have hR24:Hid (jE Z4 wh (cM fc f t 4) (-1) h g (Qd.setIfInBounds 69 (.int .i64 (-1)))):=qC (hRd.setB (-1));clear hBd hRd qb ob;generalize wr.setCell ⟨B,69,none⟩ (.int .i64 (-1))=w24 at hB24 ⊢;generalize Qd.setIfInBounds 69 (.int .i64 (-1))=Q24 at hB24 hR24;obtain⟨TW,hTW⟩:∃x,Hid (oZ z f t=x):=⟨_,qC rfl⟩;obtain⟨m0,m1,m2⟩:=qa hcl _ _ hB24;go_cut [152]from 139 (fun s152 wx=>s152=.bool TW/\wx=w24)
       case first =>
        by_cases k0:KD=0
        ·have hk6:(KD==0)=true:=beq_iff_eq.2 k0;obtain⟨dd,hdd⟩:∃x,Hid ((t:Int)/8-(f:Int)/8=x):=⟨_,qC rfl⟩;have hwr:IntKind.i64.wrap ((t:Int)/8-(f:Int)/8)=dd:=by rw[IntKind.wrap_i64];have:=qa hdd;omega
         have habs:=qC (fun W=>xh dd (by have:=qa hdd;omega) (by have:=qa hdd;omega) W)
         have hx:Hid (TW=(ab dd==2)):=qC (by
          rw[<-qa hTW];unfold oZ;have e:uI f t=dd:=by rw[<-qa hdd];unfold uI;omega
          rw[qa hKD,qJ k0,e,Bool.true_and];unfold ab;by_cases q:dd<0
          ·rw[qI q];by_cases q2:dd=-2
           ·rw[q2];rfl
           ·rw[qE (by omega)];symm;rw[qM];omega
          ·rw[qF q];by_cases q2:dd=2
           ·rw[q2];rfl
           ·rw[qE (by omega)];symm;rw[qM];omega)
         clear hcl hbd k0;go_wp2_with(go_at_call 197;refine(qa habs _).mono ?_;rintro e w' ⟨rfl,hww⟩;have hww':=hww.symm;subst hww';clear hww);go_meet
         case rel=>exact⟨by rw[qa hx],rfl⟩
        ·have hk6:(KD==0)=false:=by rw[qM];exact k0
         have hx:Hid (TW=false):=qC (by rw[<-qa hTW];unfold oZ;rw[qa hKD,qE k0];rfl);clear hcl hbd k0;go_wp2_with fail;go_meet
         case rel=>exact⟨by rw[qa hx],rfl⟩
       case rest =>
        obtain⟨rfl,rfl⟩:=hcut;go_upto_if 152 with fail;go_cut [7]from 153 (fun s7 wx=>∃Q,s7=.int .i64 KD/\Bh w PA f t u B Q wx/\jE Z4 wh (cM fc f t 4) (oA z wh f t) h g Q)
        case first =>
         cases TW
         ·have hx:Hid (oA z wh f t=-1):=qC (by unfold oA;rw[qa hTW];rfl);clear hcl hbd;go_wp2_with fail;go_meet
          case rel=>exact⟨Q24,rfl,hB24,by rw[qa hx];exact qa hR24⟩
         ·have hx:Hid (oA z wh f t=(f:Int)+8*xK wh):=qC (by unfold oA;rw[qa hTW];rfl);obtain⟨sv,hsv⟩:∃x,Hid ((f:Int)+8*xK wh=x):=⟨_,qC rfl⟩;have hs1:-1<=xK wh/\xK wh<=1:=by cases wh<;>decide
          have e1:IntKind.i64.wrap (8*xK wh)=8*xK wh:=by rw[IntKind.wrap_i64];omega
          have e2:IntKind.i64.wrap ((f:Int)+8*xK wh)=sv:=by rw[IntKind.wrap_i64];have:=qa hsv;omega
          rw[qa hsv]at hx;have qb:=hB24.at (qa hR24).b;have ob:=hB24.op 69;have hB':=qC (hB24.set 69 (.int .i64 sv));have hR':=qC ((qa hR24).setB sv);clear hcl hbd hB24 hR24;go_wp2_with fail;go_meet
          case rel=>exact⟨_,rfl,qa hB',by rw[qa hx];exact qa hR'⟩
        case rest =>
         obtain⟨Q26,rfl,hB26,hR26⟩:=hcut;clear hB24 hR24 hTW m0 m1 m2;obtain⟨bb,hbb⟩:∃x,Hid (oA z wh f t=x):=⟨_,qC rfl⟩;rw[qa hbb]at hR26;have qh:=hB26.at hR26.h;obtain⟨HL,hHL⟩:∃x,Hid (decide (h<65535)=x):=⟨_,qC rfl⟩;have hhl:decide (h<65535)=HL:=qa hHL;go_upto_if 161 with fail;clear hhl;obtain⟨hh,hhh⟩:∃x,Hid ((if h<65535 then h+1 else h)=x):=⟨_,qC rfl⟩;go_cut [7]from 162 (fun s7 wx=>∃Q,s7=.int .i64 KD/\Bh w PA f t u B Q wx/\jE Z4 wh (cM fc f t 4) bb hh g Q)
         case first =>
          cases HL
          ·have hx:Hid (hh=h):=qC (by rw[<-qa hhh,qF (of_decide_eq_false (qa hHL))]);clear hcl hbd;go_wp2_with fail;go_meet
           case rel=>exact⟨Q26,rfl,hB26,by rw[qa hx];exact hR26⟩
          ·have hx:Hid (hh=h+1):=qC (by rw[<-qa hhh,qI (q8 (qa hHL))]);have e1:IntKind.i64.wrap (h+1)=hh:=by rw[IntKind.wrap_i64];have:=qa hx;omega
           have oh:=hB26.op 70;have hB':=qC (hB26.set 70 (.int .i64 hh));have hR':=qC (hR26.setH hh);clear hcl hbd hB26 hR26;go_wp2_with fail;go_meet
           case rel=>exact⟨_,rfl,qa hB',qa hR'⟩
         case rest =>
          obtain⟨Q28,rfl,hB28,hR28⟩:=hcut;clear hB26 hR26 qh hHL;obtain⟨ZH,hZH⟩:∃x,Hid (iQ z b f t=x):=⟨_,qC rfl⟩;have hzz:Hid (ZH=(decide (KD=0)||(TK||PS))):=qC (by rw[<-qa hZH];unfold iQ;rw[qa hKD,qa hTK,qa hPS]);obtain⟨TP,hTP⟩:∃x,Hid ((TK||PS)=x):=⟨_,qC rfl⟩;rw[qa hTP]at hzz ⊢;go_upto_region 29 with fail;go_cut [170]from 166 (fun s170 wx=>s170=.bool ZH/\wx=wc)
          case first =>
           clear hcl hbd;by_cases k0:KD=0
           ·have hk6:(KD==0)=true:=beq_iff_eq.2 k0;have hx:Hid (ZH=true):=qC (by rw[qa hzz,qJ k0];rfl);clear k0;go_wp2_with fail;go_meet
            case rel=>exact⟨by rw[qa hx],rfl⟩
           ·have hk6:(KD==0)=false:=by rw[qM];exact k0
            have hx:Hid (ZH=TP):=qC (by rw[qa hzz,qE k0];rfl);clear k0;go_wp2_with fail;go_meet
            case rel=>exact⟨by rw[qa hx],rfl⟩
          case rest =>
           obtain⟨rfl,hww⟩:=hcut;subst hww;go_upto_if 170 with fail;obtain⟨bh,hbh⟩:∃x,Hid (Cd z b f t h=x):=⟨_,qC rfl⟩;go_cut [7]from 171 (fun s7 wx=>∃Q,s7=.int .i64 KD/\Bh w PA f t u B Q wx/\jE Z4 wh (cM fc f t 4) bb bh g Q)
           case first =>
            cases ZH
            ·have hx:Hid (bh=hh):=qC (by rw[<-qa hbh];unfold Cd;rw[qa hZH,<-qa hhh];rfl);clear hcl hbd;go_wp2_with fail;go_meet
             case rel=>exact⟨Q28,rfl,hB28,by rw[qa hx];exact hR28⟩
            ·have hx:Hid (bh=0):=qC (by rw[<-qa hbh];unfold Cd;rw[qa hZH];rfl);have qh:=hB28.at hR28.h;have oh:=hB28.op 70;have hB':=qC (hB28.set 70 (.int .i64 0));have hR':=qC (hR28.setH 0);clear hcl hbd hB28 hR28;go_wp2_with fail;go_meet
             case rel=>exact⟨_,rfl,qa hB',by rw[qa hx];exact qa hR'⟩
           case rest =>
            obtain⟨Q30,rfl,hB30,hR30⟩:=hcut;clear hB28 hR28 hzz hTP hhh;obtain⟨GF,hGF⟩:∃x,Hid ((!wh&&decide (g<65535))=x):=⟨_,qC rfl⟩;have qg:=hB30.at hR30.g;obtain⟨SD,hSD⟩:∃x,Hid (xK wh=x):=⟨_,qC rfl⟩;rw[qa hSD];go_upto_region 31 with fail;go_cut [178]from 172 (fun s178 wx=>s178=.bool GF/\wx=wc)
            case first =>
             clear hcl hbd;cases wh
             ·have hs1:SD<0:=by rw[<-qa hSD];decide
              have hx:Hid (GF=decide (g<65535)):=qC (qa hGF).symm;go_wp2_with fail;go_meet
              case rel=>exact⟨by rw[qa hx],rfl⟩
             ·have hs1:¬ SD<0:=by rw[<-qa hSD];decide
              have hx:Hid (GF=false):=qC (qa hGF).symm;go_wp2_with fail;go_meet
              case rel=>exact⟨by rw[qa hx],rfl⟩
            case rest =>
             obtain⟨rfl,hww⟩:=hcut;subst hww;go_upto_if 178 with fail;obtain⟨gg,hgg⟩:∃x,Hid (Ce wh g=x):=⟨_,qC rfl⟩;go_cut [7]from 179 (fun s7 wx=>∃Q,s7=.int .i64 KD/\Bh w PA f t u B Q wx/\jE Z4 wh (cM fc f t 4) bb bh gg Q)
             case first =>
              cases GF
              ·have hx:Hid (gg=g):=qC (by rw[<-qa hgg];unfold Ce;rw[qa hGF];rfl);clear hcl hbd;go_wp2_with fail;go_meet
               case rel=>exact⟨Q30,rfl,hB30,by rw[qa hx];exact hR30⟩
              ·have hx:Hid (gg=g+1):=qC (by rw[<-qa hgg];unfold Ce;rw[qa hGF];rfl);have e1:IntKind.i64.wrap (g+1)=gg:=by rw[IntKind.wrap_i64];have:=qa hx;omega
               have og:=hB30.op 71;have hB':=qC (hB30.set 71 (.int .i64 gg));have hR':=qC (hR30.setG gg);clear hcl hbd hB30 hR30;go_wp2_with fail;go_meet
               case rel=>exact⟨_,rfl,qa hB',qa hR'⟩
             case rest =>
              obtain⟨Q32,rfl,hB32,hR32⟩:=hcut;clear hB30 hR30 hGF qg hcl hbd;have cw:=hB32.pm.at hvw;have qw:=hB32.at hR32.wh;have ow:=hB32.op 64;go_upto_region 34 with fail;show Code.wp _ _ _ _ (wc.setCell ⟨B,64,none⟩ (.bool (!wh)));have hB33:=hB32.set 64 (.bool (!wh));have hR33:jE Z4 (!wh) (cM fc f t 4) bb bh gg (Q32.setIfInBounds 64 (.bool (!wh))):=hR32.setWh (!wh);clear hB32 hR32 cw qw ow;generalize wc.setCell ⟨B,64,none⟩ (.bool (!wh))=w33 at hB33 ⊢;generalize Q32.setIfInBounds 64 (.bool (!wh))=Q33 at hB33 hR33;have hqz:=hR33.size;have hq1:=qx hR33;have hrow:=qC (vF hB33.q);have hrs:Hid (w33.heap[w.heap.size+1+1]?=some (.cells Tryz.zeroCells70 70)):=qC hB33.rs
              go_wp2_with(first
               | (refine ql (by rfl) _ rfl B rfl hqz (qa hrow) ?_)
               | (refine wpList_store_row rfl 70 _ _ rfl (w.heap.size+1+1) Q33 rfl rfl 70 Tryz.zeroCells70 (qa hrs) (by rw[hqz];exact q9) (by rw[hqz];rfl) hq1 ?_))
              refine bodyPost_ret (v:=.agg Q33) (results_cell_row Tryz.results106 _ _ (w.heap.size+1+1) 70 _ (0,0) _ rfl (setRow_heap _ _ _ _ _ _ (qa hrs)) Tryz.underlying70 rfl (by rw[hqz];exact q9)) rfl ⟨Q33,rfl,?_,hB33.pm.gr.setRow _ (by omega) _⟩;rw[qa hZ4,qa hbb,qa hbh,qa hgg];exact hR33
end
theorem m3{z:Nat->UInt8}{wh:Bool}{fc:Nat->Bool}{b:Int}(hC:kJ z wh fc b)(h0:-1<=b)(h1:b<=63){f t:Nat}{u:UInt8}(hf:f<64)(ht:t<64)(hu:u∈U5)(hg:j9 z wh fc b f t u=true):∃y:Nat,y<64/\xR (ua z wh fc b f t u) wh=(y:Int):=by
 obtain⟨i,hi,hc,hm,htu⟩:=(qjy hC hf ht hu).1 hg;rw[pC hC hi hf ht hc hm htu];exact(jy hC h0 h1 hi hf ht hc hm htu).1
def yY(z:Nat->UInt8)(wh:Bool)(fc:Nat->Bool)(b:Int):List Mv:=yE z wh fc b 64
theorem E8:∀i,i<64->pQ i<64:=by decide +kernel
theorem bL:∀f,f<64->pQ (pQ f)=f:=by decide +kernel
theorem gH:∀i,i<64->∀j,j<64->i<j->xQ (pQ i)<xQ (pQ j):=by decide +kernel
theorem wM{a b c d:List UInt8}(hl:a.length=b.length)(h:a<b):a++c<b++d:=by
 induction a generalizing b with
 | nil =>
  cases b with
  | nil=>exact absurd h (List.lt_irrefl _)
  | cons _ _=>cases hl
 | cons x r ih =>
  cases b with
  | nil=>cases hl
  | cons y s =>
   rw[List.cons_append,List.cons_append,List.cons_lt_cons_iff];rw[List.cons_lt_cons_iff]at h;rcases h with h|⟨h1,h2⟩
   ·exact .inl h
   ·exact .inr ⟨h1,ih (by simpa using hl) h2⟩
theorem lY{a c d:List UInt8}(h:c<d):a++c<a++d:=by
 induction a with
 | nil=>exact h
 | cons x r ih=>rw[List.cons_append,List.cons_append,List.cons_lt_cons_iff];exact .inr ⟨rfl,ih⟩
theorem BT{z:Nat->UInt8}{wh:Bool}{fc:Nat->Bool}{b:Int}(hC:kJ z wh fc b)(h0:-1<=b)(h1:b<=63)(x:Mv):x∈yY z wh fc b↔x∈yo z wh fc b:=by
 unfold yY yE eH kr;simp only[List.mem_flatMap,qK];constructor
 ·rintro⟨i,hi,hx⟩;split at hx
  ·obtain⟨k,hk,hx⟩:=List.mem_flatMap.1 hx;obtain⟨u,hu,rfl⟩:=List.mem_map.1 hx;obtain⟨hu,hl⟩:=qV.1 hu;exact(C8 hC h0 h1 (E8 i hi) (E8 k (qK.1 hk)) (List.mem_of_mem_take hu)).1 hl
  ·cases hx
 ·intro hx;obtain⟨i,f,t,u,rfl,hi,hf,ht,hc,hm,htu⟩:=(Ay hC).1 (qV.1 hx).1;obtain⟨u',e,u0,u1⟩:=wX htu;have:u=u':=by injection e with _ e;injection e
  subst this
  have hu5:u∈U5:=by
   unfold U5;rcases u1 with e|e|e|e|e<;>(rw[e];simp)
  refine⟨pQ f,E8 f hf,?_⟩;rw[bL f hf,qI (ja hi hc)];refine List.mem_flatMap.2 ⟨pQ t,qK.2 (E8 t ht),?_⟩;rw[bL t ht];refine List.mem_map.2 ⟨u,qV.2 ⟨?_,(C8 hC h0 h1 hf ht hu5).2 hx⟩,rfl⟩;have htt:=(pg ht hu5).1 htu;rw[beq_iff_eq]at htt;unfold ED;rw[ro hi hc];by_cases k:(i:Int)=0/\zO t=true
  ·rw[qI k];exact hu5
  ·rw[qF k]
   have:decide (u≠0)=false:=by
    rw[htt];cases hl:zO t with
    | false=>simp
    | true =>
     rw[qE (fun e=>k ⟨by omega,hl⟩)];rfl
   have:u=0:=by simpa using this
   rw[this];simp[U5]
theorem wQ(z:Nat->UInt8)(wh:Bool)(fc:Nat->Bool)(b:Int):(yY z wh fc b).Pairwise fun x y=>yJ x<yJ y:=by
 have kt:∀f t n,∀x∈kr z wh fc b f t n,x.1=f/\x.2.1=t:=fun f t n x hx=>by
  obtain⟨u,_,rfl⟩:=List.mem_map.1 hx;exact⟨rfl,rfl⟩
 have kf:∀f n,∀x∈eH z wh fc b f n,x.1=f:=fun f n x hx=>by
  obtain⟨k,_,hx⟩:=List.mem_flatMap.1 hx;exact(kt _ _ _ x hx).1
 unfold yY yE;rw[List.pairwise_flatMap];constructor
 ·intro i _;split
  ·unfold eH;rw[List.pairwise_flatMap];constructor
   ·intro k _;unfold kr;rw[List.pairwise_map];refine List.Pairwise.filter _ (List.Pairwise.sublist (List.take_sublist _ _) ?_);unfold U5;unfold yJ uY;simp only;have e:∀i,i<5->∀j,j<5->i<j->xQ (pQ i)=xQ (pQ i):=fun _ _ _ _ _=>rfl
    clear e;refine List.Pairwise.imp (R:=fun u v:UInt8=>(if u=0 then[]else[u])<(if v=0 then([]:List UInt8)else[v])) (fun {a c} h=>lY h) ?_;decide
   ·refine(List.pairwise_lt_range (n:=64)).imp_of_mem fun {a c} ha hc hlt x hx y hy=>?_
    obtain⟨x1,x2⟩:=kt _ _ _ x hx;obtain⟨y1,y2⟩:=kt _ _ _ y hy;unfold yJ uY;rw[x1,x2,y1,y2,qS,qS];exact lY (wM rfl (gH a (qK.1 ha) c (qK.1 hc) hlt))
  ·exact List.Pairwise.nil
 ·refine(List.pairwise_lt_range (n:=64)).imp_of_mem fun {a c} ha hc hlt x hx y hy=>?_
  split at hx
  ·split at hy
   ·have x1:=kf _ _ x hx;have y1:=kf _ _ y hy;unfold yJ uY;rw[x1,y1,qS,qS];exact wM rfl (gH a (qK.1 ha) c (qK.1 hc) hlt)
   ·cases hy
  ·cases hx
theorem qk3{z:Nat->UInt8}{wh:Bool}{fc:Nat->Bool}{b:Int}(hC:kJ z wh fc b)(h0:-1<=b)(h1:b<=63):yY z wh fc b=jI (xC z wh fc b):=by
 obtain⟨t1,t2⟩:=Fd hC h0 h1;refine zu (fun a c h=>List.lt_asymm h) _ _ (wQ z wh fc b) t2 fun x=>?_
 rw[BT hC h0 h1,je hC h0 h1,(xq _).mem_iff]
section
attribute [local go_sem] qd qe
structure Lg(w w4:World)(PA:Array Value)(B:Nat)(Q:Array Value)(W:World):Prop where
 pa:zJ w.heap.size PA W
 q:zJ B Q W
 gr:Gr w4 W
theorem Lg.next{w w4 W W':World}{PA Q:Array Value}{B:Nat}(h:Lg w w4 PA B Q W)(g:Gr W W'):Lg w w4 PA B Q W':=⟨h.pa.gr g,h.q.gr g,Gr.trans h.gr g⟩
theorem qjj{z:Nat->UInt8}{wh:Bool}{fc:Nat->Bool}{b h g:Int}{PA:Array Value}(r:jE z wh fc b h g PA)(hC:kJ z wh fc b)(hb0:-1<=b)(hb1:b<=63)(h0:0<=h)(h1:h<=65535)(g0:0<=g)(g1:g<=65535)(f t:Nat)(hf:f<64)(ht:t<64)(u:UInt8)(hu:u∈U5)(w:World) :
  Calls Tryz.prog 105 #[.agg PA,.agg #[.int .i64 (f:Int),.int .i64 (t:Int),.int .u8 (u.toNat:Int)]] w fun e w'=>e=.returned (.bool (vo z wh fc b f t u))/\Gr w w':=by
 have hz:=r.size;have hP0:=Pm.start w PA f t u;have htu:=qC (fun W=>Dv r W);have hgo:=qC (fun W=>m4 r f t hf ht u W);have hbe:=qC (fun W=>qxg r f t hf ht u hu h0 h1 g0 g1 W);have hrow:=qC (vF hP0.pa);obtain⟨m0,m1,m2⟩:=hP0.cells;have hki:=qC (m3 hC hb0 hb1 hf ht hu);have hV:Hid (vo z wh fc b f t u=(j9 z wh fc b f t u&&!(zM (ua z wh fc b f t u) (xR (ua z wh fc b f t u) wh) (!wh)))):=qC rfl;generalize vo z wh fc b f t u=V at hV ⊢;clear r hC;generalize j9 z wh fc b f t u=G at hgo hki hV;go_enter Tryz.func105,Tryz.ntmps105
 go_upto_region 2 with(first
  | (go_at_call 191;refine(qa hgo _).mono ?_;rintro e w1 ⟨rfl,hg1⟩)
  | (refine ql (by rfl) _ rfl w.heap.size rfl hz (qa hrow) ?_))
 have hP1:=hP0.next hg1;clear hP0 hg1 hrow hgo m0 m1 m2;obtain⟨m0,m1,m2⟩:=hP1.cells;have hrow:=qC (vF hP1.pa);cases G
 ·have hgr:=qC hP1.gr;go_wp2_with fail;go_ret;exact⟨by rw[qa hV];rfl,qa hgr⟩
 ·go_upto_region 5 with(first
   | (go_at_call 106;refine(qa hbe _).mono ?_;rintro e w2 ⟨Q,rfl,hQ,hg2⟩;have hqz:=hQ.size;have hq1:=qx hQ)
   | (refine wpList_store_row rfl 70 _ _ rfl w2.heap.size Q rfl rfl 70 Tryz.zeroCells70 (heap_alloc_new _ _) (by rw[hqz];exact q9) (by rw[hqz];rfl) hq1 ?_)
   | (refine ql (by rfl) _ rfl w.heap.size rfl hz (qa hrow) ?_))
  show Code.wp _ _ _ _ ((w2.alloc (.cells Tryz.zeroCells70 70)).setRow w2.heap.size Q);have hg3:Gr w2 ((w2.alloc (.cells Tryz.zeroCells70 70)).setRow w2.heap.size Q):=((Gr.refl w2).alloc _ _).setRow _ (qL _) _;have hq3:((w2.alloc (.cells Tryz.zeroCells70 70)).setRow w2.heap.size Q).heap[w2.heap.size]?=some (.cells Q 70):=setRow_heap _ _ _ _ _ _ (heap_alloc_new w2 _);have hP3:=(hP1.next hg2).next hg3;generalize ((w2.alloc (.cells Tryz.zeroCells70 70)).setRow w2.heap.size Q)=w4 at hg3 hq3 hP3 ⊢;generalize w2.heap.size=B at hq3 ⊢;obtain⟨y,hy64,hy⟩:=qa hki trivial;obtain⟨qs,qA⟩:=FN hQ
  have hKi:Hid (∀W:World,Calls Tryz.prog 193 #[.agg (Q.toList.take 64).toArray,.int .i64 (xK wh)] W fun e w'=>e=.returned (.int .i64 (y:Int))/\Gr W w'):=qC fun W=>by
   rw[<-hy];exact qzo _ _ qA wh W
  obtain⟨av,hav⟩:∃v,Hid (zM (ua z wh fc b f t u) (y:Int) (!wh)=v):=⟨_,qC rfl⟩
  have hAt:Hid (∀W:World,Calls Tryz.prog 192 #[.agg (Q.toList.take 64).toArray,.int .i64 (y:Int),.int .i64 (xK (!wh))] W fun e w'=>e=.returned (.bool av)/\Gr W w'):=qC fun W=>by
   rw[<-qa hav];exact ju _ _ qs qA (y:Int) (by omega) (by omega) (!wh) W
  have hend:Hid (V=!av):=qC (by rw[qa hV,hy,qa hav];rfl);have hng:Hid (IntKind.i64.wrap (-(xK wh))=xK (!wh)):=qC (by cases wh<;>decide)
  have hgr:=qC hP3.gr;have hHeld0:Lg w w4 PA B Q w4.drew:=⟨(vF hP3.pa).gr (Gr.refl _).drew,(vF hq3).gr (Gr.refl _).drew,(Gr.refl _).drew⟩;clear hP3 hP1 hg2 hg3 hq3 hbe hki hV hrow m0 m1 m2 qs qA hQ hq1 hav hy;refine wp_region_held_drew (S:=Lg w w4 PA B Q) (by kernel_rfl) hHeld0 (fun qD=>?_);clear hHeld0;refine C.tq 0 (.pointer (some ⟨B,0,none⟩)) qD ?_;refine C.ty 1 (.agg (Q.toList.take 64).toArray) rfl (DB hqz (by rfl) _ rfl B rfl (fun _ h=>h.q)) qD ?_;refine C.tq 2 (.pointer (some ⟨B,0,none⟩)) qD ?_;refine C.ty 3 (.agg (Q.toList.take 64).toArray) rfl (DB hqz (by rfl) _ rfl B rfl (fun _ h=>h.q)) qD ?_;refine C.ty 4 (.agg PA) rfl (zy hz (by rfl) _ rfl w.heap.size rfl (fun _ h=>h.pa)) qD ?_;refine C.ty 7 (.agg PA) rfl (zy hz (by rfl) _ rfl w.heap.size rfl (fun _ h=>h.pa)) qD ?_;refine C.rd 5 fun K hK=>?_
  go_simp;refine(qa htu _).mono ?_;rintro e wa1 ⟨rfl,hga1⟩;refine hK.out _ _ (qD.next hga1) (fun qD=>?_);clear hK K hga1
  try simp only[C.py]
  refine C.rd 6 fun K hK=>?_
  go_simp;refine(qa hKi _).mono ?_;rintro e wa2 ⟨rfl,hga2⟩;refine hK.out _ _ (qD.next hga2) (fun qD=>?_);clear hK K hga2
  try simp only[C.py]
  refine C.rd 8 fun K hK=>?_
  go_simp;refine(qa htu _).mono ?_;rintro e wa3 ⟨rfl,hga3⟩;refine hK.out _ _ (qD.next hga3) (fun qD=>?_);clear hK K hga3
  try simp only[C.py]
  refine C.ty 9 (.int .i64 (xK (!wh))) rfl (Or.inl ⟨by rfl,fun w _=>(by go_simp;exact qa hng)⟩) qD ?_;refine C.rd 10 fun K hK=>?_
  go_simp;refine(qa hAt _).mono ?_;rintro e wa4 ⟨rfl,hga4⟩;refine hK.out _ _ (qD.next hga4) (fun qD=>?_);clear hK K hga4
  try simp only[C.py]
  refine C.rd 11 fun K hK=>?_
  go_simp;refine hK.out _ _ qD (fun qD=>?_);clear hK K
  try simp only[C.py]
  refine wpAnyH_done (by kernel_rfl) ?_ _;have hgF:Hid (Gr w _):=qC (Gr.trans (qa hgr) qD.gr);clear qD;go_wp2_with fail;go_ret;exact⟨by rw[qa hend];rfl,qa hgF⟩
end
end Go.Proofs.YtnfakamfmkhlbabGreatDoor.C
