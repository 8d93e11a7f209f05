import Derived.Test.YtnfakamfmkhlbaaGreatDoorZe32
import Derived.Test.YtnfakamfmkhlbaaGreatDoorZe27
import Derived.Test.YtnfakamfmkhlbaaGreatDoorZe17
set_option maxRecDepth 100000
set_option maxHeartbeats 4000000
set_option linter.unusedSimpArgs false
namespace Go.Proofs.YtnfakamfmkhlbaaGreatDoor.C
open Go.ChangeShapes Go.WideShapes Go.ChangeAt Go.RowKit
open Go.Proofs.YtnfakamfmkhlbaaGreatDoor.P
attribute [local go_sem] qd qi
def pasB (z:Nat->UInt8) (b:Int) (f t:Nat):Bool:=decide (kdc (z f)=0)&&decide ((t:Int)=b)&&decide (f%8≠t%8)
def plU (u:UInt8):Nat:=if u=110 then 1 else if u=98 then 2 else if u=114 then 3 else 4
def bz1 (z:Nat->UInt8) (b:Int) (f t:Nat):Nat->UInt8:=if pasB z b f t then upd z (f/8*8+t%8) 46 else z
def bz2 (z:Nat->UInt8) (b:Int) (f t:Nat):Nat->UInt8:=upd (upd (bz1 z b f t) t (z f)) f 46
def bz3 (z:Nat->UInt8) (wh:Bool) (b:Int) (f t:Nat) (u:UInt8):Nat->UInt8:=if u=0 then bz2 z b f t else upd (bz2 z b f t) t (manL (plU u) wh)
def kcB (z:Nat->UInt8) (wh:Bool) (fc:Nat->Bool) (f t:Nat) (u:UInt8):Bool:=decide (kdc (z f)=5)&&decide (0<=casR wh fc f t u)
def bz4 (z:Nat->UInt8) (wh:Bool) (fc:Nat->Bool) (b:Int) (f t:Nat) (u:UInt8):Nat->UInt8:=if kcB z wh fc f t u then upd (upd (bz3 z wh b f t u) (homeR (casR wh fc f t u).toNat).toNat 46) ((f+t)/2) (manL 3 wh) else bz3 z wh b f t u
def toB (f t k:Nat):Bool:=decide ((f:Int)=homeK k)||decide ((f:Int)=homeR k)||decide ((t:Int)=homeK k)||decide ((t:Int)=homeR k)
def bfc (fc:Nat->Bool) (f t:Nat) (n:Nat) (k:Nat):Bool:=fc k&&!(decide (k<n)&&toB f t k)
def twoB (z:Nat->UInt8) (f t:Nat):Bool:=decide (kdc (z f)=0)&&decide (upR f t=2\/upR f t=-2)
def bbI (z:Nat->UInt8) (wh:Bool) (f t:Nat):Int:=if twoB z f t then (f:Int)+8*sdb wh else -1
def zeroH (z:Nat->UInt8) (b:Int) (f t:Nat):Bool:=decide (kdc (z f)=0)||(!decide (z t=46)||pasB z b f t)
def bhI (z:Nat->UInt8) (b:Int) (f t:Nat) (h:Int):Int:=if zeroH z b f t then 0 else if h<65535 then h+1 else h
def bgI (wh:Bool) (g:Int):Int:=if !wh&&decide (g<65535) then g+1 else g
structure Bh (w:World) (PA:Array Value) (f t:Nat) (u:UInt8) (B:Nat) (Q:Array Value) (W:World):Prop where
 pm:Pm w PA f t u W
 rs:W.heap[w.heap.size+2]?=some (.cells Tryz.zeroCells25 25)
 q:W.heap[B]?=some (.cells Q 25)
 lo:w.heap.size+2<B
 hi:B<W.heap.size
theorem Bh.next {w W W':World} {PA Q:Array Value} {f t B:Nat} {u:UInt8} (h:Bh w PA f t u B Q W) (g:Gr W W'):Bh w PA f t u B Q W' :=
 ⟨h.pm.next g,(Below.block g _ (Nat.lt_trans h.lo h.hi)).trans h.rs,(Below.block g _ h.hi).trans h.q,h.lo,Nat.lt_of_lt_of_le h.hi (Below.size g)⟩
theorem Bh.set {w W:World} {PA Q:Array Value} {f t B:Nat} {u:UInt8} (h:Bh w PA f t u B Q W) (i:Nat) (v:Value):Bh w PA f t u B (Q.setIfInBounds i v) (W.setCell ⟨B,i,none⟩ v):=by
 have fs:Fr (fun k _=>k≠B) W (W.setCell ⟨B,i,none⟩ v):=(Fr.refl _ _).setCell _ (fun o _ q=>q rfl);have lo:=h.lo;have hs:(W.setCell ⟨B,i,none⟩ v).heap.size=W.heap.size:=World.size_setCell ..;refine ⟨⟨fs.same _ _ h.pm.pa (by omega),fs.same _ _ h.pm.mv (by omega),by rw [hs];exact h.pm.lt,Below.setCell h.pm.gr (show w.heap.size<=B by omega) _⟩,fs.same _ _ h.rs (by omega),qy h.q,lo,by rw [hs];exact h.hi⟩
theorem Bh.drew {w W:World} {PA Q:Array Value} {f t B:Nat} {u:UInt8} (h:Bh w PA f t u B Q W):Bh w PA f t u B Q W.drew:=⟨⟨h.pm.pa,h.pm.mv,h.pm.lt,h.pm.gr.drew⟩,h.rs,h.q,h.lo,h.hi⟩
theorem Bh.at {w W:World} {PA Q:Array Value} {f t B:Nat} {u:UInt8} (h:Bh w PA f t u B Q W) {k:Nat} {v:Value} (hv:Q[k]?=some v):W.cell? ⟨B,k,none⟩=some v:=by
 rw [qm h.q];exact hv
theorem Bh.op {w W:World} {PA Q:Array Value} {f t B:Nat} {u:UInt8} (h:Bh w PA f t u B Q W) (k:Nat):W.frozen? ⟨B,k,none⟩=false:=xy h.q
theorem plU_lt (u:UInt8):plU u<6:=by unfold plU;split;omega;split;omega;split<;>omega
theorem plU_ix:∀ u∈U5,u≠0->Lib.indexByte [112,110,98,114,113,107] u=((plU u:Nat):Int):=by decide +kernel
theorem placeU_any (u:UInt8) (hu:u∈U5) (h0:u≠0) (w:World):Calls Tryz.prog 118 #[.string ⟨#[112,110,98,114,113,107]⟩,.int .u8 (u.toNat:Int)] w fun e w'=>e=.returned (.int .i64 ((plU u:Nat):Int))/\w'=w:=by
 rw [<-plU_ix u hu h0];exact qx ⟨#[112,110,98,114,113,107]⟩ (by decide +kernel) u w
theorem man_k (k:Nat) (hk:k<6) (b:Bool) (w:World):Calls Tryz.prog 89 #[.int .i64 ((k:Nat):Int),.int .i64 (sdb b)] w fun e w'=>e=.returned (.int .u8 ((manL k b).toNat:Int))/\w'=w:=by
 have:k=0\/k=1\/k=2\/k=3\/k=4\/k=5:=by omega
 rcases this with rfl|rfl|rfl|rfl|rfl|rfl
 ·cases b
  ·show Calls Tryz.prog 89 #[.int .i64 0,.int .i64 (-1)] w _;go_enter Tryz.func89,Tryz.ntmps89;go_wp2;go_ret;exact ⟨rfl,rfl⟩
  ·show Calls Tryz.prog 89 #[.int .i64 0,.int .i64 1] w _;go_enter Tryz.func89,Tryz.ntmps89;go_wp2;go_ret;exact ⟨rfl,rfl⟩
 ·cases b
  ·show Calls Tryz.prog 89 #[.int .i64 1,.int .i64 (-1)] w _;go_enter Tryz.func89,Tryz.ntmps89;go_wp2;go_ret;exact ⟨rfl,rfl⟩
  ·show Calls Tryz.prog 89 #[.int .i64 1,.int .i64 1] w _;go_enter Tryz.func89,Tryz.ntmps89;go_wp2;go_ret;exact ⟨rfl,rfl⟩
 ·cases b
  ·show Calls Tryz.prog 89 #[.int .i64 2,.int .i64 (-1)] w _;go_enter Tryz.func89,Tryz.ntmps89;go_wp2;go_ret;exact ⟨rfl,rfl⟩
  ·show Calls Tryz.prog 89 #[.int .i64 2,.int .i64 1] w _;go_enter Tryz.func89,Tryz.ntmps89;go_wp2;go_ret;exact ⟨rfl,rfl⟩
 ·cases b
  ·show Calls Tryz.prog 89 #[.int .i64 3,.int .i64 (-1)] w _;go_enter Tryz.func89,Tryz.ntmps89;go_wp2;go_ret;exact ⟨rfl,rfl⟩
  ·show Calls Tryz.prog 89 #[.int .i64 3,.int .i64 1] w _;go_enter Tryz.func89,Tryz.ntmps89;go_wp2;go_ret;exact ⟨rfl,rfl⟩
 ·cases b
  ·show Calls Tryz.prog 89 #[.int .i64 4,.int .i64 (-1)] w _;go_enter Tryz.func89,Tryz.ntmps89;go_wp2;go_ret;exact ⟨rfl,rfl⟩
  ·show Calls Tryz.prog 89 #[.int .i64 4,.int .i64 1] w _;go_enter Tryz.func89,Tryz.ntmps89;go_wp2;go_ret;exact ⟨rfl,rfl⟩
 ·cases b
  ·show Calls Tryz.prog 89 #[.int .i64 5,.int .i64 (-1)] w _;go_enter Tryz.func89,Tryz.ntmps89;go_wp2;go_ret;exact ⟨rfl,rfl⟩
  ·show Calls Tryz.prog 89 #[.int .i64 5,.int .i64 1] w _;go_enter Tryz.func89,Tryz.ntmps89;go_wp2;go_ret;exact ⟨rfl,rfl⟩
theorem Row.castle {z:Nat->UInt8} {wh:Bool} {fc fc':Nat->Bool} {b h g:Int} {Q:Array Value} (r:Row z wh fc b h g Q) (e:∀ i,i<4->fc i=fc' i):Row z wh fc' b h g Q :=
 ⟨r.size,r.sq,r.wh,fun i hi=>by rw [<-e i hi];exact r.c i hi,r.b,r.h,r.g⟩
theorem qj6 {z:Nat->UInt8} {wh:Bool} {fc:Nat->Bool} {b h g:Int} {PA:Array Value} (r:Row z wh fc b h g PA) (f t:Nat) (hf:f<64) (ht:t<64) (u:UInt8) (hu:u∈U5) (h0:0<=h) (h1:h<=65535) (g0:0<=g) (g1:g<=65535) (w:World) :
  Calls Tryz.prog 121 #[.agg PA,.agg #[.int .i64 (f:Int),.int .i64 (t:Int),.int .u8 (u.toNat:Int)]] w fun e w'=>∃ Q,e=.returned (.agg Q)/\Row (bz4 z wh fc b f t u) (!wh) (bfc fc f t 4) (bbI z wh f t) (bhI z b f t h) (bgI wh g) Q/\Gr w w':=by
 have hz:=r.size;have hone:=hide (qz r);obtain ⟨x1,x2,x3,x4⟩:=heapThree w (.cells PA 25) (.cells #[.int .i64 (f:Int),.int .i64 (t:Int),.int .u8 (u.toNat:Int)] 171) (.cells Tryz.zeroCells25 25);have hP0:=(Pm.start w PA f t u).next ((Gr.refl _).alloc Tryz.zeroCells25 25);have htu:=hide (fun W=>qqo r W);have hkf:=hide (fun W=>qqr (z f) W);have hpa:=hide (fun W=>passing_any r f t hf ht u W);have hcs:=hide (fun W=>qj3 r f t u W);have hf0:(0:Int)<=(f:Int):=by omega
 have hf1:(f:Int)<64:=by omega
 have ht0:(0:Int)<=(t:Int):=by omega
 have ht1:(t:Int)<64:=by omega
 have hvf:=r.sq f hf;have hvt:=r.sq t ht;have hvw:=r.wh;have hrow:=hide (rowOf hP0.pa);have x3':=hide x3;have x4':=hide x4;clear x1 x2 x3 x4;go_enter Tryz.func121,Tryz.ntmps121
 go_upto_region 2 with (first
  | (go_at_call 90;refine (qa htu _).mono ?_;rintro e w1 ⟨rfl,hg1⟩)
  | (refine ql (by rfl) _ rfl w.heap.size rfl hz (qa hrow) ?_))
 have hP1:=hP0.next hg1;have hlo:w.heap.size+2<w1.heap.size:=Nat.lt_of_lt_of_le (by rw [qa x4'];omega) (Below.size hg1);have hrs1:=hide ((Below.block hg1 (w.heap.size+2) (by rw [qa x4'];omega)).trans (qa x3'));clear hP0 hg1 hrow htu x3' x4';have hrow:=hide (rowOf hP1.pa)
 go_upto_region 3 with (first
  | (refine ql (by rfl) _ rfl w.heap.size rfl hz (qa hrow) ?_)
  | (refine wpList_store_row rfl 25 _ _ rfl w1.heap.size PA rfl rfl 25 Tryz.zeroCells25 (heap_alloc_new _ _) (by rw [hz];exact infoP) (by rw [hz];rfl) (qa hone) ?_))
 show Code.wp _ _ _ _ ((w1.alloc (.cells Tryz.zeroCells25 25)).setRow w1.heap.size PA);have hg3:Gr w1 ((w1.alloc (.cells Tryz.zeroCells25 25)).setRow w1.heap.size PA):=((Gr.refl w1).alloc _ _).setRow _ (Nat.le_refl _) _;have hB3:Bh w PA f t u w1.heap.size PA ((w1.alloc (.cells Tryz.zeroCells25 25)).setRow w1.heap.size PA):=⟨hP1.next hg3,(Below.block hg3 _ hlo).trans (qa hrs1),setRow_heap _ _ _ _ _ _ (heap_alloc_new w1 _),hlo,by rw [size_setRow,World.size_alloc];omega⟩;generalize ((w1.alloc (.cells Tryz.zeroCells25 25)).setRow w1.heap.size PA)=w3 at hB3 ⊢;generalize w1.heap.size=B at hB3 ⊢;clear hP1 hlo hrs1 hrow hg3;obtain ⟨KD,hKD⟩:∃ x,Hid (kdc (z f)=x):=⟨_,hide rfl⟩;rw [qa hKD] at hkf;obtain ⟨PS,hPS⟩:∃ x,Hid (pasB z b f t=x):=⟨_,hide rfl⟩;have hpa:Hid (∀ W,Calls Tryz.prog 195 #[.agg PA,.agg #[.int .i64 (f:Int),.int .i64 (t:Int),.int .u8 (u.toNat:Int)]] W fun e w'=>e=.returned (.bool PS)/\Gr W w'):=hide (fun W=>by rw [<-qa hPS];exact qa hpa W);obtain ⟨TK,hTK⟩:∃ x,Hid ((!decide (z t=46))=x):=⟨_,hide rfl⟩
 have htk:(((z t).toNat:Int) != 46)=TK:=by
  rw [<-qa hTK];by_cases e:z t=46
  ·rw [e];rfl
  ·have:((z t).toNat:Int)≠46:=fun q=>e (UInt8.toNat_inj.1 (by show (z t).toNat=46;omega))
   rw [bne_iff_ne.2 this,decide_eq_false e];rfl
 have hcl:=hide (fun (Q:Array Value) W (h:Bh w PA f t u B Q W)=>h.pm.cells);have hbd:=hide (fun (Q:Array Value) W (h:Bh w PA f t u B Q W)=>(⟨h.pm.at hvf,h.pm.at hvt⟩:_/\_));obtain ⟨m0,m1,m2⟩:=qa hcl _ _ hB3;obtain ⟨cf,ct⟩:=qa hbd _ _ hB3;have hrow:=hide (rowOf hB3.pm.pa)
 go_upto_if 38 with (first
  | (go_at_call 86;refine (qa hkf _).mono ?_;rintro e w' ⟨rfl,hww⟩;have hww':=hww.symm;subst hww';clear hww)
  | (go_at_call 195;refine (qa hpa _).mono ?_;rintro e w5 ⟨rfl,hg5⟩)
  | (refine ql (by rfl) _ rfl w.heap.size rfl hz (qa hrow) ?_))
 have hB5:=hB3.next hg5;clear hB3 hg5 m0 m1 m2 cf ct hrow hkf hpa htk hone;obtain ⟨n1,hn1⟩:∃ n,Hid (n=f/8*8+t%8):=⟨_,hide rfl⟩;go_cut [8] from 39 (fun s8 wx=>∃ Q,s8=.bool (TK||PS)/\Bh w PA f t u B Q wx/\Row (bz1 z b f t) wh fc b h g Q)
 case first =>
  cases PS
  ·have hz1:Hid (bz1 z b f t=z):=hide (by unfold bz1;rw [qa hPS];rfl);clear hcs hcl hbd hPS;go_wp2_with fail;go_meet
   case rel=>exact ⟨PA,by simp,hB5,by rw [qa hz1];exact r⟩
  ·have hz1:Hid (bz1 z b f t=upd z n1 46):=hide (by unfold bz1;rw [qa hPS,qa hn1];rfl);have hn64:n1<64:=by have:=qa hn1;omega
   have e1:IntKind.i64.wrap ((f:Int)/8*8)=(f:Int)/8*8:=by rw [IntKind.wrap_i64];omega
   have e2:IntKind.i64.wrap ((f:Int)/8*8+(t:Int)%8)=(n1:Int):=by rw [IntKind.wrap_i64];have:=qa hn1;omega
   have e3:(0:Int)<=(n1:Int):=by omega
   have e4:(n1:Int)<64:=by omega
   obtain ⟨m0,m1,m2⟩:=qa hcl _ _ hB5;have cn:=hB5.at (r.sq n1 hn64);have on:=hB5.op n1;have hfin:=hide (hB5.set n1 (.int .u8 46));have hrw:=hide (r.setSq n1 hn64 46);clear hcs hcl hbd hPS hB5;go_wp2_with fail;go_meet
   case rel=>exact ⟨PA.setIfInBounds n1 (.int .u8 46),by simp,qa hfin,by rw [qa hz1];exact qa hrw⟩
 case rest =>
  obtain ⟨Q1,rfl,hB6,hR6⟩:=hcut;clear hB5 hn1 r;obtain ⟨m0,m1,m2⟩:=qa hcl _ _ hB6;obtain ⟨cf,ct⟩:=qa hbd _ _ hB6;have qt:=hB6.at (hR6.sq t ht);have ot:=hB6.op t;have hin:Hid (∀ w',(∃ Q,Bh w PA f t u B Q w')->(∃ Q,Bh w PA f t u B Q w')/\w'.cell? ⟨w.heap.size+1,0,none⟩=some (.int .i64 (f:Int))/\w'.cell? ⟨w.heap.size+1,1,none⟩=some (.int .i64 (t:Int))/\w'.cell? ⟨w.heap.size,f,none⟩=some (.int .u8 ((z f).toNat:Int))):=hide (fun w' h=>⟨h,by obtain ⟨Q,h⟩:=h;exact ⟨h.pm.cells.1,h.pm.cells.2.1,h.pm.at hvf⟩⟩);have qt':wc.drew.cell? ⟨B,t,none⟩=some (.int .u8 ((bz1 z b f t t).toNat:Int)):=qt;have ot':wc.drew.frozen? ⟨B,t,none⟩=false:=ot;have hBd:=hB6.drew;clear qt ot m0 m1 m2 cf ct;go_upto_region 9 with fail;go_region_held3 (fun w'=>(∃ Q,Bh w PA f t u B Q w')/\w'.cell? ⟨w.heap.size+1,0,none⟩=some (.int .i64 (f:Int))/\w'.cell? ⟨w.heap.size+1,1,none⟩=some (.int .i64 (t:Int))/\w'.cell? ⟨w.heap.size,f,none⟩=some (.int .u8 ((z f).toNat:Int))) (first|exact qa hin _ ⟨_,hBd⟩|exact qa hin _ ⟨_,Bh.set hBd _ _⟩|exact qa hin _ (And.left (by assumption))) (fail);show Exit.then _ _ _ _ (wc.setCell ⟨B,t,none⟩ (.int .u8 ((z f).toNat:Int))).drew;have hB9:=(hB6.set t (.int .u8 ((z f).toNat:Int))).drew;have hR9:Hid (Row (upd (bz1 z b f t) t (z f)) wh fc b h g (Q1.setIfInBounds t (.int .u8 ((z f).toNat:Int)))):=hide (hR6.setSq t ht (z f));rename_i hHx;clear hHx hB6 hR6 hBd qt' ot' hin;generalize (wc.setCell ⟨B,t,none⟩ (.int .u8 ((z f).toNat:Int))).drew=w9 at hB9 ⊢;generalize Q1.setIfInBounds t (.int .u8 ((z f).toNat:Int))=Q9 at hB9 hR9;obtain ⟨m0,m1,m2⟩:=qa hcl _ _ hB9;have qf:=hB9.at ((qa hR9).sq f hf);have of:=hB9.op f;go_upto_region 11 with fail;show Code.wp _ _ _ _ (w9.setCell ⟨B,f,none⟩ (.int .u8 46));have hB10:=hB9.set f (.int .u8 46);have hR10:Hid (Row (bz2 z b f t) wh fc b h g (Q9.setIfInBounds f (.int .u8 46))):=hide ((qa hR9).setSq f hf 46);clear qf of m0 m1 m2 hB9 hR9;generalize w9.setCell ⟨B,f,none⟩ (.int .u8 46)=w10 at hB10 ⊢;generalize Q9.setIfInBounds f (.int .u8 46)=Q10 at hB10 hR10;obtain ⟨m0,m1,m2⟩:=qa hcl _ _ hB10;obtain ⟨NU,hNU⟩:∃ x,Hid (decide (u≠0)=x):=⟨_,hide rfl⟩
  have hnu:((u.toNat:Int) != 0)=NU:=by
   rw [<-qa hNU];by_cases e:u=0
   ·subst e;rfl
   ·have:(u.toNat:Int)≠0:=fun h=>e (UInt8.toNat_inj.1 (by simpa using h))
    rw [bne_iff_ne.2 this,decide_eq_true e]
  go_upto_if 64 with fail;clear hnu;go_cut [7] from 65 (fun s7 wx=>∃ Q,s7=.int .i64 KD/\Bh w PA f t u B Q wx/\Row (bz3 z wh b f t u) wh fc b h g Q)
  case first =>
   clear hcs;cases NU
   ·have hu0:u=0:=by simpa using qa hNU
    have hbz:Hid (bz3 z wh b f t u=bz2 z b f t):=hide (by unfold bz3;rw [if_pos hu0]);clear hu0;go_wp2_with fail;go_meet
    case rel=>exact ⟨Q10,rfl,hB10,by rw [qa hbz];exact qa hR10⟩
   ·have hu0:u≠0:=by simpa using qa hNU
    have hplc:=hide (fun W=>placeU_any u hu hu0 W);have hman:=hide (fun W=>man_k (plU u) (plU_lt u) wh W);have hrw:=hide ((qa hR10).setSq t ht (manL (plU u) wh));have hbz:Hid (bz3 z wh b f t u=upd (bz2 z b f t) t (manL (plU u) wh)):=hide (by unfold bz3;rw [if_neg hu0]);have hin:Hid (∀ w',(∃ Q,Bh w PA f t u B Q w')->(∃ Q,Bh w PA f t u B Q w')/\w'.cell? ⟨w.heap.size+1,1,none⟩=some (.int .i64 (t:Int))/\w'.cell? ⟨w.heap.size+1,2,none⟩=some (.int .u8 (u.toNat:Int))):=hide (fun w' h=>⟨h,by obtain ⟨Q,h⟩:=h;exact ⟨h.pm.cells.2.1,h.pm.cells.2.2⟩⟩);have qt':w10.drew.cell? ⟨B,t,none⟩=some (.int .u8 ((bz2 z b f t t).toNat:Int)):=hB10.at ((qa hR10).sq t ht);have ot':w10.drew.frozen? ⟨B,t,none⟩=false:=hB10.op t;have hBd:=hB10.drew;have hfin:=hide (hB10.set t (.int .u8 ((manL (plU u) wh).toNat:Int))).drew;clear m0 m1 m2 hcl hbd hu0;generalize manL (plU u) wh=ML at hman hrw hbz hfin;generalize ((plU u:Nat):Int)=PU at hplc hman;go_upto_region 12 with fail;go_region_held3 (fun w'=>(∃ Q,Bh w PA f t u B Q w')/\w'.cell? ⟨w.heap.size+1,1,none⟩=some (.int .i64 (t:Int))/\w'.cell? ⟨w.heap.size+1,2,none⟩=some (.int .u8 (u.toNat:Int))) (first|exact qa hin _ ⟨_,hBd⟩|exact qa hin _ ⟨_,Bh.set hBd _ _⟩|exact qa hin _ (And.left (by assumption))) (first|(go_at_call 118;refine (qa hplc _).mono ?_;rintro e w6 ⟨rfl,rfl⟩)|(go_at_call 89;refine (qa hman _).mono ?_;rintro e w6 ⟨rfl,rfl⟩));show Exit.then _ _ _ _ (w10.setCell ⟨B,t,none⟩ (.int .u8 (ML.toNat:Int))).drew;go_wp2_with fail;go_meet
    case rel=>exact ⟨_,rfl,qa hfin,by rw [qa hbz];exact qa hrw⟩
  case rest =>
   obtain ⟨Q12,rfl,hB12,hR12⟩:=hcut;clear hB10 hR10 hNU m0 m1 m2;obtain ⟨C,hCc⟩:∃ C,Hid (casR wh fc f t u=C):=⟨_,hide rfl⟩;rw [qa hCc] at hcs;have hcc:=hide (qvc wh fc f t u);rw [qa hCc] at hcc;obtain ⟨m0,m1,m2⟩:=qa hcl _ _ hB12;have hrow:=hide (rowOf hB12.pm.pa)
   go_upto_region 14 with (first
    | (go_at_call 196;refine (qa hcs _).mono ?_;rintro e w13 ⟨rfl,hg13⟩)
    | (refine ql (by rfl) _ rfl w.heap.size rfl hz (qa hrow) ?_))
   have hB13:=hB12.next hg13;clear hB12 hg13 m0 m1 m2 hrow hcs;obtain ⟨KC,hKC⟩:∃ x,Hid ((decide (KD=5)&&decide (0<=C))=x):=⟨_,hide rfl⟩;go_cut [82] from 77 (fun s82 wx=>s82=.bool KC/\wx=w13)
   case first =>
    clear hcl hbd;by_cases k5:KD=5
    ·have hk6:(KD==5)=true:=beq_iff_eq.2 k5;by_cases c0:0<=C
     ·have hx:Hid (KC=true):=hide (by rw [<-qa hKC,decide_eq_true k5,decide_eq_true c0];rfl);clear k5;go_wp2_with fail;go_meet
      case rel=>exact ⟨by rw [qa hx],rfl⟩
     ·have hx:Hid (KC=false):=hide (by rw [<-qa hKC,decide_eq_true k5,decide_eq_false c0];rfl);have c1:C<0:=by omega
      clear k5;go_wp2_with fail;go_meet
      case rel=>exact ⟨by rw [qa hx],rfl⟩
    ·have hk6:(KD==5)=false:=by rw [beq_eq_false_iff_ne];exact k5
     have hx:Hid (KC=false):=hide (by rw [<-qa hKC,decide_eq_false k5];rfl);clear k5;go_wp2_with fail;go_meet
     case rel=>exact ⟨by rw [qa hx],rfl⟩
   case rest =>
    obtain ⟨rfl,rfl⟩:=hcut;go_upto_if 82 with fail;go_cut [7] from 83 (fun s7 wx=>∃ Q,s7=.int .i64 KD/\Bh w PA f t u B Q wx/\Row (bz4 z wh fc b f t u) wh fc b h g Q)
    case first =>
     cases KC
     ·have hbz:Hid (bz4 z wh fc b f t u=bz3 z wh b f t u):=hide (by
       have:kcB z wh fc f t u=false:=by unfold kcB;rw [qa hKD,qa hCc];exact qa hKC
       unfold bz4;rw [this];rfl)
      clear hcl hbd;go_wp2_with fail;go_meet
      case rel=>exact ⟨Q12,rfl,hB13,by rw [qa hbz];exact hR12⟩
     ·have hkc:kcB z wh fc f t u=true:=by unfold kcB;rw [qa hKD,qa hCc];exact qa hKC
      have hc0:0<=C:=by
       have:=qa hKC;rw [Bool.and_eq_true,decide_eq_true_eq,decide_eq_true_eq] at this;exact this.2
      obtain ⟨ci,hci,eC⟩:∃ i:Nat,i<4/\C=(i:Int):=by
       rcases qa hcc with e|e
       ·omega
       ·exact e
      obtain ⟨rr,hrr,er⟩:∃ n:Nat,n<64/\homeR ci=(n:Int):=⟨hR ci,(za ci hci).2.2.1,(home_hK ci hci).2.2⟩;obtain ⟨mm,hmm⟩:∃ n,Hid (n=(f+t)/2):=⟨_,hide rfl⟩;have hmm64:mm<64:=by have:=qa hmm;omega
      have hbz:Hid (bz4 z wh fc b f t u=upd (upd (bz3 z wh b f t u) rr 46) mm (manL 3 wh)):=hide (by
       unfold bz4;rw [hkc,if_pos rfl,qa hCc,eC,Int.toNat_natCast,er,Int.toNat_natCast,qa hmm])
      have hho:Hid (∀ W,Calls Tryz.prog 88 #[.int .i64 C] W fun e w'=>e=.returned (.tuple #[.int .i64 (homeK ci),.int .i64 (homeT ci),.int .i64 (rr:Int),.int .i64 (sdb (decide (ci<2)))])/\w'=W):=hide (fun W=>by rw [eC,<-er];exact zi ci hci W);have hman:=hide (fun W=>man_3 wh W);have r0:(0:Int)<=(rr:Int):=by omega
      have r1:(rr:Int)<64:=by omega
      have n0:(0:Int)<=(mm:Int):=by omega
      have n1':(mm:Int)<64:=by omega
      have e1:IntKind.i64.wrap ((f:Int)+(t:Int))=(f:Int)+(t:Int):=by rw [IntKind.wrap_i64];omega
      have e2:((f:Int)+(t:Int))/2=(mm:Int):=by have:=qa hmm;omega
      have e3:((f:Int)+(t:Int)).tdiv 2=(mm:Int):=by rw [Int.tdiv_eq_ediv_of_nonneg (by omega)];exact e2
      have e4:IntKind.i64.wrap (mm:Int)=(mm:Int):=by rw [IntKind.wrap_i64];omega
      have qr:=hB13.at (hR12.sq rr hrr);have or:=hB13.op rr;clear hkc hc0 eC er hKC hcc;go_upto_region 17 with (go_at_call 88;refine (qa hho _).mono ?_;rintro e w' ⟨rfl,hww⟩;have hww':=hww.symm;subst hww';clear hww);show Code.wp _ _ _ _ (wc.setCell ⟨B,rr,none⟩ (.int .u8 46));have hB16:=hB13.set rr (.int .u8 46);have hR16:Hid (Row (upd (bz3 z wh b f t u) rr 46) wh fc b h g (Q12.setIfInBounds rr (.int .u8 46))):=hide (hR12.setSq rr hrr 46);clear hB13 hR12 qr or hho;generalize wc.setCell ⟨B,rr,none⟩ (.int .u8 46)=w16 at hB16 ⊢;generalize Q12.setIfInBounds rr (.int .u8 46)=Q16 at hB16 hR16;have hrw:=hide ((qa hR16).setSq mm hmm64 (manL 3 wh));have hin:Hid (∀ w',(∃ Q,Bh w PA f t u B Q w')->(∃ Q,Bh w PA f t u B Q w')/\w'.cell? ⟨w.heap.size+1,0,none⟩=some (.int .i64 (f:Int))/\w'.cell? ⟨w.heap.size+1,1,none⟩=some (.int .i64 (t:Int))):=hide (fun w' h=>⟨h,by obtain ⟨Q,h⟩:=h;exact ⟨h.pm.cells.1,h.pm.cells.2.1⟩⟩);obtain ⟨ov,hov⟩:∃ v,Q16[mm]?=some v:=⟨_,(qa hR16).sq mm hmm64⟩;have qt':w16.drew.cell? ⟨B,mm,none⟩=some ov:=hB16.at hov;have ot':w16.drew.frozen? ⟨B,mm,none⟩=false:=hB16.op mm;have hBd:=hB16.drew;have hfin:=hide (hB16.set mm (.int .u8 ((manL 3 wh).toNat:Int))).drew;clear hcl hbd;generalize manL 3 wh=ML at hman hrw hbz hfin;go_region_held3 (fun w'=>(∃ Q,Bh w PA f t u B Q w')/\w'.cell? ⟨w.heap.size+1,0,none⟩=some (.int .i64 (f:Int))/\w'.cell? ⟨w.heap.size+1,1,none⟩=some (.int .i64 (t:Int))) (first|exact qa hin _ ⟨_,hBd⟩|exact qa hin _ ⟨_,Bh.set hBd _ _⟩|exact qa hin _ (And.left (by assumption))) (first|(go_at_call 89;refine (qa hman _).mono ?_;rintro e w6 ⟨rfl,rfl⟩));show Exit.then _ _ _ _ (w16.setCell ⟨B,mm,none⟩ (.int .u8 (ML.toNat:Int))).drew;go_wp2_with fail;go_meet
      case rel=>exact ⟨_,rfl,qa hfin,by rw [qa hbz];exact qa hrw⟩
    case rest =>
     obtain ⟨Q17,rfl,hB17,hR17⟩:=hcut;clear hB13 hR12 hKC hcc;have hR17':=hide (hR17.castle (fc':=bfc fc f t 0) (fun i _=>by unfold bfc;simp));obtain ⟨Z4,hZ4⟩:∃ x,Hid (bz4 z wh fc b f t u=x):=⟨_,hide rfl⟩;rw [qa hZ4] at hR17';clear hR17;go_wp2_with fail;go_loopg [15] 4 (fun gm k wr=>∃ (d:Nat) (Q:Array Value),d+gm=4/\k=.int .i64 (d:Int)/\Bh w PA f t u B Q wr/\Row Z4 wh (bfc fc f t d) b h g Q)
     case atStart=>exact ⟨0,Q17,by omega,rfl,hB17,qa hR17'⟩
     case round =>
      clear hB17 hR17';obtain ⟨d,Qd,d1,rfl,hBd,hRd⟩:=hrel;by_cases hd:d<4
      ·have hho:=hide (fun W=>zi d hd W);obtain ⟨m0,m1,m2⟩:=qa hcl _ _ hBd;obtain ⟨TB,hTB⟩:∃ x,Hid (toB f t d=x):=⟨_,hide rfl⟩;go_upto_region 22 with (go_at_call 88;refine (qa hho _).mono ?_;rintro e w' ⟨rfl,hww⟩;have hww':=hww.symm;subst hww';clear hww);go_cut [135] from 103 to 138 (fun s135 wx=>s135=.bool TB/\wx=wr)
       case first =>
        have hto:Hid (TB=(((f:Int)==homeK d)||((f:Int)==homeR d)||((t:Int)==homeK d)||((t:Int)==homeR d))):=hide (by
         rw [<-qa hTB];unfold toB
         have e:∀ a c:Int,decide (a=c)=(a==c):=fun a c=>by
          by_cases q:a=c
          ·rw [decide_eq_true q,beq_iff_eq.2 q]
          ·rw [decide_eq_false q,beq_eq_false_iff_ne.2 q]
         rw [e,e,e,e])
        clear hcl hbd hTB hho;obtain ⟨y1,e1⟩:∃ x,((f:Int)==homeK d)=x:=⟨_,rfl⟩;obtain ⟨y2,e2⟩:∃ x,((f:Int)==homeR d)=x:=⟨_,rfl⟩;obtain ⟨y3,e3⟩:∃ x,((t:Int)==homeK d)=x:=⟨_,rfl⟩;obtain ⟨y4,e4⟩:∃ x,((t:Int)==homeR d)=x:=⟨_,rfl⟩;rw [e1,e2,e3,e4] at hto;cases y1
        ·cases y2
         ·cases y3
          ·cases y4
           ·go_wp2_with fail;go_meet
            case rel=>exact ⟨by rw [qa hto];rfl,rfl⟩
           ·go_wp2_with fail;go_meet
            case rel=>exact ⟨by rw [qa hto];rfl,rfl⟩
          ·go_wp2_with fail;go_meet
           case rel=>exact ⟨by rw [qa hto];rfl,rfl⟩
         ·go_wp2_with fail;go_meet
          case rel=>exact ⟨by rw [qa hto];rfl,rfl⟩
        ·go_wp2_with fail;go_meet
         case rel=>exact ⟨by rw [qa hto];rfl,rfl⟩
       case rest =>
        obtain ⟨rfl,rfl⟩:=hcut;clear hho;go_upto_if 135 with fail;cases TB
        ·have hR':=hide (hRd.castle (fc':=bfc fc f t (d+1)) (fun i _=>by
          unfold bfc;by_cases e:i=d
          ·subst e;rw [qa hTB];simp
          ·have:decide (i<d+1)=decide (i<d):=by
            by_cases q:i<d
            ·rw [decide_eq_true q,decide_eq_true (by omega)]
            ·rw [decide_eq_false q,decide_eq_false (by omega)]
           rw [this]))
         clear hRd hTB;go_wp2_with fail;go_roundg (gk-1)
         case measure=>omega
         case rel=>exact ⟨d+1,Qd,by omega,by go_num,hBd,qa hR'⟩
        ·have hR':=hide ((hRd.setC d hd false).castle (fc':=bfc fc f t (d+1)) (fun i _=>by
          unfold bfc;by_cases e:i=d
          ·subst e;rw [qa hTB];simp
          ·have:decide (i<d+1)=decide (i<d):=by
            by_cases q:i<d
            ·rw [decide_eq_true q,decide_eq_true (by omega)]
            ·rw [decide_eq_false q,decide_eq_false (by omega)]
           rw [this,if_neg e]))
         have qc:=hBd.at (hRd.c d hd);have oc:=hBd.op (65+d);have hB':=hide (hBd.set (65+d) (.bool false));have dd0:(0:Int)<=(d:Int):=by omega
         have dd1:(d:Int)<4:=by omega
         clear hRd hTB hBd;go_wp2_with fail;go_roundg (gk-1)
         case measure=>omega
         case rel=>exact ⟨d+1,Qd.setIfInBounds (65+d) (.bool false),by omega,by go_num,qa hB',qa hR'⟩
      ·have ed:d=4:=by omega
       subst ed;have qb:=hBd.at hRd.b;have ob:=hBd.op 69;go_upto_region 25 with fail;show Code.wp _ _ _ _ (wr.setCell ⟨B,69,none⟩ (.int .i64 (-1)));have hB24:=hBd.set 69 (.int .i64 (-1));have hR24:Hid (Row Z4 wh (bfc fc f t 4) (-1) h g (Qd.setIfInBounds 69 (.int .i64 (-1)))):=hide (hRd.setB (-1));clear hBd hRd qb ob;generalize wr.setCell ⟨B,69,none⟩ (.int .i64 (-1))=w24 at hB24 ⊢;generalize Qd.setIfInBounds 69 (.int .i64 (-1))=Q24 at hB24 hR24;obtain ⟨TW,hTW⟩:∃ x,Hid (twoB z f t=x):=⟨_,hide rfl⟩;obtain ⟨m0,m1,m2⟩:=qa hcl _ _ hB24;go_cut [152] from 139 (fun s152 wx=>s152=.bool TW/\wx=w24)
       case first =>
        by_cases k0:KD=0
        ·have hk6:(KD==0)=true:=beq_iff_eq.2 k0;obtain ⟨dd,hdd⟩:∃ x,Hid ((t:Int)/8-(f:Int)/8=x):=⟨_,hide rfl⟩;have hwr:IntKind.i64.wrap ((t:Int)/8-(f:Int)/8)=dd:=by rw [IntKind.wrap_i64];have:=qa hdd;omega
         have habs:=hide (fun W=>xi dd (by have:=qa hdd;omega) (by have:=qa hdd;omega) W)
         have hx:Hid (TW=(ab dd==2)):=hide (by
          rw [<-qa hTW];unfold twoB;have e:upR f t=dd:=by rw [<-qa hdd];unfold upR;omega
          rw [qa hKD,decide_eq_true k0,e,Bool.true_and];unfold ab;by_cases q:dd<0
          ·rw [if_pos q];by_cases q2:dd=-2
           ·rw [q2];rfl
           ·rw [decide_eq_false (by omega)];symm;rw [beq_eq_false_iff_ne];omega
          ·rw [if_neg q];by_cases q2:dd=2
           ·rw [q2];rfl
           ·rw [decide_eq_false (by omega)];symm;rw [beq_eq_false_iff_ne];omega)
         clear hcl hbd k0;go_wp2_with (go_at_call 197;refine (qa habs _).mono ?_;rintro e w' ⟨rfl,hww⟩;have hww':=hww.symm;subst hww';clear hww);go_meet
         case rel=>exact ⟨by rw [qa hx],rfl⟩
        ·have hk6:(KD==0)=false:=by rw [beq_eq_false_iff_ne];exact k0
         have hx:Hid (TW=false):=hide (by rw [<-qa hTW];unfold twoB;rw [qa hKD,decide_eq_false k0];rfl);clear hcl hbd k0;go_wp2_with fail;go_meet
         case rel=>exact ⟨by rw [qa hx],rfl⟩
       case rest =>
        obtain ⟨rfl,rfl⟩:=hcut;go_upto_if 152 with fail;go_cut [7] from 153 (fun s7 wx=>∃ Q,s7=.int .i64 KD/\Bh w PA f t u B Q wx/\Row Z4 wh (bfc fc f t 4) (bbI z wh f t) h g Q)
        case first =>
         cases TW
         ·have hx:Hid (bbI z wh f t=-1):=hide (by unfold bbI;rw [qa hTW];rfl);clear hcl hbd;go_wp2_with fail;go_meet
          case rel=>exact ⟨Q24,rfl,hB24,by rw [qa hx];exact qa hR24⟩
         ·have hx:Hid (bbI z wh f t=(f:Int)+8*sdb wh):=hide (by unfold bbI;rw [qa hTW];rfl);obtain ⟨sv,hsv⟩:∃ x,Hid ((f:Int)+8*sdb wh=x):=⟨_,hide rfl⟩;have hs1:-1<=sdb wh/\sdb wh<=1:=by cases wh<;>decide
          have e1:IntKind.i64.wrap (8*sdb wh)=8*sdb wh:=by rw [IntKind.wrap_i64];omega
          have e2:IntKind.i64.wrap ((f:Int)+8*sdb wh)=sv:=by rw [IntKind.wrap_i64];have:=qa hsv;omega
          rw [qa hsv] at hx;have qb:=hB24.at (qa hR24).b;have ob:=hB24.op 69;have hB':=hide (hB24.set 69 (.int .i64 sv));have hR':=hide ((qa hR24).setB sv);clear hcl hbd hB24 hR24;go_wp2_with fail;go_meet
          case rel=>exact ⟨_,rfl,qa hB',by rw [qa hx];exact qa hR'⟩
        case rest =>
         obtain ⟨Q26,rfl,hB26,hR26⟩:=hcut;clear hB24 hR24 hTW m0 m1 m2;obtain ⟨bb,hbb⟩:∃ x,Hid (bbI z wh f t=x):=⟨_,hide rfl⟩;rw [qa hbb] at hR26;have qh:=hB26.at hR26.h;obtain ⟨HL,hHL⟩:∃ x,Hid (decide (h<65535)=x):=⟨_,hide rfl⟩;have hhl:decide (h<65535)=HL:=qa hHL;go_upto_if 161 with fail;clear hhl;obtain ⟨hh,hhh⟩:∃ x,Hid ((if h<65535 then h+1 else h)=x):=⟨_,hide rfl⟩;go_cut [7] from 162 (fun s7 wx=>∃ Q,s7=.int .i64 KD/\Bh w PA f t u B Q wx/\Row Z4 wh (bfc fc f t 4) bb hh g Q)
         case first =>
          cases HL
          ·have hx:Hid (hh=h):=hide (by rw [<-qa hhh,if_neg (of_decide_eq_false (qa hHL))]);clear hcl hbd;go_wp2_with fail;go_meet
           case rel=>exact ⟨Q26,rfl,hB26,by rw [qa hx];exact hR26⟩
          ·have hx:Hid (hh=h+1):=hide (by rw [<-qa hhh,if_pos (of_decide_eq_true (qa hHL))]);have e1:IntKind.i64.wrap (h+1)=hh:=by rw [IntKind.wrap_i64];have:=qa hx;omega
           have oh:=hB26.op 70;have hB':=hide (hB26.set 70 (.int .i64 hh));have hR':=hide (hR26.setH hh);clear hcl hbd hB26 hR26;go_wp2_with fail;go_meet
           case rel=>exact ⟨_,rfl,qa hB',qa hR'⟩
         case rest =>
          obtain ⟨Q28,rfl,hB28,hR28⟩:=hcut;clear hB26 hR26 qh hHL;obtain ⟨ZH,hZH⟩:∃ x,Hid (zeroH z b f t=x):=⟨_,hide rfl⟩;have hzz:Hid (ZH=(decide (KD=0)||(TK||PS))):=hide (by rw [<-qa hZH];unfold zeroH;rw [qa hKD,qa hTK,qa hPS]);obtain ⟨TP,hTP⟩:∃ x,Hid ((TK||PS)=x):=⟨_,hide rfl⟩;rw [qa hTP] at hzz ⊢;go_upto_region 29 with fail;go_cut [170] from 166 (fun s170 wx=>s170=.bool ZH/\wx=wc)
          case first =>
           clear hcl hbd;by_cases k0:KD=0
           ·have hk6:(KD==0)=true:=beq_iff_eq.2 k0;have hx:Hid (ZH=true):=hide (by rw [qa hzz,decide_eq_true k0];rfl);clear k0;go_wp2_with fail;go_meet
            case rel=>exact ⟨by rw [qa hx],rfl⟩
           ·have hk6:(KD==0)=false:=by rw [beq_eq_false_iff_ne];exact k0
            have hx:Hid (ZH=TP):=hide (by rw [qa hzz,decide_eq_false k0];rfl);clear k0;go_wp2_with fail;go_meet
            case rel=>exact ⟨by rw [qa hx],rfl⟩
          case rest =>
           obtain ⟨rfl,hww⟩:=hcut;subst hww;go_upto_if 170 with fail;obtain ⟨bh,hbh⟩:∃ x,Hid (bhI z b f t h=x):=⟨_,hide rfl⟩;go_cut [7] from 171 (fun s7 wx=>∃ Q,s7=.int .i64 KD/\Bh w PA f t u B Q wx/\Row Z4 wh (bfc fc f t 4) bb bh g Q)
           case first =>
            cases ZH
            ·have hx:Hid (bh=hh):=hide (by rw [<-qa hbh];unfold bhI;rw [qa hZH,<-qa hhh];rfl);clear hcl hbd;go_wp2_with fail;go_meet
             case rel=>exact ⟨Q28,rfl,hB28,by rw [qa hx];exact hR28⟩
            ·have hx:Hid (bh=0):=hide (by rw [<-qa hbh];unfold bhI;rw [qa hZH];rfl);have qh:=hB28.at hR28.h;have oh:=hB28.op 70;have hB':=hide (hB28.set 70 (.int .i64 0));have hR':=hide (hR28.setH 0);clear hcl hbd hB28 hR28;go_wp2_with fail;go_meet
             case rel=>exact ⟨_,rfl,qa hB',by rw [qa hx];exact qa hR'⟩
           case rest =>
            obtain ⟨Q30,rfl,hB30,hR30⟩:=hcut;clear hB28 hR28 hzz hTP hhh;obtain ⟨GF,hGF⟩:∃ x,Hid ((!wh&&decide (g<65535))=x):=⟨_,hide rfl⟩;have qg:=hB30.at hR30.g;obtain ⟨SD,hSD⟩:∃ x,Hid (sdb wh=x):=⟨_,hide rfl⟩;rw [qa hSD];go_upto_region 31 with fail;go_cut [178] from 172 (fun s178 wx=>s178=.bool GF/\wx=wc)
            case first =>
             clear hcl hbd;cases wh
             ·have hs1:SD<0:=by rw [<-qa hSD];decide
              have hx:Hid (GF=decide (g<65535)):=hide (qa hGF).symm;go_wp2_with fail;go_meet
              case rel=>exact ⟨by rw [qa hx],rfl⟩
             ·have hs1:¬ SD<0:=by rw [<-qa hSD];decide
              have hx:Hid (GF=false):=hide (qa hGF).symm;go_wp2_with fail;go_meet
              case rel=>exact ⟨by rw [qa hx],rfl⟩
            case rest =>
             obtain ⟨rfl,hww⟩:=hcut;subst hww;go_upto_if 178 with fail;obtain ⟨gg,hgg⟩:∃ x,Hid (bgI wh g=x):=⟨_,hide rfl⟩;go_cut [7] from 179 (fun s7 wx=>∃ Q,s7=.int .i64 KD/\Bh w PA f t u B Q wx/\Row Z4 wh (bfc fc f t 4) bb bh gg Q)
             case first =>
              cases GF
              ·have hx:Hid (gg=g):=hide (by rw [<-qa hgg];unfold bgI;rw [qa hGF];rfl);clear hcl hbd;go_wp2_with fail;go_meet
               case rel=>exact ⟨Q30,rfl,hB30,by rw [qa hx];exact hR30⟩
              ·have hx:Hid (gg=g+1):=hide (by rw [<-qa hgg];unfold bgI;rw [qa hGF];rfl);have e1:IntKind.i64.wrap (g+1)=gg:=by rw [IntKind.wrap_i64];have:=qa hx;omega
               have og:=hB30.op 71;have hB':=hide (hB30.set 71 (.int .i64 gg));have hR':=hide (hR30.setG gg);clear hcl hbd hB30 hR30;go_wp2_with fail;go_meet
               case rel=>exact ⟨_,rfl,qa hB',qa hR'⟩
             case rest =>
              obtain ⟨Q32,rfl,hB32,hR32⟩:=hcut;clear hB30 hR30 hGF qg hcl hbd;have cw:=hB32.pm.at hvw;have qw:=hB32.at hR32.wh;have ow:=hB32.op 64;go_upto_region 34 with fail;show Code.wp _ _ _ _ (wc.setCell ⟨B,64,none⟩ (.bool (!wh)));have hB33:=hB32.set 64 (.bool (!wh));have hR33:Row Z4 (!wh) (bfc fc f t 4) bb bh gg (Q32.setIfInBounds 64 (.bool (!wh))):=hR32.setWh (!wh);clear hB32 hR32 cw qw ow;generalize wc.setCell ⟨B,64,none⟩ (.bool (!wh))=w33 at hB33 ⊢;generalize Q32.setIfInBounds 64 (.bool (!wh))=Q33 at hB33 hR33;have hqz:=hR33.size;have hq1:=qz hR33;have hrow:=hide (rowOf hB33.q);have hrs:Hid (w33.heap[w.heap.size+1+1]?=some (.cells Tryz.zeroCells25 25)):=hide hB33.rs
              go_wp2_with (first
               | (refine ql (by rfl) _ rfl B rfl hqz (qa hrow) ?_)
               | (refine wpList_store_row rfl 25 _ _ rfl (w.heap.size+1+1) Q33 rfl rfl 25 Tryz.zeroCells25 (qa hrs) (by rw [hqz];exact infoP) (by rw [hqz];rfl) hq1 ?_))
              refine bodyPost_ret (v:=.agg Q33) (results_cell_row Tryz.results121 _ _ (w.heap.size+1+1) 25 _ (0,0) _ rfl (setRow_heap _ _ _ _ _ _ (qa hrs)) Tryz.underlying25 rfl (by rw [hqz];exact infoP)) rfl ⟨Q33,rfl,?_,hB33.pm.gr.setRow _ (by omega) _⟩;rw [qa hZ4,qa hbb,qa hbh,qa hgg];exact hR33
end Go.Proofs.YtnfakamfmkhlbaaGreatDoor.C
