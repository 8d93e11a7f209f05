import Derived.Test.YtnfakamfmkhlbabGreatDoorUm35
import Derived.Test.YtnfakamfmkhlbabGreatDoorUm23
import Derived.Stop.RegionWithIn
import Derived.Test.YtnfakamfmkhlbabGreatDoorProg
import Derived.Conc.MuLib
import Derived.KernelRfl
import Derived.Conc.MuLone
import Derived.Test.YtnfakamfmkhlbabGreatDoorUm14
import Derived.Test.YtnfakamfmkhlbabGreatDoorShu
import Derived.Test.YtnfakamfmkhlbabGreatDoorUm1
import Derived.OrdersHeld
import Derived.OrdersIn
import Derived.Deep.RegionHeld3
import Derived.RangeFuncCalls
import Derived.RangeFuncKeeps
import Derived.Test.YtnfakamfmkhlbabGreatDoorKz2
import Derived.Test.YtnfakamfmkhlbabGreatDoorKz3
set_option maxRecDepth 100000
set_option maxHeartbeats 4000000
set_option linter.unusedSimpArgs false
namespace Go.Proofs.YtnfakamfmkhlbabGreatDoor.C
open Go.ChangeShapes Go.WideShapes Go.ChangeAt Go.RowKit Go.Shelf Go.Proofs.YtnfakamfmkhlbabGreatDoor.P
section
attribute [local go_sem] qd qe Oper.semAt_some
theorem GK:∀c:UInt8,vG c=(decide (vE c=1)||decide (vE c=2)):=vg (by decide +kernel)
def fO(c:UInt8):Bool:=decide (vE c=0)||decide (vE c=3)||decide (vE c=4)
theorem rT:∀c:UInt8,ew c=true->(yB c||vG c)=!fO c:=vg (by decide +kernel)
theorem GQ(c:UInt8):vE c=-1\/vE c=0\/vE c=1\/vE c=2\/vE c=3\/vE c=4\/vE c=5:=by
 have:=rn c;unfold vE;split<;>omega
def lK(z:Nat->UInt8)(k:Nat):Nat:=((List.range k).filter fun i=>fO (z i)).length
theorem sy(z:Nat->UInt8)(k:Nat):lK z (k+1)=lK z k+if fO (z k)then 1 else 0:=by
 unfold lK;rw[List.range_succ,List.filter_append,qZ];cases h:fO (z k)<;>simp[h]
theorem Ec(z:Nat->UInt8)(k:Nat):lK z k<=k:=by
 have:=List.length_filter_le (fun i=>fO (z i)) (List.range k);unfold lK;simpa using this
theorem tS{z:Nat->UInt8}(hok:xO z=true):uw z=(decide (((lK z 64:Nat):Int)=0)&&decide (((ws z 64:Nat):Int)<=1)):=by
 by_cases h:∀j,j<64->(yB (z j)||vG (z j))=true
 ·have h0:lK z 64=0:=by
   unfold lK;rw[List.length_eq_zero_iff,List.filter_eq_nil_iff];intro i hi;have hi:=qK.1 hi;have:=rT (z i) (ji hok hi);rw[h i hi]at this;intro e;rw[e]at this;cases this
  rw[tU h,qJ (show((lK z 64:Nat):Int)=0 by omega)];rfl
 ·have:∃j,j<64/\(yB (z j)||vG (z j))=false:=by
   refine Classical.byContradiction fun hn=>h fun j hj=>?_
   cases e:(yB (z j)||vG (z j))with
   | true=>rfl
   | false=>exact absurd ⟨j,hj,e⟩ hn
  obtain⟨j,hj,e⟩:=this
  have h1:lK z 64≠0:=by
   unfold lK;intro h0;rw[List.length_eq_zero_iff,List.filter_eq_nil_iff]at h0;have:=rT (z j) (ji hok hj);rw[e]at this;refine h0 j (qK.2 hj) ?_;cases hv:fO (z j)with
   | true=>rfl
   | false=>rw[hv]at this;cases this
  rw[tT hj e,qE (show ¬ ((lK z 64:Nat):Int)=0 by omega)];rfl
theorem CP{z:Nat->UInt8}(hok:xO z=true){wh:Bool}(h0:0<=xR z wh)(h1:xR z wh<=63):kz z wh=zM z (xR z wh) (!wh):=by
 obtain⟨y,hy⟩:∃y:Nat,xR z wh=(y:Int):=⟨(xR z wh).toNat,by omega⟩;unfold kz;rw[hy];exact xu hok _ y (by omega)
structure Ss(w:World)(PA:Array Value)(n:Int)(W:World):Prop where
 pa:W.heap[w.heap.size]?=some (.cells PA 70)
 rs:W.heap[w.heap.size+1]?=some (.cells (xB false 0 0) 186)
 st:∃c,W.heap[w.heap.size+2]?=some (.cells (xB c n 0) 186)
 gr:Gr w W
theorem Ss.next{w W W':World}{PA:Array Value}{n:Int}(h:Ss w PA n W)(g:Gr W W'):Ss w PA n W':=by
 obtain⟨c,hc⟩:=h.st;exact⟨(Below.block g _ (qB.1 h.pa).1).trans h.pa,(Below.block g _ (qB.1 h.rs).1).trans h.rs,⟨c,(Below.block g _ (qB.1 hc).1).trans hc⟩,Gr.trans h.gr g⟩
theorem Ss.set{w W:World}{PA:Array Value}{n:Int}(h:Ss w PA n W)(v:Bool):Ss w PA n (W.setCell ⟨w.heap.size+2,0,none⟩ (.bool v)):=by
 obtain⟨c,hc⟩:=h.st;have fs:Fr (fun k _=>k≠w.heap.size+2) W (W.setCell ⟨w.heap.size+2,0,none⟩ (.bool v)):=(Fr.refl _ _).setCell _ (fun o _ q=>q rfl);exact⟨fs.same _ _ h.pa (by omega),fs.same _ _ h.rs (by omega),⟨v,qv hc⟩,Below.setCell h.gr (show w.heap.size<=w.heap.size+2 by omega) _⟩
theorem oy(w:World)(PA:Array Value):Ss w PA 0 ((((w.alloc (.cells PA 70)).alloc (.cells (xB false 0 0) 186)).alloc (.cells (xB false 0 0) 186)).setRow (w.heap.size+2) (xB false 0 0)):=by
 obtain⟨y1,y2,y3,y4⟩:=jG w (.cells PA 70) (.cells (xB false 0 0) 186) (.cells (xB false 0 0) 186);exact⟨by rw[setRow_other _ _ _ _ (by omega)];exact y1,by rw[setRow_other _ _ _ _ (by omega)];exact y2,⟨false,setRow_heap _ _ _ _ _ _ y3⟩,((((Gr.refl w).alloc _ _).alloc _ _).alloc _ _).setRow _ (by omega) _⟩
theorem Ss.num{w W:World}{PA:Array Value}(h:Ss w PA 0 W)(n:Int):Ss w PA n (W.setCell ⟨w.heap.size+2,1,none⟩ (.int .i64 n)):=by
 obtain⟨c,hc⟩:=h.st;have fs:Fr (fun k _=>k≠w.heap.size+2) W (W.setCell ⟨w.heap.size+2,1,none⟩ (.int .i64 n)):=(Fr.refl _ _).setCell _ (fun o _ q=>q rfl);exact⟨fs.same _ _ h.pa (by omega),fs.same _ _ h.rs (by omega),⟨c,qv hc⟩,Below.setCell h.gr (show w.heap.size<=w.heap.size+2 by omega) _⟩
theorem eL{z:Nat->UInt8}{wh:Bool}{fc:Nat->Bool}{b h g:Int}{PA:Array Value}(r:jE z wh fc b h g PA)(hC:kJ z wh fc b)(hb0:-1<=b)(hb1:b<=63)(h0:0<=h)(h1:h<=65535)(g0:0<=g)(g1:g<=65535)(k0:0<=xR z wh)(k1:xR z wh<=63)(w:World) :
  Calls Tryz.prog 112 #[.agg PA] w fun e w'=>e=.returned (.agg (bx z wh fc b))/\Gr w w':=by
 have hz:=r.size;have htu:=qC (fun W=>Dv r W);obtain⟨qs,qA⟩:=FN r;have hall:Hid (∀W:World,Calls Tryz.prog 54 #[.agg PA] W fun e w'=>∃v,e=.returned v/\np W.heap.size v (yY z wh fc b) w'/\Gr W w'):=qC fun W=>ai r hC hb0 hb1 h0 h1 g0 g1 W
 have hlen:(yY z wh fc b).length=(xC z wh fc b).length:=by rw[qk3 hC hb0 hb1];exact(xq _).length_eq
 have hlim:(xC z wh fc b).length<=20480:=by rw[<-hlen];exact iW _ _ _ _ 64
 have hKi:Hid (∀W:World,Calls Tryz.prog 193 #[.agg (PA.toList.take 64).toArray,.int .i64 (xK wh)] W fun e w'=>e=.returned (.int .i64 (xR z wh))/\Gr W w'):=qC fun W=>qzo _ _ qA wh W
 have hAt:Hid (∀W:World,Calls Tryz.prog 192 #[.agg (PA.toList.take 64).toArray,.int .i64 (xR z wh),.int .i64 (xK (!wh))] W fun e w'=>e=.returned (.bool (kz z wh))/\Gr W w'):=qC fun W=>by
  rw[CP hC.ok k0 k1];exact ju _ _ qs qA _ k0 k1 (!wh) W
 have hng:Hid (IntKind.i64.wrap (-(xK wh))=xK (!wh)):=qC (by cases wh<;>decide)
 have hL:Hid (bx z wh fc b=xB (kz z wh) ((xC z wh fc b).length:Int) (yO z (kz z wh) ((xC z wh fc b).length:Int))):=qC rfl;have hdead:=qC (tS hC.ok);have hsq:=qC (fun i hi=>r.sq i hi);have hS2:=oy w PA;rw[<-hlen]at hL hlim;generalize bx z wh fc b=V at hL ⊢;generalize xR z wh=y at hKi hAt k0 k1;generalize kz z wh=av at hAt hL;generalize yY z wh fc b=ys at hall hlen hL hlim;clear r hC hb0 hb1 h0 h1 g0 g1 qs qA hlen;go_enter Tryz.func112,Tryz.ntmps112;go_upto_region 2 with(refine wpList_store_row rfl 186 _ _ rfl (w.heap.size+2) (xB false 0 0) rfl rfl 186 (xB false 0 0) (jG w _ _ _).2.2.1 vI rfl (xw _ _ _) ?_);show Code.wp _ _ _ _ ((((w.alloc (.cells PA 70)).alloc (.cells (xB false 0 0) 186)).alloc (.cells (xB false 0 0) 186)).setRow (w.heap.size+2) (xB false 0 0));generalize ((((w.alloc (.cells PA 70)).alloc (.cells (xB false 0 0) 186)).alloc (.cells (xB false 0 0) 186)).setRow (w.heap.size+2) (xB false 0 0))=w2 at hS2 ⊢;have hrow:=qC (qy hS2.pa)
 go_upto_region 3 with(first
  | (go_at_call 54;refine(qa hall _).mono ?_;rintro e w3 ⟨v,rfl,hmr,hg3⟩;obtain⟨pp,cap,rfl,hcap,hxx⟩:=bt hmr;clear hxx hmr)
  | (refine ql (by rfl) _ rfl w.heap.size rfl hz (qa hrow) ?_))
 have hS3:=hS2.next hg3;obtain⟨c3,hc3⟩:=hS3.st;have d1:w3.cell? ⟨w.heap.size+2,1,none⟩=some (.int .i64 0):=by rw[qn hc3];rfl
 have d2:w3.frozen? ⟨w.heap.size+2,1,none⟩=false:=xr hc3;have hS4:=hS3.num ((ys.length:Nat):Int);clear hS2 hg3 hrow hall hS3 hc3;go_upto_region 4 with fail;generalize w3.setCell ⟨w.heap.size+2,1,none⟩ (.int .i64 ((ys.length:Nat):Int))=w4 at hS4 ⊢;clear d1 d2;generalize ((ys.length:Nat):Int)=n at hS4 hL;have hHeld0:=hS4.next (Gr.refl _).drew;refine wp_region_held_drew (S:=Ss w PA n) (by kernel_rfl) hHeld0 (fun qD=>?_);clear hHeld0 hS4;refine C.tq 0 (.pointer (some ⟨w.heap.size,0,none⟩)) qD ?_;refine C.ty 1 (.agg (PA.toList.take 64).toArray) rfl (DB hz (by rfl) _ rfl w.heap.size rfl (fun _ h=>qy h.pa)) qD ?_;refine C.tq 2 (.pointer (some ⟨w.heap.size,0,none⟩)) qD ?_;refine C.ty 3 (.agg (PA.toList.take 64).toArray) rfl (DB hz (by rfl) _ rfl w.heap.size rfl (fun _ h=>qy h.pa)) qD ?_;refine C.ty 4 (.agg PA) rfl (zy hz (by rfl) _ rfl w.heap.size rfl (fun _ h=>qy h.pa)) qD ?_;refine C.ty 7 (.agg PA) rfl (zy hz (by rfl) _ rfl w.heap.size rfl (fun _ h=>qy h.pa)) qD ?_;refine C.rd 5 fun K hK=>?_
 go_simp;refine(qa htu _).mono ?_;rintro e wa1 ⟨rfl,hga1⟩;refine hK.out _ _ (qD.next hga1) (fun qD=>?_);clear hK K
 try simp only[C.py]
 refine C.rd 6 fun K hK=>?_
 go_simp;refine(qa hKi _).mono ?_;rintro e wa2 ⟨rfl,hga2⟩;refine hK.out _ _ (qD.next hga2) (fun qD=>?_);clear hK K
 try simp only[C.py]
 refine C.rd 8 fun K hK=>?_
 go_simp;refine(qa htu _).mono ?_;rintro e wa3 ⟨rfl,hga3⟩;refine hK.out _ _ (qD.next hga3) (fun qD=>?_);clear hK K
 try simp only[C.py]
 refine C.ty 9 (.int .i64 (xK (!wh))) rfl (Or.inl ⟨by rfl,fun w _=>(by go_simp;exact qa hng)⟩) qD ?_;refine C.rd 10 fun K hK=>?_
 go_simp;refine(qa hAt _).mono ?_;rintro e wa4 ⟨rfl,hga4⟩;refine hK.out _ _ (qD.next hga4) (fun qD=>?_);clear hK K
 try simp only[C.py]
 refine C.tq 11 (.pointer (some ⟨w.heap.size+2,0,none⟩)) qD ?_;refine C.rd 12 fun K hK=>?_
 obtain⟨c,hc⟩:=qD.st;have d0:wa4.cell? ⟨w.heap.size+2,0,none⟩=some (.bool c):=by rw[qn hc];rfl
 have d1:wa4.frozen? ⟨w.heap.size+2,0,none⟩=false:=xr hc;go_simp;refine hK.out _ _ (qD.set av) (fun qD=>?_);clear hK K
 try simp only[C.py]
 refine wpAnyH_done (by kernel_rfl) ?_ _;have hst5:(wa4.setCell ⟨w.heap.size+2,0,none⟩ (.bool av)).heap[w.heap.size+2]?=some (.cells (xB av n 0) 186):=qv hc;have hS5:=qD;clear qD d0 d1 hc htu hKi hAt hng k0 k1;generalize wa4.setCell ⟨w.heap.size+2,0,none⟩ (.bool av)=w5 at hst5 hS5 ⊢;have hcl:Hid (∀k,k<64->w5.cell? ⟨w.heap.size,k,none⟩=some (.int .u8 ((z k).toNat:Int))):=qC fun k hk=>by rw[qn hS5.pa];exact qa hsq k hk
 have c0:w5.cell? ⟨w.heap.size+2,0,none⟩=some (.bool av):=by rw[qn hst5];rfl
 have c1:w5.cell? ⟨w.heap.size+2,1,none⟩=some (.int .i64 n):=by rw[qn hst5];rfl
 have c2:w5.cell? ⟨w.heap.size+2,2,none⟩=some (.int .i64 0):=by rw[qn hst5];rfl
 have f2:w5.frozen? ⟨w.heap.size+2,2,none⟩=false:=xr hst5;have hst5':=qC hst5;have hrs5:=qC hS5.rs;have hgr5:=qC hS5.gr;have hstO:Hid (∀o:Int,(w5.setCell ⟨w.heap.size+2,2,none⟩ (.int .i64 o)).heap[w.heap.size+2]?=some (.cells (xB av n o) 186)):=qC fun o=>qv hst5
 have hrsO:Hid (∀o:Int,(w5.setCell ⟨w.heap.size+2,2,none⟩ (.int .i64 o)).heap[w.heap.size+1]?=some (.cells (xB false 0 0) 186)):=qC fun o=>by
  have fs:Fr (fun k _=>k≠w.heap.size+2) w5 (w5.setCell ⟨w.heap.size+2,2,none⟩ (.int .i64 o)):=(Fr.refl _ _).setCell _ (fun o _ q=>q rfl);exact fs.same _ _ hS5.rs (by omega)
 have hgrO:Hid (∀o:Int,Gr w (w5.setCell ⟨w.heap.size+2,2,none⟩ (.int .i64 o))):=qC fun o=>Below.setCell hS5.gr (show w.heap.size<=w.heap.size+2 by omega) _
 clear hS5 hst5 hsq;go_wp2_with fail;go_loopg [5,6,7] 64 (fun g l hv i wr=>∃k:Nat,k+g=64/\i=.int .i64 k/\l=.int .i64 (ws z k:Nat)/\hv=.int .i64 (lK z k:Nat)/\wr=w5)
 case atStart=>exact⟨0,rfl,rfl,rfl,rfl,rfl⟩
 case round =>
  obtain⟨k,k1,rfl,rfl,rfl,hww⟩:=hrel;have hww':=hww.symm;subst hww';clear hww;by_cases hlt:k<64
  ·have hck:=qa hcl k hlt;have hk0:(0:Int)<=(k:Int):=by omega
   have hk6:(k:Int)<64:=by omega
   have b1:=EH z k;have b2:=Ec z k;have hl:=sU z k;have hh:=sy z k;have hkd:=qC (fun W=>zp (z k) W);rw[GK]at hl;unfold fO at hh;rcases GQ (z k)with e|e|e|e|e|e|e
   all_goals
    rw[e]at hl hh hkd;simp at hl hh;have hl2:=qC hl;have hh2:=qC hh;clear hl hh e hL hdead c0 c1 c2 f2;go_wp2_with(go_at_call 107;refine(qa hkd _).mono ?_;rintro e' w' ⟨rfl,hw⟩;have hw':=hw.symm;subst hw';clear hw);go_roundg (gk-1)
    case measure=>omega
    case rel=>exact⟨k+1,by omega,by go_num,by rw[qa hl2]<;>go_num,by rw[qa hh2]<;>go_num,rfl⟩
  ·have ek:k=64:=by omega
   subst ek;clear hlt hcl;obtain⟨x1,hx1⟩:∃c,(((lK z 64:Nat):Int)==0)=c:=⟨_,rfl⟩;obtain⟨x2,hx2⟩:∃c,decide (((ws z 64:Nat):Int)<=1)=c:=⟨_,rfl⟩;obtain⟨n0,hn0⟩:∃c,(n==0)=c:=⟨_,rfl⟩;have hd2:Hid (uw z=(x1&&x2)):=qC (by rw[qa hdead,hx2,<-hx1];rfl);cases n0
   ·have en:Hid (¬ n=0):=qC (by intro h;rw[h]at hn0;cases hn0);cases x1
    ·skip
     have hV:Hid (V=xB av n 0):=qC (by rw[qa hL];unfold yO;rw[qF (qa en),qa hd2];rfl);clear hL hdead
     go_wp2_with(first
      | (refine wpList_load_row rfl 186 _ rfl (w.heap.size+2) rfl 186 (xB av n 0) (0,0) _ (qa hst5') Tryz.underlying186 rfl vI ?_)
      | (refine wpList_store_row rfl 186 _ _ rfl (w.heap.size+1) (xB av n 0) rfl rfl 186 (xB false 0 0) (qa hrs5) vI rfl (xw _ _ _) ?_))
     exact bodyPost_ret (v:=.agg (xB av n 0)) (results_cell_row Tryz.results112 _ _ (w.heap.size+1) 186 (xB av n 0) (0,0) _ rfl (setRow_heap _ _ _ _ _ _ (qa hrs5)) Tryz.underlying186 rfl vI) rfl ⟨by rw[qa hV],Gr.setRow (qa hgr5) _ (by omega) _⟩
    ·cases x2
     ·skip
      have hV:Hid (V=xB av n 0):=qC (by rw[qa hL];unfold yO;rw[qF (qa en),qa hd2];rfl);clear hL hdead
      go_wp2_with(first
       | (refine wpList_load_row rfl 186 _ rfl (w.heap.size+2) rfl 186 (xB av n 0) (0,0) _ (qa hst5') Tryz.underlying186 rfl vI ?_)
       | (refine wpList_store_row rfl 186 _ _ rfl (w.heap.size+1) (xB av n 0) rfl rfl 186 (xB false 0 0) (qa hrs5) vI rfl (xw _ _ _) ?_))
      exact bodyPost_ret (v:=.agg (xB av n 0)) (results_cell_row Tryz.results112 _ _ (w.heap.size+1) 186 (xB av n 0) (0,0) _ rfl (setRow_heap _ _ _ _ _ _ (qa hrs5)) Tryz.underlying186 rfl vI) rfl ⟨by rw[qa hV],Gr.setRow (qa hgr5) _ (by omega) _⟩
     ·skip
      have hV:Hid (V=xB av n 3):=qC (by rw[qa hL];unfold yO;rw[qF (qa en),qa hd2];rfl);clear hL hdead
      go_wp2_with(first
       | (refine wpList_load_row rfl 186 _ rfl (w.heap.size+2) rfl 186 (xB av n 3) (0,0) _ (qa hstO 3) Tryz.underlying186 rfl vI ?_)
       | (refine wpList_store_row rfl 186 _ _ rfl (w.heap.size+1) (xB av n 3) rfl rfl 186 (xB false 0 0) (qa hrsO 3) vI rfl (xw _ _ _) ?_))
      exact bodyPost_ret (v:=.agg (xB av n 3)) (results_cell_row Tryz.results112 _ _ (w.heap.size+1) 186 (xB av n 3) (0,0) _ rfl (setRow_heap _ _ _ _ _ _ (qa hrsO 3)) Tryz.underlying186 rfl vI) rfl ⟨by rw[qa hV],Gr.setRow (qa hgrO 3) _ (by omega) _⟩
   ·have en:Hid (n=0):=qC (by simpa using hn0);clear hx1 hx2;cases av
    ·skip
     have hV:Hid (V=xB false n 2):=qC (by rw[qa hL];unfold yO;rw[qI (qa en)];rfl);clear hL hdead
     go_wp2_with(first
      | (refine wpList_load_row rfl 186 _ rfl (w.heap.size+2) rfl 186 (xB false n 2) (0,0) _ (qa hstO 2) Tryz.underlying186 rfl vI ?_)
      | (refine wpList_store_row rfl 186 _ _ rfl (w.heap.size+1) (xB false n 2) rfl rfl 186 (xB false 0 0) (qa hrsO 2) vI rfl (xw _ _ _) ?_))
     exact bodyPost_ret (v:=.agg (xB false n 2)) (results_cell_row Tryz.results112 _ _ (w.heap.size+1) 186 (xB false n 2) (0,0) _ rfl (setRow_heap _ _ _ _ _ _ (qa hrsO 2)) Tryz.underlying186 rfl vI) rfl ⟨by rw[qa hV],Gr.setRow (qa hgrO 2) _ (by omega) _⟩
    ·skip
     have hV:Hid (V=xB true n 1):=qC (by rw[qa hL];unfold yO;rw[qI (qa en)];rfl);clear hL hdead
     go_wp2_with(first
      | (refine wpList_load_row rfl 186 _ rfl (w.heap.size+2) rfl 186 (xB true n 1) (0,0) _ (qa hstO 1) Tryz.underlying186 rfl vI ?_)
      | (refine wpList_store_row rfl 186 _ _ rfl (w.heap.size+1) (xB true n 1) rfl rfl 186 (xB false 0 0) (qa hrsO 1) vI rfl (xw _ _ _) ?_))
     exact bodyPost_ret (v:=.agg (xB true n 1)) (results_cell_row Tryz.results112 _ _ (w.heap.size+1) 186 (xB true n 1) (0,0) _ rfl (setRow_heap _ _ _ _ _ _ (qa hrsO 1)) Tryz.underlying186 rfl vI) rfl ⟨by rw[qa hV],Gr.setRow (qa hgrO 1) _ (by omega) _⟩
end
section
section
variable {z:Nat->UInt8}{wh:Bool}{fc:Nat->Bool}{b:Int}{i f t cs:Nat}{u:UInt8}
end
section
variable {z:Nat->UInt8}{wh:Bool}{fc:Nat->Bool}{b:Int}
end
section
variable {z:Nat->UInt8}{wh:Bool}{fc:Nat->Bool}{b:Int}{i f t cs:Nat}{u:UInt8}
end
end
section
attribute [local go_sem] qd qe
end
section
attribute [local go_sem] qd qe Oper.semAt_some
end
section
variable {z:Nat->UInt8}{wh:Bool}{fc:Nat->Bool}{b h g:Int}
end
section
variable {z:Nat->UInt8}{wh:Bool}{fc:Nat->Bool}{b h g:Int}{PA:Array Value}
end
section
attribute [local go_sem] qd qe Oper.semAt_some
def qA(A:Array Value)(d n:Int):Array Value:=A++#[.int .i64 d,.int .i64 n]
def svN(g n:Nat):Value:=.slice (some ⟨g,0,none⟩) n n
theorem pD{s:ByteArray}{k:Int}{p:pH}(h:iP s k)(hr:xG s=some p)(hc:xP p=true):False:=by
 rcases h with⟨_,a⟩|⟨_,q,a,b⟩
 ·rw[hr]at a;cases a
 ·rw[hr]at a;rw[<-qP a,hc]at b;cases b
structure Mq(g n:Nat)(Q:Array Value)(b2 b3:Nat)(w W:World):Prop where
 m:W.heap[b2]?=some (.cells #[svN g n] 56)
 q:W.heap[b3]?=some (.cells Q 117)
 gr:Gr w W
theorem Mq.next{g n:Nat}{Q:Array Value}{b2 b3:Nat}{w W W':World}(h:Mq g n Q b2 b3 w W)(k:Gr W W'):Mq g n Q b2 b3 w W':=⟨(Below.block k _ (xe h.m)).trans h.m,(Below.block k _ (xe h.q)).trans h.q,Gr.trans h.gr k⟩
theorem Mq.c{g n:Nat}{Q:Array Value}{b2 b3:Nat}{w W:World}(h:Mq g n Q b2 b3 w W):W.cell? ⟨b2,0,none⟩=some (svN g n):=by rw[qn h.m];rfl
structure Ms(g n:Nat)(Q S:Array Value)(b2 b3:Nat)(w W:World):Prop where
 mq:Mq g n Q b2 b3 w W
 s:W.heap[g]?=some (.cells S 168)
theorem Ms.next{g n:Nat}{Q S:Array Value}{b2 b3:Nat}{w W W':World}(h:Ms g n Q S b2 b3 w W)(k:Gr W W'):Ms g n Q S b2 b3 w W':=⟨h.mq.next k,(Below.block k _ (xe h.s)).trans h.s⟩
theorem Ms.put{g n:Nat}{Q S:Array Value}{b2 b3:Nat}{w W:World}(h:Ms g n Q S b2 b3 w W){B:Nat}(h1:B≠g)(h2:B≠b2)(h3:B≠b3)(hw:w.heap.size<=B)(X:Array Value):Ms g n Q S b2 b3 w (W.setRow B X) :=
 ⟨⟨by rw[setRow_other _ _ _ _ (by omega)];exact h.mq.m,by rw[setRow_other _ _ _ _ (by omega)];exact h.mq.q,h.mq.gr.setRow _ hw _⟩,by rw[setRow_other _ _ _ _ (by omega)];exact h.s⟩
end
def xA(f:Nat):UInt8:=UInt8.ofNat (97+f%8)
def xI(f:Nat):UInt8:=UInt8.ofNat (49+f/8)
theorem zF(f:Nat):xQ f=[xA f,xI f]:=rfl
def vz(c:UInt8):UInt8:=if 97<=c/\c<=122 then c-32 else c
def kX(i:Nat):UInt8:=[80,78,66,82,81,75].getD i 0
def jX(M:List Mv)(z:Nat->UInt8)(f t:Nat):List Mv:=M.filter fun y=>decide (y.2.1=t)&&!decide (y.1=f)&&decide (z y.1=z f)
def iT(L:List Mv)(f:Nat):List UInt8 :=
 if L.isEmpty=true then[]else if L.all (fun y=>!decide (y.1%8=f%8))=true then[xA f]else if L.all (fun y=>!decide (y.1/8=f/8))=true then[xI f]else xQ f
def z7(f t:Nat)(u:UInt8):List UInt8:=(if f%8=t%8 then[]else[xA f,120])++xQ t++(if u=0 then[]else[61,vz u])
def zQ(M:List Mv)(z:Nat->UInt8)(f t:Nat):List UInt8:=vz (z f) :: (iT (jX M z f t) f++(if z t=46 then[]else[120])++xQ t)
def jR(M:List Mv)(z:Nat->UInt8)(x:Mv):List UInt8 :=
 if jA (z x.1)=true/\x.2.1=x.1+2 then[79,45,79]else if jA (z x.1)=true/\x.2.1+2=x.1 then[79,45,79,45,79]
 else if jD (z x.1)=true then z7 x.1 x.2.1 x.2.2 else zQ M z x.1 x.2.1
section
attribute [local go_sem] qd qe Oper.semAt_some
theorem oQ:∀c:UInt8,Lib.upperB c=vz c:=by
 have:∀n,n<256->Lib.upperB (UInt8.ofNat n)=vz (UInt8.ofNat n):=by decide +kernel
 intro c;have:=this c.toNat (by have:=c.toNat_lt;omega)
 rwa[UInt8.ofNat_toNat]at this
theorem gV(c:UInt8)(hc:c.toNat<128)(w:World):Calls Tryz.prog 202 #[.int .u8 (c.toNat:Int)] w fun e w'=>e=.returned (.string (xJ [vz c]))/\Gr w w':=by
 have hcv:=qq4 (w.alloc (.cells #[.int .u8 (c.toNat:Int)] 5)) ⟨w.heap.size,0,none⟩ 1 [c] (by
  intro i hi;rw[Addr.add_lit,Nat.zero_add,World.cell?_alloc_at _ _ _ _ rfl];have:i=0:=by simp at hi;omega
  subst this;rfl)
 have hcv':(convert 145 9 (.slice (some ⟨w.heap.size,0,none⟩) 1 1)).run Tryz.prog (w.alloc (.cells #[.int .u8 (c.toNat:Int)] 5))=.ok (.string ⟨#[c]⟩) (w.alloc (.cells #[.int .u8 (c.toNat:Int)] 5)):=hcv
 have hup:Hid (∀W,Calls Tryz.prog 250 #[.string ⟨#[c]⟩] W fun e w'=>e=.returned (.string (xJ [vz c]))/\Gr W w'):=qC fun W=>(Tryz.strings_ToUpper_ascii ⟨#[c]⟩ W (by show 1<=_;decide) (by
  intro j b h
  have hj:j=0:=by
   have:=(List.getElem?_eq_some_iff.1 h).1;simp at this;omega
  subst hj;have:c=b:=qP h;rw[<-this];exact hc)).mono fun e w' k=>⟨by rw[k.1];show Ending.returned (.string ⟨[Lib.upperB c].toArray⟩)=_;rw[oQ];rfl,k.2⟩
 clear hcv;have hg0:=qC ((Gr.refl w).alloc #[.int .u8 (c.toNat:Int)] 5);go_enter Tryz.func202,Tryz.ntmps202;go_wp2_with(go_at_call 250;refine(qa hup _).mono ?_;rintro e w' ⟨rfl,hg⟩);go_ret;exact⟨rfl,Gr.trans (qa hg0) hg⟩
theorem qxp(n:Nat)(h:n<64)(w:World):Calls Tryz.prog 69 #[.int .i64 n] w fun e w'=>e=.returned (.string (xJ [xA n,xI n]))/\Gr w w':=(gI n h w).mono fun _ _ k=>⟨k.1,k.2.gr⟩
theorem xb(x y:List UInt8)(h:x.length+y.length<=100)(W:World):(Op.stringOp .add (xJ x) (xJ y)).run Tryz.prog W=.ok (.string (xJ (x++y))) W:=by
 rw[<-F6]
 exact run_string_add_sum W _ _ (by
  have e1:(xJ x).size=x.length:=by show x.toArray.size=_;simp
  have e2:(xJ y).size=y.length:=by show y.toArray.size=_;simp
  rw[e1,e2];exact q7 h (by decide))
theorem dS(f t:Nat)(hf:f<64)(ht:t<64)(u:UInt8)(hu:u.toNat<128)(w:World):Calls Tryz.prog 122 #[.agg #[.int .i64 (f:Int),.int .i64 (t:Int),.int .u8 (u.toNat:Int)]] w fun e w'=>e=.returned (.string (xJ (z7 f t u)))/\Gr w w':=by
 have hN1:=qC (fun W=>qxp f hf W);have hN2:=qC (fun W=>qxp t ht W);have hG:=qC (fun W=>gV u hu W);have hin:Hid (∀w',Gr (w.alloc (.cells #[.int .i64 (f:Int),.int .i64 (t:Int),.int .u8 (u.toNat:Int)] 87)) w'->_):=qC (fun w' g=>(sO g).2);have hg0:=qC ((Gr.refl w).alloc #[.int .i64 (f:Int),.int .i64 (t:Int),.int .u8 (u.toNat:Int)] 87);go_enter Tryz.func122,Tryz.ntmps122;go_upto_region 1 with fail;generalize w.alloc (.cells #[.int .i64 (f:Int),.int .i64 (t:Int),.int .u8 (u.toNat:Int)] 87)=w1 at hin hg0 ⊢;obtain⟨c0,c1,c2⟩:=qa hin _ (Gr.refl _);go_upto_region 2 with(go_at_call 69;refine(qa hN2 _).mono ?_;rintro e w2 ⟨rfl,hg2⟩);obtain⟨d0,d1,d2⟩:=qa hin _ hg2;clear c0 c1 c2;have hg2w:=qC (Gr.trans (qa hg0) hg2);have hg2':=qC hg2;have r1:=qC (fun W=>xb [xA f] [120] (by simp) W);have r2:=qC (fun W=>xb ([xA f]++[120]) [xA t,xI t] (by simp) W);have r3:=qC (fun W=>xb [61] [vz u] (by simp) W);have r4:=qC (fun W=>xb [xA t,xI t] ([61]++[vz u]) (by simp) W);have r5:=qC (fun W=>xb ([xA f]++[120]++[xA t,xI t]) ([61]++[vz u]) (by simp) W);have ex:(xJ [xA f,xI f]).extract 0 1=xJ [xA f]:=rfl;have sz:(xJ [xA f,xI f]).size=2:=rfl;have z1:Hid (f%8=t%8->u=0->xJ (z7 f t u)=xJ [xA t,xI t]):=qC (fun a b=>by unfold z7;rw[qI a,qI b];rfl);have z2:Hid (f%8=t%8->u≠0->xJ (z7 f t u)=xJ ([xA t,xI t]++([61]++[vz u]))):=qC (fun a b=>by unfold z7;rw[qI a,qF b];rfl);have z3:Hid (f%8≠t%8->u=0->xJ (z7 f t u)=xJ ([xA f]++[120]++[xA t,xI t])):=qC (fun a b=>by unfold z7;rw[qF a,qI b];rfl);have z4:Hid (f%8≠t%8->u≠0->xJ (z7 f t u)=xJ ([xA f]++[120]++[xA t,xI t]++([61]++[vz u]))):=qC (fun a b=>by unfold z7;rw[qF a,qF b];rfl);generalize xJ ([xA f]++[120]++[xA t,xI t]++([61]++[vz u]))=S5 at r5 z4;generalize xJ ([xA f]++[120]++[xA t,xI t])=S2 at r2 r5 z3;generalize xJ ([xA t,xI t]++([61]++[vz u]))=S4 at r4 z2;generalize xJ ([xA f]++[120])=S1 at r1 r2;generalize xJ ([61]++[vz u])=S3 at r3 r4 r5;generalize xJ [vz u]=UC at r3 hG;generalize xJ [xA f,xI f]=NF at ex sz hN1;generalize xJ [xA f]=F1 at ex r1;generalize xJ [xA t,xI t]=NT at r2 r4 z1 hN2 ⊢;have r1':∀W,(Op.stringOp .add F1 ⟨#[120]⟩).run Tryz.prog W=.ok (.string S1) W:=qa r1;have r2':∀W,(Op.stringOp .add S1 NT).run Tryz.prog W=.ok (.string S2) W:=qa r2;have r3':∀W,(Op.stringOp .add ⟨#[61]⟩ UC).run Tryz.prog W=.ok (.string S3) W:=qa r3;have r4':∀W,(Op.stringOp .add NT S3).run Tryz.prog W=.ok (.string S4) W:=qa r4;have r5':∀W,(Op.stringOp .add S2 S3).run Tryz.prog W=.ok (.string S5) W:=qa r5;clear r1 r2 r3 r4 r5 hN2 hg2
 have hu':u=0\/((u.toNat:Int) != 0)=true:=by
  by_cases e:u=0
  ·exact .inl e
  ·exact .inr (qU.2 (fun q=>e (q6.1 (by simpa using q))))
 by_cases hs:f%8=t%8
 ·have hs':(f:Int)%8=(t:Int)%8:=by omega
  clear z3 z4 hN1;rcases hu' with hu0|hu0
  ·have he':=qC (qa z1 hs hu0);subst hu0;clear z1 z2 hG;go_wp2_with fail;go_ret;exact⟨by rw[qa he'];rfl,qa hg2w⟩
  ·have hne:u≠0:=fun q=>by rw[q]at hu0;cases hu0
   have he':=qC (qa z2 hs hne);clear z1 z2 hne;go_upto_region 6 with(go_at_call 202;refine(qa hG _).mono ?_;rintro e w4 ⟨rfl,hg4⟩);have hgf:=qC (Gr.trans (qa hg2w) hg4);clear hg4 hG;go_wp2_with fail;go_ret;exact⟨by rw[qa he'];rfl,qa hgf⟩
 ·have hs':¬ (f:Int)%8=(t:Int)%8:=by omega
  clear z1 z2;go_upto_region 4 with(go_at_call 69;refine(qa hN1 _).mono ?_;rintro e w3 ⟨rfl,hg3⟩);obtain⟨k0,k1,k2⟩:=qa hin _ (Gr.trans (qa hg2') hg3);have hg3w:=qC (Gr.trans (qa hg2w) hg3);clear hg3 hN1 hin hg2';rcases hu' with hu0|hu0
  ·have he':=qC (qa z3 hs hu0);subst hu0;clear z3 z4 hG;go_wp2_with fail;go_ret;exact⟨by rw[qa he'];rfl,qa hg3w⟩
  ·have hne:u≠0:=fun q=>by rw[q]at hu0;cases hu0
   have he':=qC (qa z4 hs hne);clear z3 z4 hne;go_upto_region 6 with(go_at_call 202;refine(qa hG _).mono ?_;rintro e w4 ⟨rfl,hg4⟩);have hgf:=qC (Gr.trans (qa hg3w) hg4);clear hg4 hG;go_wp2_with fail;go_ret;exact⟨by rw[qa he'];rfl,qa hgf⟩
end
theorem bS{n:Nat}{P:Program}{row:String}{args:Array Value}{w:World}{R:Value->World->Prop}(h:Rows P row args w R):RowsIn Fence.wide n P row args w R:=fun c cs _ =>
 let ⟨v,w',r,s⟩:=h c cs
 ⟨v,w',r,stepsIn_wide.2 s⟩
theorem li{l n:Nat}{P:Program}{ops:Array Oper}{Q:Exit->Act->World->Prop}{i:Nat}{K K':Act->World->Prop}{a:Act}{w:World}(hL:¬ LetsOut Q)(hd:∀o c,ops[i]?=some o->o.op≠.defer c)(hK:∀a w,K a w->K' a w)(h:wpOp P ops Q i K a w):wpOpIn (Fence.wide.inRound l) n P ops Q i K' a w:=by
 unfold wpOp at h;unfold wpOpIn;cases ho:ops[i]? with
 | none=>rw[ho]at h;exact hK _ _ h
 | some o =>
  rw[ho]at h;simp only at h ⊢;split
  ·rename_i hw;simp only[hw,if_true]at h;rcases h with h|⟨_,h⟩
   case inr=>exact absurd h hL
   refine⟨fun _ _=>trivial,?_⟩;show Oper.uponIn (Fence.wide.inRound l) n P o a K' Q (Sem.run P (Oper.semAt (some l) a.eval o) w);rw[Oper.semAt_some l _ o (fun c=>hd o c ho)];unfold Oper.wp at h;generalize (execOp a.eval o).run P w=r at h;cases r with
   | ok x w' =>
    cases x<;>simp only[Oper.upon]at h
    case value v=>exact hK _ _ h
    case skip=>exact hK _ _ h
    case defer d=>exact hK _ _ h
    case enter f args =>
     refine⟨fun h=>(by cases h),CallsIn.inRound l (callsIn_wide.2 (Calls.mono h fun e w'' he=>?_))⟩;cases e with
     | returned v=>exact hK _ _ he
     | panicked c=>exact he
     | outgrown=>exact he
    case row row args=>exact⟨fun h=>(by cases h),bS (Rows.mono h fun v w'' he=>hK _ _ he)⟩
   | halt x w' =>
    cases x<;>simp only[Oper.upon]at h
    case panic v=>exact h
  ·rename_i hw;simp only[hw]at h;exact⟨fun _ _=>trivial,hK _ _ h⟩
theorem qz4{l n:Nat}{P:Program}{ops:Array Oper}{Q:Exit->Act->World->Prop}{md:Region.Mode}(hL:¬ LetsOut Q)(hd:∀(i:Nat)(o:Oper)(c:Call),ops[i]?=some o->o.op≠.defer c):∀(fuel:Nat)(listed:Array Bool)(a:Act)(w:World),wpAny P md ops Q fuel listed a w->wpAnyIn (Fence.wide.inRound l) n P md ops Q fuel listed a w
 | 0,_,_,_,h=>h
 | fuel+1,_,_,_,h=>⟨h.1,fun i hi=>li hL (hd i) (qz4 hL hd fuel _) (h.2 i hi)⟩
def iz(o:Oper):Bool:=match o.op with
 | .defer _=>false
 | _=>true
theorem jf{l n:Nat}{P:Program}{ops:Array Oper}{Q:Exit->Act->World->Prop}{S:World->Prop}{id:Nat}{a:Act}{w:World}(hm:P.follows .mixedOrders=true)(hL:¬ LetsOut Q)(hd:ops.toList.all iz=true)(hS:S w.drew)
  (h:S w.drew->wpAnyH P .any ops Q S ops.size (Array.replicate ops.size false) a w.drew):(Code.region id ops true).wpIn (Fence.wide.inRound l) n P Q a w:=by
 refine wpIn_region_any hm (qz4 hL (fun i o c ho hc=>?_) _ _ _ _ (wpAny_of_held _ _ _ _ (h hS)))
 have:=qW.1 hd o (by
  have:=List.mem_of_getElem? (show ops.toList[i]?=some o by rw[qO];exact ho);exact this)
 rw[iz,hc]at this;cases this
end Go.Proofs.YtnfakamfmkhlbabGreatDoor.C
