import Derived.Test.YtnfakamfmkhlbaaGreatDoorZs42
import Derived.Test.YtnfakamfmkhlbaaGreatDoorZs35
import Derived.Test.YtnfakamfmkhlbaaGreatDoorZs37
import Derived.Test.YtnfakamfmkhlbaaGreatDoorZs46
import Derived.Test.YtnfakamfmkhlbaaGreatDoorZs20
import Derived.Test.YtnfakamfmkhlbaaGreatDoorKz2
set_option maxRecDepth 100000
set_option maxHeartbeats 4000000
set_option linter.unusedSimpArgs false
namespace Go.Proofs.YtnfakamfmkhlbaaGreatDoor.C
open Go.ChangeShapes Go.WideShapes Go.ChangeAt Go.RowKit Go.Shelf
open Go.Proofs.YtnfakamfmkhlbaaGreatDoor.P
attribute [local go_sem] qd qi Oper.semAt_some
theorem lgt_c:∀ c:UInt8,lightC c=(decide (kdc c=1)||decide (kdc c=2)):=all256 (by decide +kernel)
def hvyC (c:UInt8):Bool:=decide (kdc c=0)||decide (kdc c=3)||decide (kdc c=4)
theorem rest_c:∀ c:UInt8,okY c=true->(restC c||lightC c)=!hvyC c:=all256 (by decide +kernel)
theorem kd_bd (c:UInt8):kdc c=-1\/kdc c=0\/kdc c=1\/kdc c=2\/kdc c=3\/kdc c=4\/kdc c=5:=by
 have:=qjw c;unfold kdc;split<;>omega
def hvN (z:Nat->UInt8) (k:Nat):Nat:=((List.range k).filter fun i=>hvyC (z i)).length
theorem hvN_succ (z:Nat->UInt8) (k:Nat):hvN z (k+1)=hvN z k+if hvyC (z k) then 1 else 0:=by
 unfold hvN;rw [List.range_succ,List.filter_append,List.length_append];cases h:hvyC (z k)<;>simp [h]
theorem hvN_le (z:Nat->UInt8) (k:Nat):hvN z k<=k:=by
 have:=List.length_filter_le (fun i=>hvyC (z i)) (List.range k);unfold hvN;simpa using this
theorem dead_ref {z:Nat->UInt8} (hok:layOk z=true):deadB z=(decide (((hvN z 64:Nat):Int)=0)&&decide (((ltN z 64:Nat):Int)<=1)):=by
 by_cases h:∀ j,j<64->(restC (z j)||lightC (z j))=true
 ·have h0:hvN z 64=0:=by
   unfold hvN;rw [List.length_eq_zero_iff,List.filter_eq_nil_iff];intro i hi;have hi:=List.mem_range.1 hi;have:=rest_c (z i) (ja hok hi);rw [h i hi] at this;intro e;rw [e] at this;cases this
  rw [dead_all h,decide_eq_true (show ((hvN z 64:Nat):Int)=0 by omega)];rfl
 ·have:∃ j,j<64/\(restC (z j)||lightC (z j))=false:=by
   refine Classical.byContradiction fun hn=>h fun j hj=>?_
   cases e:(restC (z j)||lightC (z j)) with
   | true=>rfl
   | false=>exact absurd ⟨j,hj,e⟩ hn
  obtain ⟨j,hj,e⟩:=this
  have h1:hvN z 64≠0:=by
   unfold hvN;intro h0;rw [List.length_eq_zero_iff,List.filter_eq_nil_iff] at h0;have:=rest_c (z j) (ja hok hj);rw [e] at this;refine h0 j (List.mem_range.2 hj) ?_;cases hv:hvyC (z j) with
   | true=>rfl
   | false=>rw [hv] at this;cases this
  rw [dead_bad hj e,decide_eq_false (show ¬ ((hvN z 64:Nat):Int)=0 by omega)];rfl
theorem chk_ref {z:Nat->UInt8} (hok:layOk z=true) {wh:Bool} (h0:0<=kingR z wh) (h1:kingR z wh<=63):chkS z wh=attR z (kingR z wh) (!wh):=by
 obtain ⟨y,hy⟩:∃ y:Nat,kingR z wh=(y:Int):=⟨(kingR z wh).toNat,by omega⟩;unfold chkS;rw [hy];exact xr hok _ y (by omega)
structure Ss (w:World) (PA:Array Value) (n:Int) (W:World):Prop where
 pa:W.heap[w.heap.size]?=some (.cells PA 25)
 rs:W.heap[w.heap.size+1]?=some (.cells (stateA false 0 0) 44)
 st:∃ c,W.heap[w.heap.size+2]?=some (.cells (stateA c n 0) 44)
 gr:Gr w W
theorem Ss.next {w W W':World} {PA:Array Value} {n:Int} (h:Ss w PA n W) (g:Gr W W'):Ss w PA n W':=by
 obtain ⟨c,hc⟩:=h.st;exact ⟨(Below.block g _ (Array.getElem?_eq_some_iff.1 h.pa).1).trans h.pa,(Below.block g _ (Array.getElem?_eq_some_iff.1 h.rs).1).trans h.rs,⟨c,(Below.block g _ (Array.getElem?_eq_some_iff.1 hc).1).trans hc⟩,Gr.trans h.gr g⟩
theorem Ss.set {w W:World} {PA:Array Value} {n:Int} (h:Ss w PA n W) (v:Bool):Ss w PA n (W.setCell ⟨w.heap.size+2,0,none⟩ (.bool v)):=by
 obtain ⟨c,hc⟩:=h.st;have fs:Fr (fun k _=>k≠w.heap.size+2) W (W.setCell ⟨w.heap.size+2,0,none⟩ (.bool v)):=(Fr.refl _ _).setCell _ (fun o _ q=>q rfl);exact ⟨fs.same _ _ h.pa (by omega),fs.same _ _ h.rs (by omega),⟨v,qx hc⟩,Below.setCell h.gr (show w.heap.size<=w.heap.size+2 by omega) _⟩
theorem st_start (w:World) (PA:Array Value):Ss w PA 0 ((((w.alloc (.cells PA 25)).alloc (.cells (stateA false 0 0) 44)).alloc (.cells (stateA false 0 0) 44)).setRow (w.heap.size+2) (stateA false 0 0)):=by
 obtain ⟨y1,y2,y3,y4⟩:=heapThree w (.cells PA 25) (.cells (stateA false 0 0) 44) (.cells (stateA false 0 0) 44);exact ⟨by rw [setRow_other _ _ _ _ (by omega)];exact y1,by rw [setRow_other _ _ _ _ (by omega)];exact y2,⟨false,setRow_heap _ _ _ _ _ _ y3⟩,((((Gr.refl w).alloc _ _).alloc _ _).alloc _ _).setRow _ (by omega) _⟩
theorem Ss.num {w W:World} {PA:Array Value} (h:Ss w PA 0 W) (n:Int):Ss w PA n (W.setCell ⟨w.heap.size+2,1,none⟩ (.int .i64 n)):=by
 obtain ⟨c,hc⟩:=h.st;have fs:Fr (fun k _=>k≠w.heap.size+2) W (W.setCell ⟨w.heap.size+2,1,none⟩ (.int .i64 n)):=(Fr.refl _ _).setCell _ (fun o _ q=>q rfl);exact ⟨fs.same _ _ h.pa (by omega),fs.same _ _ h.rs (by omega),⟨c,qx hc⟩,Below.setCell h.gr (show w.heap.size<=w.heap.size+2 by omega) _⟩
theorem stateR_any {z:Nat->UInt8} {wh:Bool} {fc:Nat->Bool} {b h g:Int} {PA:Array Value} (r:Row z wh fc b h g PA) (hC:Can z wh fc b) (hb0:-1<=b) (hb1:b<=63) (h0:0<=h) (h1:h<=65535) (g0:0<=g) (g1:g<=65535) (k0:0<=kingR z wh) (k1:kingR z wh<=63) (w:World) :
  Calls Tryz.prog 107 #[.agg PA] w fun e w'=>e=.returned (.agg (lookV z wh fc b))/\Gr w w':=by
 have hz:=r.size;have htu:=hide (fun W=>zn r W);obtain ⟨qs,qA⟩:=zw r;have hall:Hid (∀ W:World,Calls Tryz.prog 95 #[.agg PA] W fun e w'=>∃ v,e=.returned v/\Mrs W.heap.size v (allR z wh fc b) w'/\Gr W w'):=hide fun W=>allR_any r hC hb0 hb1 h0 h1 g0 g1 W
 have hlen:(allR z wh fc b).length=(movS z wh fc b).length:=by rw [all_same hC hb0 hb1];exact (xv _).length_eq
 have hlim:(movS z wh fc b).length<=20480:=by rw [<-hlen];exact upI_len _ _ _ _ 64
 have hKi:Hid (∀ W:World,Calls Tryz.prog 92 #[.agg (PA.toList.take 64).toArray,.int .i64 (sdb wh)] W fun e w'=>e=.returned (.int .i64 (kingR z wh))/\Gr W w'):=hide fun W=>qju _ _ qA wh W
 have hAt:Hid (∀ W:World,Calls Tryz.prog 91 #[.agg (PA.toList.take 64).toArray,.int .i64 (kingR z wh),.int .i64 (sdb (!wh))] W fun e w'=>e=.returned (.bool (chkS z wh))/\Gr W w'):=hide fun W=>by
  rw [chk_ref hC.ok k0 k1];exact jl _ _ qs qA _ k0 k1 (!wh) W
 have hng:Hid (IntKind.i64.wrap (-(sdb wh))=sdb (!wh)):=hide (by cases wh<;>decide)
 have hL:Hid (lookV z wh fc b=stateA (chkS z wh) ((movS z wh fc b).length:Int) (overN z (chkS z wh) ((movS z wh fc b).length:Int))):=hide rfl;have hdead:=hide (dead_ref hC.ok);have hsq:=hide (fun i hi=>r.sq i hi);have hS2:=st_start w PA;rw [<-hlen] at hL hlim;generalize lookV z wh fc b=V at hL ⊢;generalize kingR z wh=y at hKi hAt k0 k1;generalize chkS z wh=av at hAt hL;generalize allR z wh fc b=ys at hall hlen hL hlim;clear r hC hb0 hb1 h0 h1 g0 g1 qs qA hlen;go_enter Tryz.func107,Tryz.ntmps107;go_upto_region 2 with (refine wpList_store_row rfl 44 _ _ rfl (w.heap.size+2) (stateA false 0 0) rfl rfl 44 (stateA false 0 0) (heapThree w _ _ _).2.2.1 infoSt rfl (xa _ _ _) ?_);show Code.wp _ _ _ _ ((((w.alloc (.cells PA 25)).alloc (.cells (stateA false 0 0) 44)).alloc (.cells (stateA false 0 0) 44)).setRow (w.heap.size+2) (stateA false 0 0));generalize ((((w.alloc (.cells PA 25)).alloc (.cells (stateA false 0 0) 44)).alloc (.cells (stateA false 0 0) 44)).setRow (w.heap.size+2) (stateA false 0 0))=w2 at hS2 ⊢;have hrow:=hide (qv hS2.pa)
 go_upto_region 3 with (first
  | (go_at_call 95;refine (qa hall _).mono ?_;rintro e w3 ⟨v,rfl,hmr,hg3⟩;obtain ⟨pp,cap,rfl,hcap,hxx⟩:=mrs_form hmr;clear hxx hmr)
  | (refine ql (by rfl) _ rfl w.heap.size rfl hz (qa hrow) ?_))
 have hS3:=hS2.next hg3;obtain ⟨c3,hc3⟩:=hS3.st;have d1:w3.cell? ⟨w.heap.size+2,1,none⟩=some (.int .i64 0):=by rw [qm hc3];rfl
 have d2:w3.frozen? ⟨w.heap.size+2,1,none⟩=false:=xp hc3;have hS4:=hS3.num ((ys.length:Nat):Int);clear hS2 hg3 hrow hall hS3 hc3;go_upto_region 4 with fail;generalize w3.setCell ⟨w.heap.size+2,1,none⟩ (.int .i64 ((ys.length:Nat):Int))=w4 at hS4 ⊢;clear d1 d2;generalize ((ys.length:Nat):Int)=n at hS4 hL;have hHeld0:=hS4.next (Gr.refl _).drew;refine wp_region_held_drew (S:=Ss w PA n) (by kernel_rfl) hHeld0 (fun hHeld=>?_);clear hHeld0 hS4;refine C.tq 0 (.pointer (some ⟨w.heap.size,0,none⟩)) hHeld ?_;refine C.ty 1 (.agg (PA.toList.take 64).toArray) rfl (zx hz (by rfl) _ rfl w.heap.size rfl (fun _ h=>qv h.pa)) hHeld ?_;refine C.tq 2 (.pointer (some ⟨w.heap.size,0,none⟩)) hHeld ?_;refine C.ty 3 (.agg (PA.toList.take 64).toArray) rfl (zx hz (by rfl) _ rfl w.heap.size rfl (fun _ h=>qv h.pa)) hHeld ?_;refine C.ty 4 (.agg PA) rfl (zd hz (by rfl) _ rfl w.heap.size rfl (fun _ h=>qv h.pa)) hHeld ?_;refine C.ty 7 (.agg PA) rfl (zd hz (by rfl) _ rfl w.heap.size rfl (fun _ h=>qv h.pa)) hHeld ?_;refine C.rd 5 fun K hK=>?_
 go_simp;refine (qa htu _).mono ?_;rintro e wa1 ⟨rfl,hga1⟩;refine hK.out _ _ (hHeld.next hga1) (fun hHeld=>?_);clear hK K
 try simp only [C.py]
 refine C.rd 6 fun K hK=>?_
 go_simp;refine (qa hKi _).mono ?_;rintro e wa2 ⟨rfl,hga2⟩;refine hK.out _ _ (hHeld.next hga2) (fun hHeld=>?_);clear hK K
 try simp only [C.py]
 refine C.rd 8 fun K hK=>?_
 go_simp;refine (qa htu _).mono ?_;rintro e wa3 ⟨rfl,hga3⟩;refine hK.out _ _ (hHeld.next hga3) (fun hHeld=>?_);clear hK K
 try simp only [C.py]
 refine C.ty 9 (.int .i64 (sdb (!wh))) rfl (Or.inl ⟨by rfl,fun w _=>(by go_simp;exact qa hng)⟩) hHeld ?_;refine C.rd 10 fun K hK=>?_
 go_simp;refine (qa hAt _).mono ?_;rintro e wa4 ⟨rfl,hga4⟩;refine hK.out _ _ (hHeld.next hga4) (fun hHeld=>?_);clear hK K
 try simp only [C.py]
 refine C.tq 11 (.pointer (some ⟨w.heap.size+2,0,none⟩)) hHeld ?_;refine C.rd 12 fun K hK=>?_
 obtain ⟨c,hc⟩:=hHeld.st;have d0:wa4.cell? ⟨w.heap.size+2,0,none⟩=some (.bool c):=by rw [qm hc];rfl
 have d1:wa4.frozen? ⟨w.heap.size+2,0,none⟩=false:=xp hc;go_simp;refine hK.out _ _ (hHeld.set av) (fun hHeld=>?_);clear hK K
 try simp only [C.py]
 refine wpAnyH_done (by kernel_rfl) ?_ _;have hst5:(wa4.setCell ⟨w.heap.size+2,0,none⟩ (.bool av)).heap[w.heap.size+2]?=some (.cells (stateA av n 0) 44):=qx hc;have hS5:=hHeld;clear hHeld d0 d1 hc htu hKi hAt hng k0 k1;generalize wa4.setCell ⟨w.heap.size+2,0,none⟩ (.bool av)=w5 at hst5 hS5 ⊢;have hcl:Hid (∀ k,k<64->w5.cell? ⟨w.heap.size,k,none⟩=some (.int .u8 ((z k).toNat:Int))):=hide fun k hk=>by rw [qm hS5.pa];exact qa hsq k hk
 have c0:w5.cell? ⟨w.heap.size+2,0,none⟩=some (.bool av):=by rw [qm hst5];rfl
 have c1:w5.cell? ⟨w.heap.size+2,1,none⟩=some (.int .i64 n):=by rw [qm hst5];rfl
 have c2:w5.cell? ⟨w.heap.size+2,2,none⟩=some (.int .i64 0):=by rw [qm hst5];rfl
 have f2:w5.frozen? ⟨w.heap.size+2,2,none⟩=false:=xp hst5;have hst5':=hide hst5;have hrs5:=hide hS5.rs;have hgr5:=hide hS5.gr;have hstO:Hid (∀ o:Int,(w5.setCell ⟨w.heap.size+2,2,none⟩ (.int .i64 o)).heap[w.heap.size+2]?=some (.cells (stateA av n o) 44)):=hide fun o=>qx hst5
 have hrsO:Hid (∀ o:Int,(w5.setCell ⟨w.heap.size+2,2,none⟩ (.int .i64 o)).heap[w.heap.size+1]?=some (.cells (stateA false 0 0) 44)):=hide fun o=>by
  have fs:Fr (fun k _=>k≠w.heap.size+2) w5 (w5.setCell ⟨w.heap.size+2,2,none⟩ (.int .i64 o)):=(Fr.refl _ _).setCell _ (fun o _ q=>q rfl);exact fs.same _ _ hS5.rs (by omega)
 have hgrO:Hid (∀ o:Int,Gr w (w5.setCell ⟨w.heap.size+2,2,none⟩ (.int .i64 o))):=hide fun o=>Below.setCell hS5.gr (show w.heap.size<=w.heap.size+2 by omega) _
 clear hS5 hst5 hsq;go_wp2_with fail;go_loopg [5,6,7] 64 (fun g l hv i wr=>∃ k:Nat,k+g=64/\i=.int .i64 k/\l=.int .i64 (ltN z k:Nat)/\hv=.int .i64 (hvN z k:Nat)/\wr=w5)
 case atStart=>exact ⟨0,rfl,rfl,rfl,rfl,rfl⟩
 case round =>
  obtain ⟨k,k1,rfl,rfl,rfl,hww⟩:=hrel;have hww':=hww.symm;subst hww';clear hww;by_cases hlt:k<64
  ·have hck:=qa hcl k hlt;have hk0:(0:Int)<=(k:Int):=by omega
   have hk6:(k:Int)<64:=by omega
   have b1:=ltN_le z k;have b2:=hvN_le z k;have hl:=ltN_succ z k;have hh:=hvN_succ z k;have hkd:=hide (fun W=>zu (z k) W);rw [lgt_c] at hl;unfold hvyC at hh;rcases kd_bd (z k) with e|e|e|e|e|e|e
   all_goals
    rw [e] at hl hh hkd;simp at hl hh;have hl2:=hide hl;have hh2:=hide hh;clear hl hh e hL hdead c0 c1 c2 f2;go_wp2_with (go_at_call 86;refine (qa hkd _).mono ?_;rintro e' w' ⟨rfl,hw⟩;have hw':=hw.symm;subst hw';clear hw);go_roundg (gk-1)
    case measure=>omega
    case rel=>exact ⟨k+1,by omega,by go_num,by rw [qa hl2]<;>go_num,by rw [qa hh2]<;>go_num,rfl⟩
  ·have ek:k=64:=by omega
   subst ek;clear hlt hcl;obtain ⟨x1,hx1⟩:∃ c,(((hvN z 64:Nat):Int)==0)=c:=⟨_,rfl⟩;obtain ⟨x2,hx2⟩:∃ c,decide (((ltN z 64:Nat):Int)<=1)=c:=⟨_,rfl⟩;obtain ⟨n0,hn0⟩:∃ c,(n==0)=c:=⟨_,rfl⟩;have hd2:Hid (deadB z=(x1&&x2)):=hide (by rw [qa hdead,hx2,<-hx1];rfl);cases n0
   ·have en:Hid (¬ n=0):=hide (by intro h;rw [h] at hn0;cases hn0);cases x1
    ·skip
     have hV:Hid (V=stateA av n 0):=hide (by rw [qa hL];unfold overN;rw [if_neg (qa en),qa hd2];rfl);clear hL hdead
     go_wp2_with (first
      | (refine wpList_load_row rfl 44 _ rfl (w.heap.size+2) rfl 44 (stateA av n 0) (0,0) _ (qa hst5') Tryz.underlying44 rfl infoSt ?_)
      | (refine wpList_store_row rfl 44 _ _ rfl (w.heap.size+1) (stateA av n 0) rfl rfl 44 (stateA false 0 0) (qa hrs5) infoSt rfl (xa _ _ _) ?_))
     exact bodyPost_ret (v:=.agg (stateA av n 0)) (results_cell_row Tryz.results107 _ _ (w.heap.size+1) 44 (stateA av n 0) (0,0) _ rfl (setRow_heap _ _ _ _ _ _ (qa hrs5)) Tryz.underlying44 rfl infoSt) rfl ⟨by rw [qa hV],Gr.setRow (qa hgr5) _ (by omega) _⟩
    ·cases x2
     ·skip
      have hV:Hid (V=stateA av n 0):=hide (by rw [qa hL];unfold overN;rw [if_neg (qa en),qa hd2];rfl);clear hL hdead
      go_wp2_with (first
       | (refine wpList_load_row rfl 44 _ rfl (w.heap.size+2) rfl 44 (stateA av n 0) (0,0) _ (qa hst5') Tryz.underlying44 rfl infoSt ?_)
       | (refine wpList_store_row rfl 44 _ _ rfl (w.heap.size+1) (stateA av n 0) rfl rfl 44 (stateA false 0 0) (qa hrs5) infoSt rfl (xa _ _ _) ?_))
      exact bodyPost_ret (v:=.agg (stateA av n 0)) (results_cell_row Tryz.results107 _ _ (w.heap.size+1) 44 (stateA av n 0) (0,0) _ rfl (setRow_heap _ _ _ _ _ _ (qa hrs5)) Tryz.underlying44 rfl infoSt) rfl ⟨by rw [qa hV],Gr.setRow (qa hgr5) _ (by omega) _⟩
     ·skip
      have hV:Hid (V=stateA av n 3):=hide (by rw [qa hL];unfold overN;rw [if_neg (qa en),qa hd2];rfl);clear hL hdead
      go_wp2_with (first
       | (refine wpList_load_row rfl 44 _ rfl (w.heap.size+2) rfl 44 (stateA av n 3) (0,0) _ (qa hstO 3) Tryz.underlying44 rfl infoSt ?_)
       | (refine wpList_store_row rfl 44 _ _ rfl (w.heap.size+1) (stateA av n 3) rfl rfl 44 (stateA false 0 0) (qa hrsO 3) infoSt rfl (xa _ _ _) ?_))
      exact bodyPost_ret (v:=.agg (stateA av n 3)) (results_cell_row Tryz.results107 _ _ (w.heap.size+1) 44 (stateA av n 3) (0,0) _ rfl (setRow_heap _ _ _ _ _ _ (qa hrsO 3)) Tryz.underlying44 rfl infoSt) rfl ⟨by rw [qa hV],Gr.setRow (qa hgrO 3) _ (by omega) _⟩
   ·have en:Hid (n=0):=hide (by simpa using hn0);clear hx1 hx2;cases av
    ·skip
     have hV:Hid (V=stateA false n 2):=hide (by rw [qa hL];unfold overN;rw [if_pos (qa en)];rfl);clear hL hdead
     go_wp2_with (first
      | (refine wpList_load_row rfl 44 _ rfl (w.heap.size+2) rfl 44 (stateA false n 2) (0,0) _ (qa hstO 2) Tryz.underlying44 rfl infoSt ?_)
      | (refine wpList_store_row rfl 44 _ _ rfl (w.heap.size+1) (stateA false n 2) rfl rfl 44 (stateA false 0 0) (qa hrsO 2) infoSt rfl (xa _ _ _) ?_))
     exact bodyPost_ret (v:=.agg (stateA false n 2)) (results_cell_row Tryz.results107 _ _ (w.heap.size+1) 44 (stateA false n 2) (0,0) _ rfl (setRow_heap _ _ _ _ _ _ (qa hrsO 2)) Tryz.underlying44 rfl infoSt) rfl ⟨by rw [qa hV],Gr.setRow (qa hgrO 2) _ (by omega) _⟩
    ·skip
     have hV:Hid (V=stateA true n 1):=hide (by rw [qa hL];unfold overN;rw [if_pos (qa en)];rfl);clear hL hdead
     go_wp2_with (first
      | (refine wpList_load_row rfl 44 _ rfl (w.heap.size+2) rfl 44 (stateA true n 1) (0,0) _ (qa hstO 1) Tryz.underlying44 rfl infoSt ?_)
      | (refine wpList_store_row rfl 44 _ _ rfl (w.heap.size+1) (stateA true n 1) rfl rfl 44 (stateA false 0 0) (qa hrsO 1) infoSt rfl (xa _ _ _) ?_))
     exact bodyPost_ret (v:=.agg (stateA true n 1)) (results_cell_row Tryz.results107 _ _ (w.heap.size+1) 44 (stateA true n 1) (0,0) _ rfl (setRow_heap _ _ _ _ _ _ (qa hrsO 1)) Tryz.underlying44 rfl infoSt) rfl ⟨by rw [qa hV],Gr.setRow (qa hgrO 1) _ (by omega) _⟩
theorem err_no {s t:ByteArray} {k:Int} {p:Pos} {x:Mv} (h:ErrK s t k) (hr:readS s=some p) (hcan:posCan p=true) (hm:mvR t=some x) (hx:x∈movS (posZ p) p.white p.castle p.behind):False:=by
 rcases h with (⟨_,a⟩|⟨_,q,a,b⟩)|⟨_,q,a,_,c⟩|⟨_,q,y,a,_,c,d⟩
 ·rw [hr] at a;cases a
 ·rw [hr] at a;rw [<-Option.some.inj a,hcan] at b;cases b
 ·rw [hm] at c;cases c
 ·rw [hr] at a;rw [hm] at c;rw [<-Option.some.inj a,<-Option.some.inj c] at d;exact d hx
theorem err_one {s t:ByteArray} {k k':Int} (h:ErrK s t k) (h':ErrK s t k'):k=k':=by
 rcases h with (⟨e,a⟩|⟨e,q,a,b⟩)|⟨e,q,a,b,c⟩|⟨e,q,y,a,b,c,d⟩<;>rcases h' with (⟨e',a'⟩|⟨e',q',a',b'⟩)|⟨e',q',a',b',c'⟩|⟨e',q',y',a',b',c',d'⟩<;>first|(rw [e,e'];done)|(exfalso;rw [a] at a';first|(cases a';done)|(have a2:=Option.some.inj a';subst a2;first|(rw [b] at b';cases b';done)|(rw [c] at c';cases c')))
theorem play_one (s t:ByteArray):∃ (S:ByteArray) (k:Int),∀ e,PlayEnd s t e->e=.returned (.tuple #[.string S,.int .i64 k]):=by
 rcases qvc s t with ⟨p,x,hr,hcan,hm,hx,_⟩|⟨k,hk,herr,_⟩
 ·refine ⟨⟨(afW p x).toArray⟩,0,fun e h=>?_⟩;rcases h with ⟨k,hk,herr,rfl⟩|⟨q,y,a,b,c,d,rfl⟩
  ·exact (err_no herr hr hcan hm hx).elim
  ·rw [hr] at a;rw [hm] at c;rw [<-Option.some.inj a,<-Option.some.inj c]
 ·refine ⟨⟨#[]⟩,k,fun e h=>?_⟩;rcases h with ⟨k',hk',herr',rfl⟩|⟨q,y,a,b,c,d,rfl⟩
  ·rw [err_one herr herr']
  ·exact (err_no herr a b c d).elim
theorem pd_split (s t:ByteArray):(∃ p x,readS s=some p/\posCan p=true/\mvR t=some x/\x∈movS (posZ p) p.white p.castle p.behind/\∀ e,PdEnd s t e->∃ Q,Row (plZ (posZ p) p.behind x) (!p.white) (cfA p.castle x.1 x.2.1 4) (behA (posZ p) x.1 x.2.1) (halA (posZ p) x.1 x.2.1 p.half) (fulA p.white p.full) Q/\e=.returned (.tuple #[.agg (posV p),.agg (mvA x),.agg Q,.int .i64 0])) ∨
  (∃ k,k≠0/\ErrK s t k/\∀ e,PdEnd s t e->∃ P M Q,P.size=72/\M.size=3/\Q.size=72/\P.all (·.oneCell')=true/\M.all (·.oneCell')=true/\Q.all (·.oneCell')=true/\e=.returned (.tuple #[.agg P,.agg M,.agg Q,.int .i64 k])):=by
 rcases qvc s t with ⟨p,x,hr,hcan,hm,hx,_⟩|⟨k,hk,herr,_⟩
 ·refine .inl ⟨p,x,hr,hcan,hm,hx,fun e h=>?_⟩;rcases h with ⟨k,P,M,Q,hk,herr,_⟩|⟨q,y,Q,a,b,c,d,hQ,rfl⟩
  ·exact (err_no herr hr hcan hm hx).elim
  ·rw [hr] at a;rw [hm] at c;have ea:=Option.some.inj a;have ec:=Option.some.inj c;subst ea ec;exact ⟨Q,hQ,rfl⟩
 ·refine .inr ⟨k,hk,herr,fun e h=>?_⟩;rcases h with ⟨k',P,M,Q,hk',herr',a1,a2,a3,a4,a5,a6,rfl⟩|⟨q,y,Q,a,b,c,d,hQ,rfl⟩
  ·exact ⟨P,M,Q,a1,a2,a3,a4,a5,a6,by rw [err_one herr herr']⟩
  ·exact (err_no herr a b c d).elim
noncomputable def pw3 (w3:World) (A M Q:Array Value):World:=(((((w3.alloc (.cells Tryz.zeroCells25 25)).alloc (.cells zMv 171)).alloc (.cells Tryz.zeroCells25 25)).setRow w3.heap.size A).setRow (w3.heap.size+1) M).setRow (w3.heap.size+2) Q
theorem pw3_gr (w3:World) (A M Q:Array Value):Gr w3 (pw3 w3 A M Q):=((((((Gr.refl w3).alloc _ _).alloc _ _).alloc _ _).setRow _ (Nat.le_refl _) _).setRow _ (by omega) _).setRow _ (by omega) _
theorem pw3_at (w3:World) (A M Q:Array Value):(pw3 w3 A M Q).heap[w3.heap.size+2]?=some (.cells Q 25) :=
 setRow_heap _ _ _ _ _ _ (by rw [setRow_other _ _ _ _ (by omega),setRow_other _ _ _ _ (by omega)];exact (heapThree w3 _ _ _).2.2.1)
theorem playR_any (s t:ByteArray) (hs:s.size<4294967281) (w:World):Calls Tryz.prog 48 #[.string s,.string t] w fun e w'=>PlayEnd s t e/\Gr w w':=by
 have h1:=hide (played_any s t hs w);rcases pd_split s t with ⟨p,x,hr,hcan,hm,hx,hone⟩|⟨k,hk,herr,hone⟩
 ·have h2:Hid (Calls Tryz.prog 106 #[.string s,.string t] w fun e w'=>(∃ Q,Row (plZ (posZ p) p.behind x) (!p.white) (cfA p.castle x.1 x.2.1 4) (behA (posZ p) x.1 x.2.1) (halA (posZ p) x.1 x.2.1 p.half) (fulA p.white p.full) Q/\e=.returned (.tuple #[.agg (posV p),.agg (mvA x),.agg Q,.int .i64 0]))/\Gr w w'):=hide ((qa h1).mono fun e w' h=>⟨hone e h.1,h.2⟩);have hend:Hid (PlayEnd s t (.returned (.tuple #[.string ⟨(afW p x).toArray⟩,.int .i64 0]))):=hide (.inr ⟨p,x,hr,hcan,hm,hx,rfl⟩);have hok:=qvn _ _ _ _ x hx;obtain ⟨c0,c1,c2,c3⟩:=qx9 hcan;obtain ⟨q1,q2,q3,q4,q5⟩:=qva (posZ p) x.1 x.2.1 hok.1 hok.2 c0 (wh:=p.white) c2 c3;have htx:Hid (∀ Q,Row (plZ (posZ p) p.behind x) (!p.white) (cfA p.castle x.1 x.2.1 4) (behA (posZ p) x.1 x.2.1) (halA (posZ p) x.1 x.2.1 p.half) (fulA p.white p.full) Q->∀ W,Calls Tryz.prog 41 #[.agg Q] W fun e w'=>e=.returned (.string ⟨(afW p x).toArray⟩)/\Gr W w'):=hide (fun Q hQ W=>text_any hQ q1 ⟨q2,q3⟩ ⟨q4,q5⟩ W);have hrow:=jf hr;have hz:=hrow.size;have ho:=hide (qy hrow);have hmo:=hide (zq x);have hmz:(mvA x).size=3:=rfl;generalize (⟨(afW p x).toArray⟩:ByteArray)=S at hend htx;generalize posV p=A at h2 hz ho;generalize mvA x=M at h2 hmo hmz;clear h1 hone hr hcan hm hx hok c0 c1 c2 c3 hrow q1 q2 q3 q4 q5 hs;go_enter Tryz.func48,Tryz.ntmps48
  go_upto_region 2 with (first
   | (go_at_call 106;refine (qa h2).mono ?_;rintro e w3 ⟨⟨Q,hQ,rfl⟩,hg3⟩;obtain ⟨y1,y2,y3,y4⟩:=heapThree w3 (.cells Tryz.zeroCells25 25) (.cells #[.int .i64 0,.int .i64 0,.int .u8 0] 171) (.cells Tryz.zeroCells25 25);have hqz:=hQ.size;have hqo:=hide (qy hQ);have hQ':=hide hQ;clear hQ)
   | (refine wpList_store_row rfl 25 _ _ rfl (w3.heap.size+2) Q rfl rfl 25 Tryz.zeroCells25 (by rw [setRow_other _ _ _ _ (by omega),setRow_other _ _ _ _ (by omega)];with_reducible exact y3) (by rw [hqz];exact infoP) (by rw [hqz];exact zeroP.symm) (qa hqo) ?_)
   | (refine wpList_store_row rfl 171 _ _ rfl (w3.heap.size+1) M rfl rfl 171 #[.int .i64 0,.int .i64 0,.int .u8 0] (by rw [setRow_other _ _ _ _ (by omega)];with_reducible exact y2) (by rw [hmz];exact infoMr3) (by rw [hmz];rfl) (qa hmo) ?_)
   | (refine wpList_store_row rfl 25 _ _ rfl w3.heap.size A rfl rfl 25 Tryz.zeroCells25 (by with_reducible exact y1) (by rw [hz];exact infoP) (by rw [hz];exact zeroP.symm) (qa ho) ?_))
  show Code.wp _ _ _ _ (pw3 w3 A M Q);have hg4:=pw3_gr w3 A M Q;have hb3:=pw3_at w3 A M Q;generalize pw3 w3 A M Q=w4 at hg4 hb3 ⊢;generalize w3.heap.size+2=b3 at hb3 ⊢;have hrw:=hide (qv hb3);have hgw:=hide (Gr.trans hg3 hg4);clear hg3 hg4 hb3 h2
  go_wp2_with (first
   | (go_at_call 41;refine (qa htx _ (qa hQ') _).mono ?_;rintro e w5 ⟨rfl,hg5⟩)
   | (refine ql (by rfl) _ rfl b3 rfl hqz (qa hrw) ?_))
  go_ret2;exact ⟨qa hend,Gr.trans (qa hgw) hg5⟩
 ·have h2:Hid (Calls Tryz.prog 106 #[.string s,.string t] w fun e w'=>(∃ P M Q,P.size=72/\M.size=3/\Q.size=72/\P.all (·.oneCell')=true/\M.all (·.oneCell')=true/\Q.all (·.oneCell')=true/\e=.returned (.tuple #[.agg P,.agg M,.agg Q,.int .i64 k]))/\Gr w w'):=hide ((qa h1).mono fun e w' h=>⟨hone e h.1,h.2⟩);have hend:Hid (PlayEnd s t (.returned (.tuple #[.string ⟨#[]⟩,.int .i64 k]))):=hide (.inl ⟨k,hk,herr,rfl⟩);have k2:(k != 0)=true:=by rw [bne_iff_ne];exact hk
  clear h1 hone hk herr hs;go_enter Tryz.func48,Tryz.ntmps48
  go_upto_region 2 with (first
   | (go_at_call 106;refine (qa h2).mono ?_;rintro e w3 ⟨⟨A,M,Q,hz,hmz,hqz,ho,hmo,hqo,rfl⟩,hg3⟩;obtain ⟨y1,y2,y3,y4⟩:=heapThree w3 (.cells Tryz.zeroCells25 25) (.cells #[.int .i64 0,.int .i64 0,.int .u8 0] 171) (.cells Tryz.zeroCells25 25);have ho':=hide ho;have hmo':=hide hmo;have hqo':=hide hqo;clear ho hmo hqo)
   | (refine wpList_store_row rfl 25 _ _ rfl (w3.heap.size+2) Q rfl rfl 25 Tryz.zeroCells25 (by rw [setRow_other _ _ _ _ (by omega),setRow_other _ _ _ _ (by omega)];with_reducible exact y3) (by rw [hqz];exact infoP) (by rw [hqz];exact zeroP.symm) (qa hqo') ?_)
   | (refine wpList_store_row rfl 171 _ _ rfl (w3.heap.size+1) M rfl rfl 171 #[.int .i64 0,.int .i64 0,.int .u8 0] (by rw [setRow_other _ _ _ _ (by omega)];with_reducible exact y2) (by rw [hmz];exact infoMr3) (by rw [hmz];rfl) (qa hmo') ?_)
   | (refine wpList_store_row rfl 25 _ _ rfl w3.heap.size A rfl rfl 25 Tryz.zeroCells25 (by with_reducible exact y1) (by rw [hz];exact infoP) (by rw [hz];exact zeroP.symm) (qa ho') ?_))
  show Code.wp _ _ _ _ (pw3 w3 A M Q);have hg4:=pw3_gr w3 A M Q;generalize pw3 w3 A M Q=w4 at hg4 ⊢;have hgw:=hide (Gr.trans hg3 hg4);clear hg3 hg4 h2;go_wp2_with fail;go_ret2;exact ⟨qa hend,qa hgw⟩
theorem playsL_any (s t:ByteArray) (hs:s.size<4294967281) (ht:t.size<4294967281) (m:Int) (w:World) (hc:Ct m w) (htb:Tabs w) (hpw:Tab w):Calls Tryz.prog 22 #[.string s,.string t] w fun e w'=>e=.returned (.bool true)/\Gr w w':=by
 obtain ⟨S,k,hone⟩:=play_one s t;have h1:Hid (Calls Tryz.prog 24 #[.string s,.string t] w fun e w'=>e=.returned (.tuple #[.string S,.int .i64 k])/\Gr w w'):=hide ((rookPlay_any s t hs ht m w hc htb hpw).mono fun e w' h=>⟨hone e h.1,h.2⟩);have h2:Hid (∀ W,Calls Tryz.prog 48 #[.string s,.string t] W fun e w'=>e=.returned (.tuple #[.string S,.int .i64 k])/\Gr W w'):=hide (fun W=>(playR_any s t hs W).mono fun e w' h=>⟨hone e h.1,h.2⟩);have q1:(S.toList==S.toList)=true:=by simp
 clear hc htb hpw hone hs ht;go_enter Tryz.func22,Tryz.ntmps22;go_upto_region 2 with (go_at_call 24;refine (qa h1).mono ?_;rintro e w1 ⟨rfl,hg1⟩);go_upto_region 3 with (go_at_call 48;refine (qa h2 _).mono ?_;rintro e w2 ⟨rfl,hg2⟩);have hg:=hide (Gr.trans hg1 hg2);clear h1 h2 hg1 hg2;go_wp2_with (go_at_call 16;refine (num_any _ _).mono ?_;rintro e w' ⟨rfl,hww⟩;have hww':=hww.symm;subst hww';clear hww);go_ret;exact ⟨rfl,qa hg⟩
end Go.Proofs.YtnfakamfmkhlbaaGreatDoor.C
namespace Go.Proofs.YtnfakamfmkhlbaaGreatDoor.C
open Go.ChangeShapes Go.WideShapes Go.ChangeAt Go.RowKit Go.Shelf
open Go.Proofs.YtnfakamfmkhlbaaGreatDoor.P
attribute [local go_sem] qd qi Oper.semAt_some
theorem lookR_any (s:ByteArray) (hs:s.size<4294967281) (w:World):Calls Tryz.prog 49 #[.string s] w fun e w'=>LookEnd s e/\Gr w w':=by
 have hg0:Gr w (w.alloc (.cells #[.bool false,.int .i64 0,.int .i64 0] 44)):=(Gr.refl w).alloc _ _;have hst0:=heap_alloc_new w (.cells #[.bool false,.int .i64 0,.int .i64 0] 44);have h1:Hid (∀ W,Calls Tryz.prog 38 #[.string s] W fun e w'=>ParseEnd s e/\Gr W w'):=hide (fun W=>qzy s hs W);rcases xu s with ⟨p,hr,hcan,hone⟩|⟨k,hk,hbad,hone⟩
 ·have h2:Hid (∀ W,Calls Tryz.prog 38 #[.string s] W fun e w'=>e=.returned (.tuple #[.agg (posV p),.int .i64 0])/\Gr W w'):=hide (fun W=>(qa h1 W).mono fun e w' h=>⟨hone e h.1,h.2⟩);have hrow:=jf hr;have hz:=hrow.size;have ho:=hide (qy hrow);obtain ⟨hC,hb0,hb1⟩:=qqs hr hcan;obtain ⟨c0,c1,c2,c3⟩:=qx9 hcan;obtain ⟨k0,k1⟩:=pos_king hr hcan;have hsta:Hid (∀ W:World,Calls Tryz.prog 107 #[.agg (posV p)] W fun e w'=>e=.returned (.agg (lookV (posZ p) p.white p.castle p.behind))/\Gr W w'):=hide (fun W=>stateR_any hrow hC hb0 hb1 c0 c1 c2 c3 k0 k1 W);have hend:Hid (LookEnd s (.returned (.tuple #[.agg (lookV (posZ p) p.white p.castle p.behind),.int .i64 0]))):=hide (.inr ⟨p,hr,hcan,rfl⟩);obtain ⟨LV,hLV,hLs,hLo⟩:∃ LV,LV=lookV (posZ p) p.white p.castle p.behind/\LV.size=3/\Hid (LV.all (·.oneCell')=true):=⟨_,rfl,rfl,hide (xa _ _ _)⟩;rw [<-hLV] at hsta hend;generalize posV p=A at h2 hz ho hsta;clear h1 hone hrow hr hcan hC hb0 hb1 c0 c1 c2 c3 k0 k1 hs hLV;go_enter Tryz.func49,Tryz.ntmps49;go_upto_region 1 with fail;generalize w.alloc (.cells #[.bool false,.int .i64 0,.int .i64 0] 44)=w0 at hg0 hst0 ⊢
  go_upto_region 4 with (first
   | (go_at_call 38;refine (qa h2 _).mono ?_;rintro e w3 ⟨rfl,hg3⟩;have y1:=heap_alloc_new w3 (.cells Tryz.zeroCells25 25))
   | (refine wpList_store_row rfl 25 _ _ rfl w3.heap.size A rfl rfl 25 Tryz.zeroCells25 (by with_reducible exact y1) (by rw [hz];exact infoP) (by rw [hz];exact zeroP.symm) (qa ho) ?_))
  have hg4:Gr w3 ((w3.alloc (.cells Tryz.zeroCells25 25)).setRow w3.heap.size A):=((Gr.refl w3).alloc _ _).setRow _ (Nat.le_refl _) _;have hb4:((w3.alloc (.cells Tryz.zeroCells25 25)).setRow w3.heap.size A).heap[w3.heap.size]?=some (.cells A 25):=setRow_heap _ _ _ _ _ _ y1;generalize (w3.alloc (.cells Tryz.zeroCells25 25)).setRow w3.heap.size A=w4 at hg4 hb4 ⊢;generalize w3.heap.size=b1 at hb4 ⊢;have hg04:=Gr.trans hg3 hg4;have hrs4:=(Below.block hg04 _ (xc hst0)).trans hst0;have hgw:=Gr.trans hg0 hg04;have hrw:=hide (qv hb4);clear hg3 hg4 hg04 hg0 hst0 hb4 y1 h2
  go_upto_region 5 with (first
   | (go_at_call 107;refine (qa hsta _).mono ?_;rintro e w5 ⟨rfl,hg5⟩;have y2:=heap_alloc_new w5 (.cells #[.bool false,.int .i64 0,.int .i64 0] 44))
   | (refine wpList_store_row rfl 44 _ _ rfl w5.heap.size LV rfl rfl 44 #[.bool false,.int .i64 0,.int .i64 0] (by with_reducible exact y2) (by rw [hLs];exact infoSt) (by rw [hLs];rfl) (qa hLo) ?_)
   | (refine ql (by rfl) _ rfl b1 rfl hz (qa hrw) ?_))
  have hg6:Gr w5 ((w5.alloc (.cells #[.bool false,.int .i64 0,.int .i64 0] 44)).setRow w5.heap.size LV):=((Gr.refl w5).alloc _ _).setRow _ (Nat.le_refl _) _;have hb6:((w5.alloc (.cells #[.bool false,.int .i64 0,.int .i64 0] 44)).setRow w5.heap.size LV).heap[w5.heap.size]?=some (.cells LV 44):=setRow_heap _ _ _ _ _ _ y2;generalize (w5.alloc (.cells #[.bool false,.int .i64 0,.int .i64 0] 44)).setRow w5.heap.size LV=w6 at hg6 hb6 ⊢;generalize w5.heap.size=b2 at hb6 ⊢;have hg46:=Gr.trans hg5 hg6;have hrs6:=(Below.block hg46 _ (xc hrs4)).trans hrs4;have hgf:=hide (Gr.trans hgw hg46);clear hg5 hg6 hg46 hrs4 hgw hrw y2 hsta
  go_wp2_with (first
   | (refine wpList_load_row rfl 44 _ rfl b2 rfl 44 LV (0,0) _ (by with_reducible exact hb6) Tryz.underlying44 rfl (by rw [hLs];exact infoSt) ?_)
   | (refine wpList_store_row rfl 44 _ _ rfl w.heap.size LV rfl rfl 44 #[.bool false,.int .i64 0,.int .i64 0] (by with_reducible exact hrs6) (by rw [hLs];exact infoSt) (by rw [hLs];rfl) (qa hLo) ?_))
  exact bodyPost_ret (v:=.tuple #[.agg LV,.int .i64 0]) (qj Tryz.results49 _ _ w.heap.size 44 _ (0,0) _ rfl (setRow_heap _ _ _ _ _ _ hrs6) Tryz.underlying44 rfl (by rw [hLs];exact infoSt)) rfl ⟨qa hend,(qa hgf).setRow _ (Nat.le_refl _) _⟩
 ·have h2:Hid (∀ W,Calls Tryz.prog 38 #[.string s] W fun e w'=>e=.returned (.tuple #[.agg Tryz.zeroCells25,.int .i64 k])/\Gr W w'):=hide (fun W=>(qa h1 W).mono fun e w' h=>⟨hone e h.1,h.2⟩);have hend:Hid (LookEnd s (.returned (.tuple #[.agg (stateA false 0 0),.int .i64 k]))):=hide (.inl ⟨k,hbad,rfl⟩);have k2:(k != 0)=true:=by rw [bne_iff_ne];exact hk
  clear h1 hone hbad hk hs;go_enter Tryz.func49,Tryz.ntmps49;go_upto_region 1 with fail;generalize w.alloc (.cells #[.bool false,.int .i64 0,.int .i64 0] 44)=w0 at hg0 hst0 ⊢
  go_upto_region 2 with (first
   | (go_at_call 38;refine (qa h2 _).mono ?_;rintro e w3 ⟨rfl,hg3⟩;have y1:=heap_alloc_new w3 (.cells Tryz.zeroCells25 25))
   | (refine wpList_store_row rfl 25 _ _ rfl w3.heap.size Tryz.zeroCells25 rfl rfl 25 Tryz.zeroCells25 (by with_reducible exact y1) (by rw [zeroP];exact infoP) rfl zeroP_ones ?_))
  have hg4:Gr w3 ((w3.alloc (.cells Tryz.zeroCells25 25)).setRow w3.heap.size Tryz.zeroCells25):=((Gr.refl w3).alloc _ _).setRow _ (Nat.le_refl _) _;generalize (w3.alloc (.cells Tryz.zeroCells25 25)).setRow w3.heap.size Tryz.zeroCells25=w4 at hg4 ⊢;have hg04:=Gr.trans hg3 hg4;have hrs6:=(Below.block hg04 _ (xc hst0)).trans hst0;have hgf:=hide (Gr.trans hg0 hg04);clear hg3 hg4 hg04 hg0 hst0 y1 h2;go_wp2_with (refine wpList_store_row rfl 44 _ _ rfl w.heap.size #[.bool false,.int .i64 0,.int .i64 0] rfl rfl 44 #[.bool false,.int .i64 0,.int .i64 0] (by with_reducible exact hrs6) infoSt rfl (xa false 0 0) ?_);exact bodyPost_ret (v:=.tuple #[.agg (stateA false 0 0),.int .i64 k]) (qj Tryz.results49 _ _ w.heap.size 44 _ (0,0) _ rfl (setRow_heap _ _ _ _ _ _ hrs6) Tryz.underlying44 rfl infoSt) rfl ⟨qa hend,(qa hgf).setRow _ (Nat.le_refl _) _⟩
theorem look_one (s:ByteArray):∃ (c:Bool) (n o k:Int),∀ e,LookEnd s e->e=.returned (.tuple #[.agg #[.bool c,.int .i64 n,.int .i64 o],.int .i64 k]):=by
 rcases xu s with ⟨p,hr,hcan,_⟩|⟨k,hk,hbad,_⟩
 ·refine ⟨chkS (posZ p) p.white,((movS (posZ p) p.white p.castle p.behind).length:Int),overN (posZ p) (chkS (posZ p) p.white) ((movS (posZ p) p.white p.castle p.behind).length:Int),0,fun e h=>?_⟩;rcases h with ⟨k,a,_⟩|⟨q,a,b,rfl⟩
  ·exfalso
   rcases a with ⟨_,a⟩|⟨_,q,a,b⟩
   ·rw [hr] at a;cases a
   ·rw [hr] at a;rw [<-Option.some.inj a,hcan] at b;cases b
  ·rw [hr] at a;rw [<-Option.some.inj a];rfl
 ·refine ⟨false,0,0,k,fun e h=>?_⟩;rcases h with ⟨k',a,rfl⟩|⟨q,a,b,rfl⟩
  ·rw [err_one (t:=⟨#[]⟩) (.inl hbad) (.inl a)];rfl
  ·exfalso
   rcases hbad with ⟨_,c⟩|⟨_,r,c,d⟩
   ·rw [c] at a;cases a
   ·rw [c] at a;rw [<-Option.some.inj a,d] at b;cases b
theorem looksL_any (s:ByteArray) (hs:s.size<4294967281) (m:Int) (w:World) (hc:Ct m w) (htb:Tabs w):Calls Tryz.prog 23 #[.string s] w fun e w'=>e=.returned (.bool true)/\Gr w w':=by
 obtain ⟨c,n,o,k,hone⟩:=look_one s;have h1:Hid (Calls Tryz.prog 21 #[.string s] w fun e w'=>e=.returned (.tuple #[.agg #[.bool c,.int .i64 n,.int .i64 o],.int .i64 k])/\Gr w w'):=hide ((rookLook_any s hs (fun p a b=>pos_king a b) m w hc htb).mono fun e w' h=>⟨hone e h.1,h.2⟩);have h2:Hid (∀ W,Calls Tryz.prog 49 #[.string s] W fun e w'=>e=.returned (.tuple #[.agg #[.bool c,.int .i64 n,.int .i64 o],.int .i64 k])/\Gr W w'):=hide (fun W=>(lookR_any s hs W).mono fun e w' h=>⟨hone e h.1,h.2⟩);clear hc htb hone hs;go_enter Tryz.func23,Tryz.ntmps23;go_upto_region 2 with (go_at_call 21;refine (qa h1).mono ?_;rintro e w1 ⟨rfl,hg1⟩);have hg2:Gr w1 (w1.alloc (.cells #[.bool c,.int .i64 n,.int .i64 o] 44)):=(Gr.refl w1).alloc _ _;have hb2:=heap_alloc_new w1 (.cells #[.bool c,.int .i64 n,.int .i64 o] 44);show Code.wp _ _ _ _ (w1.alloc (.cells #[.bool c,.int .i64 n,.int .i64 o] 44));generalize w1.alloc (.cells #[.bool c,.int .i64 n,.int .i64 o] 44)=w2 at hg2 hb2 ⊢;generalize w1.heap.size=b1 at hb2 ⊢;go_upto_region 3 with (go_at_call 49;refine (qa h2 _).mono ?_;rintro e w3 ⟨rfl,hg3⟩);have hg4:Gr w3 (w3.alloc (.cells #[.bool c,.int .i64 n,.int .i64 o] 44)):=(Gr.refl w3).alloc _ _;have hb4:=heap_alloc_new w3 (.cells #[.bool c,.int .i64 n,.int .i64 o] 44);show Code.wp _ _ _ _ (w3.alloc (.cells #[.bool c,.int .i64 n,.int .i64 o] 44));generalize w3.alloc (.cells #[.bool c,.int .i64 n,.int .i64 o] 44)=w4 at hg4 hb4 ⊢;generalize w3.heap.size=b3 at hb4 ⊢;have hg24:=Gr.trans hg3 hg4;have hb2':=(Below.block hg24 _ (xc hb2)).trans hb2;have a0:w4.cell? ⟨b1,0,none⟩=some (.bool c):=by rw [qm hb2'];rfl
 have a1:w4.cell? ⟨b1,1,none⟩=some (.int .i64 n):=by rw [qm hb2'];rfl
 have a2:w4.cell? ⟨b1,2,none⟩=some (.int .i64 o):=by rw [qm hb2'];rfl
 have d0:w4.cell? ⟨b3,0,none⟩=some (.bool c):=by rw [qm hb4];rfl
 have d1:w4.cell? ⟨b3,1,none⟩=some (.int .i64 n):=by rw [qm hb4];rfl
 have d2:w4.cell? ⟨b3,2,none⟩=some (.int .i64 o):=by rw [qm hb4];rfl
 have hg:=hide (Gr.trans (Gr.trans hg1 hg2) hg24);clear h1 h2 hg1 hg2 hg3 hg4 hg24 hb2 hb2' hb4;go_wp2_with (go_at_call 16;refine (num_any _ _).mono ?_;rintro e w' ⟨rfl,hww⟩;have hww':=hww.symm;subst hww';clear hww);go_ret;exact ⟨rfl,qa hg⟩
theorem plays_any (s t:ByteArray) (hs:s.size<4294967281) (ht:t.size<4294967281) (m:Int) (w:World) (hc:Ct m w) (htb:Tabs w) (hpw:Tab w):Calls Tryz.prog 6 #[.string s,.string t] w fun e w'=>e=.returned (.bool true)/\Gr w w':=by
 have h0:=hide (sure_any m w hc htb);have h1:Hid (∀ W,Gr w W->Calls Tryz.prog 22 #[.string s,.string t] W fun e w'=>e=.returned (.bool true)/\Gr W w'):=hide fun W hg=>playsL_any s t hs ht m W (hc.gr hg) (htb.gr hg) (hpw.gr hg)
 have h2:Hid (∀ W,Gr w W->Calls Tryz.prog 23 #[.string s] W fun e w'=>e=.returned (.bool true)/\Gr W w'):=hide fun W hg=>looksL_any s hs m W (hc.gr hg) (htb.gr hg)
 clear hc htb hpw hs ht;go_enter Tryz.func6,Tryz.ntmps6;go_upto_region 2 with (go_at_call 17;refine (qa h0).mono ?_;rintro e w1 ⟨rfl,hg1⟩);go_upto_region 3 with (go_at_call 22;refine (qa h1 _ hg1).mono ?_;rintro e w2 ⟨rfl,hg2⟩);have hg12:=Gr.trans hg1 hg2;clear hg1 hg2 h0 h1;go_upto_region 4 with (go_at_call 23;refine (qa h2 _ hg12).mono ?_;rintro e w3 ⟨rfl,hg3⟩);have hg:=hide (Gr.trans hg12 hg3);clear hg12 hg3 h2;go_wp2_with fail;go_ret;exact ⟨rfl,qa hg⟩
end Go.Proofs.YtnfakamfmkhlbaaGreatDoor.C
