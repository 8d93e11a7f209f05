import Derived.Test.YtnfakamfmkhlbaaGreatDoorZx11
import Derived.Test.YtnfakamfmkhlbaaGreatDoorKz2
set_option maxRecDepth 100000
set_option maxHeartbeats 4000000
set_option linter.unusedSimpArgs false
namespace Go.Proofs.YtnfakamfmkhlbaaGreatDoor.C
open Go.ChangeShapes Go.WideShapes Go.ChangeAt Go.RowKit Go.Shelf
open Go.Proofs.YtnfakamfmkhlbaaGreatDoor.P
attribute [local go_sem] qb qd
variable {m:Nat->BitVec 64} {wh:Bool} {own oth beh:BitVec 64} {fc:Nat->Bool} {FA:Array Value}
def legalB (m:Nat->BitVec 64) (wh:Bool) (beh:BitVec 64) (place f t:Nat):Bool:=!(anyB (afterB m wh beh place f t) (afterB m wh beh place f t (bg wh+5)) wh)
def putMen (FA M:Array Value):Array Value:=put 0 M FA
theorem Fld.putMen {m':Nat->BitVec 64} {M:Array Value} (r:Fld m wh own oth beh fc FA) (h:IsMen m' M):Fld m' wh own oth beh fc (putMen FA M):=by
 have p:=je 0 M FA;have hz:=r.size
 have hp:∀ i,(C.putMen FA M)[i]?=if i<12 then M[i]? else FA[i]?:=fun i=>by
  have:=p.2 i (by rw [h.1,hz];omega);unfold C.putMen;rw [this,h.1];simp
 refine ⟨by unfold C.putMen;rw [p.1];exact hz,fun i hi=>?_,?_,?_,?_,?_,fun i hi=>?_⟩
 ·rw [hp,if_pos hi];exact h.2 i hi
 ·rw [hp,if_neg (by omega)];exact r.wh
 ·rw [hp,if_neg (by omega)];exact r.own
 ·rw [hp,if_neg (by omega)];exact r.oth
 ·rw [hp,if_neg (by omega)];exact r.beh
 ·rw [hp,if_neg (by omega)];exact r.c i hi
theorem jc {B b:Nat} {a:World} (hb:B<=b):∀ (vs:List Value) (o:Nat) (w:World),Below B a w->Below B a (w.setCells b o vs)
 | [],_,_,h=>h
 | v :: r,o,_,h=>jc hb r (o+1) _ (h.setCell (p:=⟨b,o,none⟩) hb v)
theorem putMen_at {M:Array Value} (hz:FA.size=20) (hM:M.size=12) (i:Nat):(putMen FA M)[i]?=if i<12 then M[i]? else FA[i]?:=by
 have:=(je 0 M FA).2 i (by rw [hM,hz];omega);unfold putMen;rw [this,hM];simp
theorem there_of {b n:Nat} {W:World} {t:TypeId} (h:W.heap[b]?=some (.cells FA t)) (hn:n<=FA.size):W.there b 0 n:=fun j hj=>by
 constructor
 ·rw [cell_of_row _ _ _ _ _ _ h,Array.getElem?_eq_getElem (by omega)];rfl
 ·simp [World.frozen?,h]
theorem FAt.putMen {b:Nat} {W:World} {t:TypeId} {M:Array Value} (h:W.heap[b]?=some (.cells FA t)) (hz:FA.size=20) (hM:M.size=12):FAt b (putMen FA M) (W.setCells b 0 M.toList):=by
 refine ⟨Nat.lt_of_lt_of_le (Array.getElem?_eq_some_iff.1 h).1 (jc (B:=0) (Nat.zero_le _) _ _ _ (Below.refl _ _)).size,fun j v hv=>?_⟩;rw [Array.getElem?_toList,putMen_at hz hM] at hv;by_cases hj:j<12
 ·rw [if_pos hj] at hv;have:=World.cell?_setCells_in b M.toList 0 W (fun i hi=>(there_of (n:=12) h (by rw [hz];omega) i (by simpa [hM] using hi)).1) j (by simp [hM];exact hj);rw [this];rw [<-hv,Array.getElem?_eq_getElem (by rw [hM];exact hj)];simp
 ·rw [if_neg hj] at hv;rw [World.cell?_setCells_out b M.toList 0 W _ (fun _ _=>.inr (by simp [hM];omega)),cell_of_row _ _ _ _ _ _ h,Nat.zero_add];exact hv
theorem legal_any (r:Fld m wh own oth beh fc FA) (place f t:Nat) (hp:place<6) (hf:f<64) (ht:t<64) (w:World) (hT:TabIn w):Calls Tryz.prog 176 #[.agg FA,.int .i64 (place:Int),.int .i64 (f:Int),.int .i64 (t:Int)] w fun e w'=>e=.returned (.bool (legalB m wh beh place f t))/\Gr w w':=by
 have hr:=hide r;have hfa:=FAt.new w FA 259;have hg1:=(Gr.refl w).alloc FA 259;have hh1:=World.alloc_heap_new w (.cells FA 259);have haf:=hide (fun W=>after_any r place f t hp hf ht W);clear r;go_enter Tryz.func176,Tryz.ntmps176
 go_upto_region 2 with (first
  | (go_at_call 245;refine (qa haf _).mono ?_;rintro e w' ⟨M,rfl,hM,hg2⟩)
  | (refine xc (by rfl) _ rfl w.heap.size rfl (qa hr).size hfa ?_)
  | (refine wpList_store_mid rfl 151 _ _ rfl w.heap.size 0 M rfl rfl (there_of ((Below.block hg2 _ (by rw [World.size_alloc];omega)).trans hh1) (by rw [hM.1,(qa hr).size];omega)) hM.info hM.ones ?_))
 have hb2:=(Below.block hg2 w.heap.size (by rw [World.size_alloc];omega)).trans hh1;have hr2:=hide ((qa hr).putMen hM);have hH:HF w w.heap.size (putMen FA M) (w'.setCells w.heap.size 0 M.toList).drew:=⟨(FAt.putMen hb2 (qa hr).size hM.1).gr (Gr.refl _).drew,(jc (Nat.le_refl _) _ _ _ (Gr.trans hg1 hg2)).drew⟩;have hM':=hide hM;clear hM hb2 hg2 hfa hg1 hh1 haf;generalize w'.setCells w.heap.size 0 M.toList=w2 at hH ⊢;generalize hFA2:putMen FA M=F2 at hr2 hH;clear hFA2;have hki:=hide (fun W=>jh (afterB m wh beh place f t) _ (qa hr2).isMen wh W);have hany:=hide (fun s W hT=>qjv (qa hr2) s W hT);have hle:Hid (legalB m wh beh place f t=!(anyB (afterB m wh beh place f t) (afterB m wh beh place f t (bg wh+5)) wh)):=hide rfl;generalize hLe:legalB m wh beh place f t=L at hle;have hLe':=hide hLe;clear hLe;have hz2:=hide (qa hr2).size;generalize afterB m wh beh place f t=AF at hr2 hki hany hle hM';refine wp_region_held_drew (S:=HF w w.heap.size F2) (by kernel_rfl) hH (fun hHeld=>?_);refine C.ty 0 (.agg F2) rfl (y_fld (qa hz2) (by rfl) _ rfl w.heap.size rfl (fun _ h=>h.1)) hHeld ?_;refine C.ty 1 (.pointer (some ⟨w.heap.size,0,none⟩)) rfl (Or.inl ⟨by rfl,fun w hw=>(by have c12:=hw.1.cell (qa hr2).wh;go_simp)⟩) hHeld ?_;refine C.ty 2 (.agg (menOf F2)) rfl (y_menF (qa hr2) (by rfl) _ rfl w.heap.size rfl (fun _ h=>h.1)) hHeld ?_;refine C.ty 3 (.pointer (some ⟨w.heap.size,12,none⟩)) rfl (Or.inl ⟨by rfl,fun w hw=>(by have c12:=hw.1.cell (qa hr2).wh;go_simp)⟩) hHeld ?_;refine C.ty 4 (.bool wh) rfl (Or.inl ⟨by rfl,fun w hw=>(by have c12:=hw.1.cell (qa hr2).wh;go_simp)⟩) hHeld ?_;refine C.rd 5 fun K hK=>?_
 go_simp;refine (qa hki _).mono ?_;rintro e wa ⟨rfl,hga⟩;refine hK.out _ _ (hHeld.gr hga) (fun hHeld=>?_);clear hK K hga;refine C.rd 6 fun K hK=>?_
 go_simp;refine (qa hany _ _ (hT.gr hHeld.2)).mono ?_;rintro e wb ⟨rfl,hgb⟩;refine hK.out _ _ (hHeld.gr hgb) (fun hHeld=>?_);clear hK K hgb;refine C.ty 7 (.bool L) rfl (Or.inl ⟨by rfl,fun w hw=>(by rw [qa hle];go_simp)⟩) hHeld ?_;refine C.rd 8 fun K hK=>?_
 go_simp;refine hK.out _ _ hHeld (fun hHeld=>?_);clear hK K;refine wpAnyH_done (by kernel_rfl) ?_ _;go_wp2_with fail;go_ret;exact ⟨by rw [qa hLe'];rfl,hHeld.2⟩
variable {m:Nat->BitVec 64} {wh:Bool} {own oth beh:BitVec 64} {fc:Nat->Bool} {FA:Array Value}
def casT (i:Nat):Nat:=if i=0 then 6 else if i=1 then 2 else if i=2 then 62 else 58
def casW (i:Nat):BitVec 64:=if i=0 then 96#64 else if i=1 then 14#64 else if i=2 then 6917529027641081856#64 else 1008806316530991104#64
def casX (i:Nat):BitVec 64:=if i=0 then 112#64 else if i=1 then 28#64 else if i=2 then 8070450532247928832#64 else 2017612633061982208#64
def casOk (m:Nat->BitVec 64) (wh:Bool) (own oth:BitVec 64) (fc:Nat->Bool) (i:Nat):Bool:=fc i&&(wh==decide (i<2))&&decide ((own ||| oth) &&& casW i=0#64)&&!(anyB m (casX i) wh)
def casQ (m:Nat->BitVec 64) (wh:Bool) (own oth:BitVec 64) (fc:Nat->Bool):Nat->BitVec 64
 | 0=>0#64
 | k+1=>if casOk m wh own oth fc k then casQ m wh own oth fc k ||| 1#64 <<< casT k else casQ m wh own oth fc k
def casL:List Value:=[.int .i64 6,.int .u64 96,.int .u64 112,.int .i64 2,.int .u64 14,.int .u64 28,.int .i64 62,.int .u64 6917529027641081856,.int .u64 8070450532247928832,.int .i64 58,.int .u64 1008806316530991104,.int .u64 2017612633061982208]
def CasTab (w:World):Prop:=w.rangeAt 3 0 casL/\3<w.heap.size
theorem CasTab.gr {w w':World} (h:CasTab w) (g:Gr w w'):CasTab w' :=
 ⟨fun j v hv=>(Below.cell g (p:=⟨_,0+j,none⟩) h.2).trans (h.1 j v hv),Nat.lt_of_lt_of_le h.2 (Below.size g)⟩
theorem infoC12:(Tryz.prog.info? 341).map (·.size)=some casL.length:=by kernel_rfl
theorem ixc0 (w:World):(Instr.index 341 (.agg casL.toArray) (.int .i64 0)).run Tryz.prog w=.ok (.agg #[.int .i64 6,.int .u64 96,.int .u64 112]) w:=by kernel_rfl
theorem ixc1 (w:World):(Instr.index 341 (.agg casL.toArray) (.int .i64 1)).run Tryz.prog w=.ok (.agg #[.int .i64 2,.int .u64 14,.int .u64 28]) w:=by kernel_rfl
theorem ixc2 (w:World):(Instr.index 341 (.agg casL.toArray) (.int .i64 2)).run Tryz.prog w=.ok (.agg #[.int .i64 62,.int .u64 6917529027641081856,.int .u64 8070450532247928832]) w:=by kernel_rfl
theorem ixc3 (w:World):(Instr.index 341 (.agg casL.toArray) (.int .i64 3)).run Tryz.prog w=.ok (.agg #[.int .i64 58,.int .u64 1008806316530991104,.int .u64 2017612633061982208]) w:=by kernel_rfl
theorem ixc5 (k:Nat) (hk:k<4) (w:World):(Instr.index 341 (.agg casL.toArray) (.int .i64 (k:Int))).run Tryz.prog w=.ok (.agg #[.int .i64 (casT k:Nat),.int .u64 (U (casW k)),.int .u64 (U (casX k))]) w:=by
 have:k=0\/k=1\/k=2\/k=3:=by omega
 rcases this with rfl|rfl|rfl|rfl
 ·exact (ixc0 w).trans (by rfl)
 ·exact (ixc1 w).trans (by rfl)
 ·exact (ixc2 w).trans (by rfl)
 ·exact (ixc3 w).trans (by rfl)
theorem Uz (x:BitVec 64):U x=0↔x=0#64:=⟨fun h=>U_inj (h.trans (by decide +kernel)),fun h=>by rw [h];decide +kernel⟩
theorem casT_lt (k:Nat):casT k<64:=by unfold casT;split<;>(try split)<;>(try split)<;>omega
theorem castled_any (r:Fld m wh own oth beh fc FA) (w:World) (hT:TabIn w) (hC:CasTab w):Calls Tryz.prog 244 #[.agg FA] w fun e w'=>e=.returned (.int .u64 (U (casQ m wh own oth fc 4)))/\Gr w w':=by
 have hr:=hide r;have hz:=hide r.size;have hg0:=hide ((Gr.refl w).alloc FA 259);have hfa:=hide (FAt.new w FA 259);have hC':=hide hC;have hT':=hide hT;clear r hC hT;generalize hL:casL.toArray=CL;go_enter Tryz.func244,Tryz.ntmps244;go_wp2_with (refine wpList_load_mid rfl 341 _ rfl 3 0 rfl casL _ ((qa hC').gr (qa hg0)).1 Tryz.underlying341 rfl infoC12 ?_);generalize w.alloc (.cells FA 259)=w1 at hg0 hfa ⊢;go_loopg [3,7] 4 (fun gg x n wr=>∃ k:Nat,k+gg=4/\n=.int .i64 k/\x=.int .u64 (U (casQ m wh own oth fc k))/\Gr w1 wr)
 case atStart=>exact ⟨0,rfl,rfl,by rfl,Gr.refl _⟩
 case round =>
  obtain ⟨k,k1,rfl,rfl,hgr⟩:=hrel;have hgr':=hide hgr;clear hgr;by_cases hlt:k<4
  ·have hix:=ixc5 k hlt;rw [hL] at hix;have hA:=hide (((qa hfa).gr (qa hgr')).gr ((Gr.refl wr).alloc #[.int .i64 (casT k:Nat),.int .u64 (U (casW k)),.int .u64 (U (casX k))] 340));have c12:=(qa hA).cell (qa hr).wh;have c13:=(qa hA).cell (qa hr).own;have c14:=(qa hA).cell (qa hr).oth;have c16:=(qa hA).cell ((qa hr).c k hlt);have hk0:(0:Int)<=(k:Int):=by omega
   have hk4:(k:Int)<4:=by omega
   have hany:=hide (fun W hT=>qjv (qa hr) (casX k) W hT);have hTk:=hide ((qa hT').gr (Gr.trans (Gr.trans (qa hg0) (qa hgr')) ((Gr.refl wr).alloc #[.int .i64 (casT k:Nat),.int .u64 (U (casW k)),.int .u64 (U (casX k))] 340)));have hone:=hide (fun W=>ju (casT k:Nat) (by omega) (by have:=casT_lt k;omega) W);rw [qxx _ (casT_lt k)] at hone;have hor:∀ x y:BitVec 64,bits .or .u64 (U x) (U y)=U (x ||| y):=or_U;have hand:∀ x y:BitVec 64,bits .and .u64 (U x) (U y)=U (x &&& y):=and_U;have hok:Hid (casOk m wh own oth fc k=(fc k&&(wh==decide (k<2))&&decide ((own ||| oth) &&& casW k=0#64)&&!(anyB m (casX k) wh))):=hide rfl;have hst:Hid (casQ m wh own oth fc (k+1)=if casOk m wh own oth fc k then casQ m wh own oth fc k ||| 1#64 <<< casT k else casQ m wh own oth fc k):=hide rfl
   have hz0:(U ((own ||| oth) &&& casW k)==0)=decide ((own ||| oth) &&& casW k=0#64):=by
    rw [Bool.eq_iff_iff];simp [Uz]
   have hi2:decide ((k:Int)<2)=decide (k<2):=by simp;omega
   generalize casOk m wh own oth fc k=OK at hok hst;generalize decide ((own ||| oth) &&& casW k=0#64)=c3 at hok hz0;generalize decide (k<2)=c2 at hok hi2;generalize fc k=c1 at hok c16;generalize anyB m (casX k) wh=c4 at hok hany;generalize hQN:casQ m wh own oth fc (k+1)=QN at hst;have hQN':=hide hQN;clear hQN;have cb0:(wr.alloc (.cells #[.int .i64 (casT k:Nat),.int .u64 (U (casW k)),.int .u64 (U (casX k))] 340)).cell? ⟨wr.heap.size,0,none⟩=some (.int .i64 (casT k:Nat)):=by rw [World.cell?_alloc_at _ _ _ _ rfl];rfl
   have cb1:(wr.alloc (.cells #[.int .i64 (casT k:Nat),.int .u64 (U (casW k)),.int .u64 (U (casX k))] 340)).cell? ⟨wr.heap.size,1,none⟩=some (.int .u64 (U (casW k))):=by rw [World.cell?_alloc_at _ _ _ _ rfl];rfl
   have cb2:(wr.alloc (.cells #[.int .i64 (casT k:Nat),.int .u64 (U (casW k)),.int .u64 (U (casX k))] 340)).cell? ⟨wr.heap.size,2,none⟩=some (.int .u64 (U (casX k))):=by rw [World.cell?_alloc_at _ _ _ _ rfl];rfl
   have hgk:=hide ((qa hgr').alloc #[.int .i64 (casT k:Nat),.int .u64 (U (casW k)),.int .u64 (U (casX k))] 340);have hBk:wr.heap.size<(wr.alloc (.cells #[.int .i64 (casT k:Nat),.int .u64 (U (casW k)),.int .u64 (U (casX k))] 340)).heap.size:=by rw [World.size_alloc];omega
   have hBk':=hide hBk;clear hBk;go_upto_region 5 with fail;clear hix;generalize (wr.alloc (.cells #[.int .i64 (casT k:Nat),.int .u64 (U (casW k)),.int .u64 (U (casX k))] 340))=wk at hA hTk c12 c13 c14 c16 cb0 cb1 cb2 hgk hBk' ⊢;generalize wr.heap.size=Bk at cb0 cb1 cb2 hBk' ⊢;clear hgr';by_cases hq:(c1&&(wh==c2)&&c3)=true
   ·obtain ⟨⟨rfl,hw2⟩,rfl⟩:(c1=true/\(wh==c2)=true)/\c3=true:=by simpa using hq
    clear hq;cases c4
    ·have hN:Hid (QN=casQ m wh own oth fc k ||| 1#64 <<< casT k):=hide (by rw [qa hst,qa hok,hw2];rfl);clear hst hok
     go_wp2_with (first
      | (go_at_call 246;refine (qa hany _ (qa hTk)).mono ?_;rintro e wa ⟨rfl,hga⟩;have cb3:=(Below.cell hga (p:=⟨Bk,0,none⟩) (qa hBk')).trans cb0)
      | (go_at_call 139;refine (qa hone _).mono ?_;rintro e wo ⟨rfl,hww⟩;have hww':=hww.symm;subst hww';clear hww)
      | (refine xc (by rfl) _ rfl w.heap.size rfl (qa hz) (qa hA) ?_))
     go_roundg (gk-1)
     case measure=>omega
     case rel=>exact ⟨k+1,by omega,by go_num,by rw [qa hQN',qa hN],Gr.trans (qa hgk) hga⟩
    ·have hN:Hid (QN=casQ m wh own oth fc k):=hide (by rw [qa hst,qa hok,hw2];rfl);clear hst hok
     go_wp2_with (first
      | (go_at_call 246;refine (qa hany _ (qa hTk)).mono ?_;rintro e wa ⟨rfl,hga⟩)
      | (refine xc (by rfl) _ rfl w.heap.size rfl (qa hz) (qa hA) ?_))
     go_roundg (gk-1)
     case measure=>omega
     case rel=>exact ⟨k+1,by omega,by go_num,by rw [qa hQN',qa hN],Gr.trans (qa hgk) hga⟩
   ·have hN:Hid (QN=casQ m wh own oth fc k):=hide (by
     rw [qa hst,qa hok];have:(c1&&(wh==c2)&&c3)=false:=by simpa using hq
     rw [this];rfl)
    clear hst hok hany hone;cases c1
    ·clear hq;go_wp2_with fail;go_roundg (gk-1)
     case measure=>omega
     case rel=>exact ⟨k+1,by omega,by go_num,by rw [qa hQN',qa hN],qa hgk⟩
    ·by_cases hw2:(wh==c2)=true
     ·have hc3:c3=false:=by
       cases c3
       ·rfl
       ·exact absurd (by rw [hw2];rfl) hq
      subst hc3;clear hq;go_wp2_with fail;go_roundg (gk-1)
      case measure=>omega
      case rel=>exact ⟨k+1,by omega,by go_num,by rw [qa hQN',qa hN],qa hgk⟩
     ·have hw3:(wh==c2)=false:=by simpa using hw2
      clear hq hw2;go_wp2_with fail;go_roundg (gk-1)
      case measure=>omega
      case rel=>exact ⟨k+1,by omega,by go_num,by rw [qa hQN',qa hN],qa hgk⟩
  ·have ek:k=4:=by omega
   subst ek;go_wp2_with fail;go_ret;exact ⟨rfl,Gr.trans (qa hg0) (qa hgr')⟩
variable {m:Nat->BitVec 64} {wh:Bool} {own oth beh:BitVec 64} {fc:Nat->Bool} {FA:Array Value}
def targB (m:Nat->BitVec 64) (wh:Bool) (own oth beh:BitVec 64) (fc:Nat->Bool) (place kind f:Nat):BitVec 64 :=
 if place=0 then (reachB kind f (own ||| oth) &&& (oth ||| beh)) ||| aheadB wh own oth f
 else if place=5 then (reachB kind f (own ||| oth) &&& ~~~own) ||| casQ m wh own oth fc 4
 else reachB kind f (own ||| oth) &&& ~~~own
theorem targ_any (r:Fld m wh own oth beh fc FA) (place kind f:Nat) (hk1:1<=kind) (hk7:kind<=7) (hf:f<64) (w:World) (hT:TabIn w) (hC:CasTab w):Calls Tryz.prog 175 #[.agg FA,.int .i64 (place:Int),.int .i64 (kind:Int),.int .i64 (f:Int)] w fun e w'=>e=.returned (.int .u64 (U (targB m wh own oth beh fc place kind f)))/\Gr w w':=by
 have hr:=hide r;have hz:=hide r.size;have hfa:=FAt.new w FA 259;have hg1:=(Gr.refl w).alloc FA 259;have c13:=hfa.cell r.own;have c14:=hfa.cell r.oth;have c15:=hfa.cell r.beh;have hre:=hide (fun W=>zj (kind:Int) (f:Int) (U (own ||| oth)) (by omega) (by omega) (by omega) (by omega) W);rw [reach_U kind f hk1 hk7 hf] at hre;have hah:=hide (fun W=>ahead_any r f hf W);have hca:=hide (fun W hT hC=>castled_any r W hT hC);have hT1:=hide (hT.gr hg1);have hC1:=hide (hC.gr hg1);have hTd:Hid (targB m wh own oth beh fc place kind f=if place=0 then (reachB kind f (own ||| oth) &&& (oth ||| beh)) ||| aheadB wh own oth f else if place=5 then (reachB kind f (own ||| oth) &&& ~~~own) ||| casQ m wh own oth fc 4 else reachB kind f (own ||| oth) &&& ~~~own):=hide rfl;clear r hT hC;generalize hTg:targB m wh own oth beh fc place kind f=TG at hTd;clear hTg;generalize reachB kind f (own ||| oth)=R at hre hTd;generalize aheadB wh own oth f=AH at hah hTd;generalize casQ m wh own oth fc 4=CQ at hca hTd;have hor:∀ x y:BitVec 64,bits .or .u64 (U x) (U y)=U (x ||| y):=or_U;have hand:∀ x y:BitVec 64,bits .and .u64 (U x) (U y)=U (x &&& y):=and_U;have han:∀ x y:BitVec 64,bits .andNot .u64 (U x) (U y)=U (x &&& ~~~y):=andNot_U;go_enter Tryz.func175,Tryz.ntmps175;go_upto_region 2 with (go_at_call 116;refine (qa hre _).mono ?_;rintro e w' ⟨rfl,hww⟩;have hww':=hww.symm;subst hww';clear hww);generalize hw1:w.alloc (.cells FA 259)=w1 at hfa hg1 c13 c14 c15 hT1 hC1 ⊢;clear hw1;have hH:HF w w.heap.size FA w1.drew:=⟨hfa.gr (Gr.refl _).drew,hg1.drew⟩;by_cases h0:place=0
 ·have e0:((place:Int)==0)=true:=by simp;omega
  have hN:Hid (TG=R &&& (oth ||| beh) ||| AH):=hide (by rw [qa hTd,if_pos h0]);clear hTd h0;go_upto_region 4 with fail;refine wp_region_held_drew (S:=HF w w.heap.size FA) (by kernel_rfl) hH (fun hHeld=>?_);refine C.ty 0 (.int .u64 (U R)) rfl (Or.inl ⟨by rfl,fun w hw=>(by have c13:=hw.1.cell (qa hr).own;have c14:=hw.1.cell (qa hr).oth;have c15:=hw.1.cell (qa hr).beh;go_simp)⟩) hHeld ?_;refine C.ty 1 (.pointer (some ⟨w.heap.size,14,none⟩)) rfl (Or.inl ⟨by rfl,fun w hw=>(by have c13:=hw.1.cell (qa hr).own;have c14:=hw.1.cell (qa hr).oth;have c15:=hw.1.cell (qa hr).beh;go_simp)⟩) hHeld ?_;refine C.ty 2 (.int .u64 (U oth)) rfl (Or.inl ⟨by rfl,fun w hw=>(by have c13:=hw.1.cell (qa hr).own;have c14:=hw.1.cell (qa hr).oth;have c15:=hw.1.cell (qa hr).beh;go_simp)⟩) hHeld ?_;refine C.ty 3 (.pointer (some ⟨w.heap.size,15,none⟩)) rfl (Or.inl ⟨by rfl,fun w hw=>(by have c13:=hw.1.cell (qa hr).own;have c14:=hw.1.cell (qa hr).oth;have c15:=hw.1.cell (qa hr).beh;go_simp)⟩) hHeld ?_;refine C.ty 4 (.int .u64 (U beh)) rfl (Or.inl ⟨by rfl,fun w hw=>(by have c13:=hw.1.cell (qa hr).own;have c14:=hw.1.cell (qa hr).oth;have c15:=hw.1.cell (qa hr).beh;go_simp)⟩) hHeld ?_;refine C.ty 5 (.int .u64 (U (oth ||| beh))) rfl (Or.inl ⟨by rfl,fun w hw=>(by have c13:=hw.1.cell (qa hr).own;have c14:=hw.1.cell (qa hr).oth;have c15:=hw.1.cell (qa hr).beh;go_simp)⟩) hHeld ?_;refine C.ty 6 (.int .u64 (U (R &&& (oth ||| beh)))) rfl (Or.inl ⟨by rfl,fun w hw=>(by have c13:=hw.1.cell (qa hr).own;have c14:=hw.1.cell (qa hr).oth;have c15:=hw.1.cell (qa hr).beh;go_simp)⟩) hHeld ?_;refine C.ty 7 (.agg FA) rfl (y_fld (qa hz) (by rfl) _ rfl w.heap.size rfl (fun _ h=>h.1)) hHeld ?_;refine C.ty 8 (.int .i64 (f:Int)) rfl (Or.inl ⟨by rfl,fun w hw=>(by have c13:=hw.1.cell (qa hr).own;have c14:=hw.1.cell (qa hr).oth;have c15:=hw.1.cell (qa hr).beh;go_simp)⟩) hHeld ?_;refine C.rd 9 fun K hK=>?_
  go_simp;refine (qa hah _).mono ?_;rintro e wa ⟨rfl,hga⟩;refine hK.out _ _ (hHeld.gr hga) (fun hHeld=>?_);clear hK K hga;refine C.ty 10 (.int .u64 (U (R &&& (oth ||| beh) ||| AH))) rfl (Or.inl ⟨by rfl,fun w hw=>(by have c13:=hw.1.cell (qa hr).own;have c14:=hw.1.cell (qa hr).oth;have c15:=hw.1.cell (qa hr).beh;go_simp)⟩) hHeld ?_;refine C.rd 11 fun K hK=>?_
  go_simp;refine hK.out _ _ hHeld (fun hHeld=>?_);clear hK K;refine wpAnyH_done (by kernel_rfl) ?_ _;go_wp2_with fail;go_ret;exact ⟨by rw [qa hN];rfl,hHeld.2⟩
 ·have e0:((place:Int)==0)=false:=by simp;omega
  by_cases h5:place=5
  ·have e5:((place:Int)==5)=true:=by simp;omega
   have hN:Hid (TG=R &&& ~~~own ||| CQ):=hide (by rw [qa hTd,if_neg h0,if_pos h5]);clear hTd h0 h5;go_upto_region 6 with fail;refine wp_region_held_drew (S:=HF w w.heap.size FA) (by kernel_rfl) hH (fun hHeld=>?_);refine C.ty 0 (.int .u64 (U R)) rfl (Or.inl ⟨by rfl,fun w hw=>(by have c13:=hw.1.cell (qa hr).own;have c14:=hw.1.cell (qa hr).oth;have c15:=hw.1.cell (qa hr).beh;go_simp)⟩) hHeld ?_;refine C.ty 1 (.pointer (some ⟨w.heap.size,13,none⟩)) rfl (Or.inl ⟨by rfl,fun w hw=>(by have c13:=hw.1.cell (qa hr).own;have c14:=hw.1.cell (qa hr).oth;have c15:=hw.1.cell (qa hr).beh;go_simp)⟩) hHeld ?_;refine C.ty 2 (.int .u64 (U own)) rfl (Or.inl ⟨by rfl,fun w hw=>(by have c13:=hw.1.cell (qa hr).own;have c14:=hw.1.cell (qa hr).oth;have c15:=hw.1.cell (qa hr).beh;go_simp)⟩) hHeld ?_;refine C.ty 3 (.int .u64 (U (R &&& ~~~own))) rfl (Or.inl ⟨by rfl,fun w hw=>(by have c13:=hw.1.cell (qa hr).own;have c14:=hw.1.cell (qa hr).oth;have c15:=hw.1.cell (qa hr).beh;go_simp)⟩) hHeld ?_;refine C.ty 4 (.agg FA) rfl (y_fld (qa hz) (by rfl) _ rfl w.heap.size rfl (fun _ h=>h.1)) hHeld ?_;refine C.rd 5 fun K hK=>?_
   go_simp;refine (qa hca _ ((qa hT1).gr (Gr.refl _).drew) ((qa hC1).gr (Gr.refl _).drew)).mono ?_;rintro e wa ⟨rfl,hga⟩;refine hK.out _ _ (hHeld.gr hga) (fun hHeld=>?_);clear hK K hga;refine C.ty 6 (.int .u64 (U (R &&& ~~~own ||| CQ))) rfl (Or.inl ⟨by rfl,fun w hw=>(by have c13:=hw.1.cell (qa hr).own;have c14:=hw.1.cell (qa hr).oth;have c15:=hw.1.cell (qa hr).beh;go_simp)⟩) hHeld ?_;refine C.rd 7 fun K hK=>?_
   go_simp;refine hK.out _ _ hHeld (fun hHeld=>?_);clear hK K;refine wpAnyH_done (by kernel_rfl) ?_ _;go_wp2_with fail;go_ret;exact ⟨by rw [qa hN];rfl,hHeld.2⟩
  ·have e5:((place:Int)==5)=false:=by simp;omega
   have hN:Hid (TG=R &&& ~~~own):=hide (by rw [qa hTd,if_neg h0,if_neg h5]);clear hTd h0 h5;go_wp2_with fail;go_ret;exact ⟨by rw [qa hN];rfl,hg1⟩
end Go.Proofs.YtnfakamfmkhlbaaGreatDoor.C
