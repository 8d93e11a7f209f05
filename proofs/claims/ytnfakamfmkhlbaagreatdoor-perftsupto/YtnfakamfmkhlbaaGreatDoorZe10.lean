import Derived.Test.YtnfakamfmkhlbaaGreatDoorZe9
import Derived.Test.YtnfakamfmkhlbaaGreatDoorKz2
set_option maxRecDepth 100000
set_option maxHeartbeats 4000000
set_option linter.unusedSimpArgs false
namespace Go.Proofs.YtnfakamfmkhlbaaGreatDoor.C
open Go.ChangeShapes Go.WideShapes Go.ChangeAt Go.RowKit Go.Shelf
open Go.Proofs.YtnfakamfmkhlbaaGreatDoor.P
attribute [local go_sem] qd qi
variable {m:Nat->BitVec 64} {wh:Bool} {own oth beh:BitVec 64} {fc:Nat->Bool} {FA:Array Value}
def casT (i:Nat):Nat:=if i=0 then 6 else if i=1 then 2 else if i=2 then 62 else 58
def casW (i:Nat):BitVec 64:=if i=0 then 96#64 else if i=1 then 14#64 else if i=2 then 6917529027641081856#64 else 1008806316530991104#64
def casX (i:Nat):BitVec 64:=if i=0 then 112#64 else if i=1 then 28#64 else if i=2 then 8070450532247928832#64 else 2017612633061982208#64
def casOk (m:Nat->BitVec 64) (wh:Bool) (own oth:BitVec 64) (fc:Nat->Bool) (i:Nat):Bool:=fc i&&(wh==decide (i<2))&&decide ((own ||| oth) &&& casW i=0#64)&&!(anyB m (casX i) wh)
def casQ (m:Nat->BitVec 64) (wh:Bool) (own oth:BitVec 64) (fc:Nat->Bool):Nat->BitVec 64
 | 0=>0#64
 | k+1=>if casOk m wh own oth fc k then casQ m wh own oth fc k ||| 1#64 <<< casT k else casQ m wh own oth fc k
def casL:List Value:=[.int .i64 6,.int .u64 96,.int .u64 112,.int .i64 2,.int .u64 14,.int .u64 28,.int .i64 62,.int .u64 6917529027641081856,.int .u64 8070450532247928832,.int .i64 58,.int .u64 1008806316530991104,.int .u64 2017612633061982208]
def CasTab (w:World):Prop:=w.rangeAt 3 0 casL/\3<w.heap.size
theorem CasTab.gr {w w':World} (h:CasTab w) (g:Gr w w'):CasTab w' :=
 ⟨fun j v hv=>(Below.cell g (p:=⟨_,0+j,none⟩) h.2).trans (h.1 j v hv),Nat.lt_of_lt_of_le h.2 (Below.size g)⟩
theorem infoC12:(Tryz.prog.info? 341).map (·.size)=some casL.length:=by kernel_rfl
theorem ixc0 (w:World):(Instr.index 341 (.agg casL.toArray) (.int .i64 0)).run Tryz.prog w=.ok (.agg #[.int .i64 6,.int .u64 96,.int .u64 112]) w:=by kernel_rfl
theorem ixc1 (w:World):(Instr.index 341 (.agg casL.toArray) (.int .i64 1)).run Tryz.prog w=.ok (.agg #[.int .i64 2,.int .u64 14,.int .u64 28]) w:=by kernel_rfl
theorem ixc2 (w:World):(Instr.index 341 (.agg casL.toArray) (.int .i64 2)).run Tryz.prog w=.ok (.agg #[.int .i64 62,.int .u64 6917529027641081856,.int .u64 8070450532247928832]) w:=by kernel_rfl
theorem ixc3 (w:World):(Instr.index 341 (.agg casL.toArray) (.int .i64 3)).run Tryz.prog w=.ok (.agg #[.int .i64 58,.int .u64 1008806316530991104,.int .u64 2017612633061982208]) w:=by kernel_rfl
theorem ixc5 (k:Nat) (hk:k<4) (w:World):(Instr.index 341 (.agg casL.toArray) (.int .i64 (k:Int))).run Tryz.prog w=.ok (.agg #[.int .i64 (casT k:Nat),.int .u64 (U (casW k)),.int .u64 (U (casX k))]) w:=by
 have:k=0\/k=1\/k=2\/k=3:=by omega
 rcases this with rfl|rfl|rfl|rfl
 ·exact (ixc0 w).trans (by rfl)
 ·exact (ixc1 w).trans (by rfl)
 ·exact (ixc2 w).trans (by rfl)
 ·exact (ixc3 w).trans (by rfl)
theorem Uz (x:BitVec 64):U x=0↔x=0#64:=⟨fun h=>U_inj (h.trans (by decide +kernel)),fun h=>by rw [h];decide +kernel⟩
theorem casT_lt (k:Nat):casT k<64:=by unfold casT;split<;>(try split)<;>(try split)<;>omega
theorem castled_any (r:Fld m wh own oth beh fc FA) (w:World) (hT:TabIn w) (hC:CasTab w):Calls Tryz.prog 244 #[.agg FA] w fun e w'=>e=.returned (.int .u64 (U (casQ m wh own oth fc 4)))/\Gr w w':=by
 have hr:=hide r;have hz:=hide r.size;have hg0:=hide ((Gr.refl w).alloc FA 259);have hfa:=hide (FAt.new w FA 259);have hC':=hide hC;have hT':=hide hT;clear r hC hT;generalize hL:casL.toArray=CL;go_enter Tryz.func244,Tryz.ntmps244;go_wp2_with (refine wpList_load_mid rfl 341 _ rfl 3 0 rfl casL _ ((qa hC').gr (qa hg0)).1 Tryz.underlying341 rfl infoC12 ?_);generalize w.alloc (.cells FA 259)=w1 at hg0 hfa ⊢;go_loopg [3,7] 4 (fun gg x n wr=>∃ k:Nat,k+gg=4/\n=.int .i64 k/\x=.int .u64 (U (casQ m wh own oth fc k))/\Gr w1 wr)
 case atStart=>exact ⟨0,rfl,rfl,by rfl,Gr.refl _⟩
 case round =>
  obtain ⟨k,k1,rfl,rfl,hgr⟩:=hrel;have hgr':=hide hgr;clear hgr;by_cases hlt:k<4
  ·have hix:=ixc5 k hlt;rw [hL] at hix;have hA:=hide (((qa hfa).gr (qa hgr')).gr ((Gr.refl wr).alloc #[.int .i64 (casT k:Nat),.int .u64 (U (casW k)),.int .u64 (U (casX k))] 340));have c12:=(qa hA).cell (qa hr).wh;have c13:=(qa hA).cell (qa hr).own;have c14:=(qa hA).cell (qa hr).oth;have c16:=(qa hA).cell ((qa hr).c k hlt);have hk0:(0:Int)<=(k:Int):=by omega
   have hk4:(k:Int)<4:=by omega
   have hany:=hide (fun W hT=>qvd (qa hr) (casX k) W hT);have hTk:=hide ((qa hT').gr (Gr.trans (Gr.trans (qa hg0) (qa hgr')) ((Gr.refl wr).alloc #[.int .i64 (casT k:Nat),.int .u64 (U (casW k)),.int .u64 (U (casX k))] 340)));have hone:=hide (fun W=>zy (casT k:Nat) (by omega) (by have:=casT_lt k;omega) W);rw [qjs _ (casT_lt k)] at hone;have hor:∀ x y:BitVec 64,bits .or .u64 (U x) (U y)=U (x ||| y):=or_U;have hand:∀ x y:BitVec 64,bits .and .u64 (U x) (U y)=U (x &&& y):=and_U;have hok:Hid (casOk m wh own oth fc k=(fc k&&(wh==decide (k<2))&&decide ((own ||| oth) &&& casW k=0#64)&&!(anyB m (casX k) wh))):=hide rfl;have hst:Hid (casQ m wh own oth fc (k+1)=if casOk m wh own oth fc k then casQ m wh own oth fc k ||| 1#64 <<< casT k else casQ m wh own oth fc k):=hide rfl
   have hz0:(U ((own ||| oth) &&& casW k)==0)=decide ((own ||| oth) &&& casW k=0#64):=by
    rw [Bool.eq_iff_iff];simp [Uz]
   have hi2:decide ((k:Int)<2)=decide (k<2):=by simp;omega
   generalize casOk m wh own oth fc k=OK at hok hst;generalize decide ((own ||| oth) &&& casW k=0#64)=c3 at hok hz0;generalize decide (k<2)=c2 at hok hi2;generalize fc k=c1 at hok c16;generalize anyB m (casX k) wh=c4 at hok hany;generalize hQN:casQ m wh own oth fc (k+1)=QN at hst;have hQN':=hide hQN;clear hQN;have cb0:(wr.alloc (.cells #[.int .i64 (casT k:Nat),.int .u64 (U (casW k)),.int .u64 (U (casX k))] 340)).cell? ⟨wr.heap.size,0,none⟩=some (.int .i64 (casT k:Nat)):=by rw [World.cell?_alloc_at _ _ _ _ rfl];rfl
   have cb1:(wr.alloc (.cells #[.int .i64 (casT k:Nat),.int .u64 (U (casW k)),.int .u64 (U (casX k))] 340)).cell? ⟨wr.heap.size,1,none⟩=some (.int .u64 (U (casW k))):=by rw [World.cell?_alloc_at _ _ _ _ rfl];rfl
   have cb2:(wr.alloc (.cells #[.int .i64 (casT k:Nat),.int .u64 (U (casW k)),.int .u64 (U (casX k))] 340)).cell? ⟨wr.heap.size,2,none⟩=some (.int .u64 (U (casX k))):=by rw [World.cell?_alloc_at _ _ _ _ rfl];rfl
   have hgk:=hide ((qa hgr').alloc #[.int .i64 (casT k:Nat),.int .u64 (U (casW k)),.int .u64 (U (casX k))] 340);have hBk:wr.heap.size<(wr.alloc (.cells #[.int .i64 (casT k:Nat),.int .u64 (U (casW k)),.int .u64 (U (casX k))] 340)).heap.size:=by rw [World.size_alloc];omega
   have hBk':=hide hBk;clear hBk;go_upto_region 5 with fail;clear hix;generalize (wr.alloc (.cells #[.int .i64 (casT k:Nat),.int .u64 (U (casW k)),.int .u64 (U (casX k))] 340))=wk at hA hTk c12 c13 c14 c16 cb0 cb1 cb2 hgk hBk' ⊢;generalize wr.heap.size=Bk at cb0 cb1 cb2 hBk' ⊢;clear hgr';by_cases hq:(c1&&(wh==c2)&&c3)=true
   ·obtain ⟨⟨rfl,hw2⟩,rfl⟩:(c1=true/\(wh==c2)=true)/\c3=true:=by simpa using hq
    clear hq;cases c4
    ·have hN:Hid (QN=casQ m wh own oth fc k ||| 1#64 <<< casT k):=hide (by rw [qa hst,qa hok,hw2];rfl);clear hst hok
     go_wp2_with (first
      | (go_at_call 246;refine (qa hany _ (qa hTk)).mono ?_;rintro e wa ⟨rfl,hga⟩;have cb3:=(Below.cell hga (p:=⟨Bk,0,none⟩) (qa hBk')).trans cb0)
      | (go_at_call 139;refine (qa hone _).mono ?_;rintro e wo ⟨rfl,hww⟩;have hww':=hww.symm;subst hww';clear hww)
      | (refine xw (by rfl) _ rfl w.heap.size rfl (qa hz) (qa hA) ?_))
     go_roundg (gk-1)
     case measure=>omega
     case rel=>exact ⟨k+1,by omega,by go_num,by rw [qa hQN',qa hN],Gr.trans (qa hgk) hga⟩
    ·have hN:Hid (QN=casQ m wh own oth fc k):=hide (by rw [qa hst,qa hok,hw2];rfl);clear hst hok
     go_wp2_with (first
      | (go_at_call 246;refine (qa hany _ (qa hTk)).mono ?_;rintro e wa ⟨rfl,hga⟩)
      | (refine xw (by rfl) _ rfl w.heap.size rfl (qa hz) (qa hA) ?_))
     go_roundg (gk-1)
     case measure=>omega
     case rel=>exact ⟨k+1,by omega,by go_num,by rw [qa hQN',qa hN],Gr.trans (qa hgk) hga⟩
   ·have hN:Hid (QN=casQ m wh own oth fc k):=hide (by
     rw [qa hst,qa hok];have:(c1&&(wh==c2)&&c3)=false:=by simpa using hq
     rw [this];rfl)
    clear hst hok hany hone;cases c1
    ·clear hq;go_wp2_with fail;go_roundg (gk-1)
     case measure=>omega
     case rel=>exact ⟨k+1,by omega,by go_num,by rw [qa hQN',qa hN],qa hgk⟩
    ·by_cases hw2:(wh==c2)=true
     ·have hc3:c3=false:=by
       cases c3
       ·rfl
       ·exact absurd (by rw [hw2];rfl) hq
      subst hc3;clear hq;go_wp2_with fail;go_roundg (gk-1)
      case measure=>omega
      case rel=>exact ⟨k+1,by omega,by go_num,by rw [qa hQN',qa hN],qa hgk⟩
     ·have hw3:(wh==c2)=false:=by simpa using hw2
      clear hq hw2;go_wp2_with fail;go_roundg (gk-1)
      case measure=>omega
      case rel=>exact ⟨k+1,by omega,by go_num,by rw [qa hQN',qa hN],qa hgk⟩
  ·have ek:k=4:=by omega
   subst ek;go_wp2_with fail;go_ret;exact ⟨rfl,Gr.trans (qa hg0) (qa hgr')⟩
variable {m:Nat->BitVec 64} {wh:Bool} {own oth beh:BitVec 64} {fc:Nat->Bool} {FA:Array Value}
def targB (m:Nat->BitVec 64) (wh:Bool) (own oth beh:BitVec 64) (fc:Nat->Bool) (place kind f:Nat):BitVec 64 :=
 if place=0 then (reachB kind f (own ||| oth) &&& (oth ||| beh)) ||| aheadB wh own oth f
 else if place=5 then (reachB kind f (own ||| oth) &&& ~~~own) ||| casQ m wh own oth fc 4
 else reachB kind f (own ||| oth) &&& ~~~own
theorem targ_any (r:Fld m wh own oth beh fc FA) (place kind f:Nat) (hk1:1<=kind) (hk7:kind<=7) (hf:f<64) (w:World) (hT:TabIn w) (hC:CasTab w):Calls Tryz.prog 175 #[.agg FA,.int .i64 (place:Int),.int .i64 (kind:Int),.int .i64 (f:Int)] w fun e w'=>e=.returned (.int .u64 (U (targB m wh own oth beh fc place kind f)))/\Gr w w':=by
 have hr:=hide r;have hz:=hide r.size;have hfa:=FAt.new w FA 259;have hg1:=(Gr.refl w).alloc FA 259;have c13:=hfa.cell r.own;have c14:=hfa.cell r.oth;have c15:=hfa.cell r.beh;have hre:=hide (fun W=>qxs (kind:Int) (f:Int) (U (own ||| oth)) (by omega) (by omega) (by omega) (by omega) W);rw [reach_U kind f hk1 hk7 hf] at hre;have hah:=hide (fun W=>ahead_any r f hf W);have hca:=hide (fun W hT hC=>castled_any r W hT hC);have hT1:=hide (hT.gr hg1);have hC1:=hide (hC.gr hg1);have hTd:Hid (targB m wh own oth beh fc place kind f=if place=0 then (reachB kind f (own ||| oth) &&& (oth ||| beh)) ||| aheadB wh own oth f else if place=5 then (reachB kind f (own ||| oth) &&& ~~~own) ||| casQ m wh own oth fc 4 else reachB kind f (own ||| oth) &&& ~~~own):=hide rfl;clear r hT hC;generalize hTg:targB m wh own oth beh fc place kind f=TG at hTd;clear hTg;generalize reachB kind f (own ||| oth)=R at hre hTd;generalize aheadB wh own oth f=AH at hah hTd;generalize casQ m wh own oth fc 4=CQ at hca hTd;have hor:∀ x y:BitVec 64,bits .or .u64 (U x) (U y)=U (x ||| y):=or_U;have hand:∀ x y:BitVec 64,bits .and .u64 (U x) (U y)=U (x &&& y):=and_U;have han:∀ x y:BitVec 64,bits .andNot .u64 (U x) (U y)=U (x &&& ~~~y):=andNot_U;go_enter Tryz.func175,Tryz.ntmps175;go_upto_region 2 with (go_at_call 116;refine (qa hre _).mono ?_;rintro e w' ⟨rfl,hww⟩;have hww':=hww.symm;subst hww';clear hww);generalize hw1:w.alloc (.cells FA 259)=w1 at hfa hg1 c13 c14 c15 hT1 hC1 ⊢;clear hw1;have hH:HF w w.heap.size FA w1.drew:=⟨hfa.gr (Gr.refl _).drew,hg1.drew⟩;by_cases h0:place=0
 ·have e0:((place:Int)==0)=true:=by simp;omega
  have hN:Hid (TG=R &&& (oth ||| beh) ||| AH):=hide (by rw [qa hTd,if_pos h0]);clear hTd h0;go_upto_region 4 with fail;refine wp_region_held_drew (S:=HF w w.heap.size FA) (by kernel_rfl) hH (fun hHeld=>?_);refine C.ty 0 (.int .u64 (U R)) rfl (Or.inl ⟨by rfl,fun w hw=>(by have c13:=hw.1.cell (qa hr).own;have c14:=hw.1.cell (qa hr).oth;have c15:=hw.1.cell (qa hr).beh;go_simp)⟩) hHeld ?_;refine C.ty 1 (.pointer (some ⟨w.heap.size,14,none⟩)) rfl (Or.inl ⟨by rfl,fun w hw=>(by have c13:=hw.1.cell (qa hr).own;have c14:=hw.1.cell (qa hr).oth;have c15:=hw.1.cell (qa hr).beh;go_simp)⟩) hHeld ?_;refine C.ty 2 (.int .u64 (U oth)) rfl (Or.inl ⟨by rfl,fun w hw=>(by have c13:=hw.1.cell (qa hr).own;have c14:=hw.1.cell (qa hr).oth;have c15:=hw.1.cell (qa hr).beh;go_simp)⟩) hHeld ?_;refine C.ty 3 (.pointer (some ⟨w.heap.size,15,none⟩)) rfl (Or.inl ⟨by rfl,fun w hw=>(by have c13:=hw.1.cell (qa hr).own;have c14:=hw.1.cell (qa hr).oth;have c15:=hw.1.cell (qa hr).beh;go_simp)⟩) hHeld ?_;refine C.ty 4 (.int .u64 (U beh)) rfl (Or.inl ⟨by rfl,fun w hw=>(by have c13:=hw.1.cell (qa hr).own;have c14:=hw.1.cell (qa hr).oth;have c15:=hw.1.cell (qa hr).beh;go_simp)⟩) hHeld ?_;refine C.ty 5 (.int .u64 (U (oth ||| beh))) rfl (Or.inl ⟨by rfl,fun w hw=>(by have c13:=hw.1.cell (qa hr).own;have c14:=hw.1.cell (qa hr).oth;have c15:=hw.1.cell (qa hr).beh;go_simp)⟩) hHeld ?_;refine C.ty 6 (.int .u64 (U (R &&& (oth ||| beh)))) rfl (Or.inl ⟨by rfl,fun w hw=>(by have c13:=hw.1.cell (qa hr).own;have c14:=hw.1.cell (qa hr).oth;have c15:=hw.1.cell (qa hr).beh;go_simp)⟩) hHeld ?_;refine C.ty 7 (.agg FA) rfl (y_fld (qa hz) (by rfl) _ rfl w.heap.size rfl (fun _ h=>h.1)) hHeld ?_;refine C.ty 8 (.int .i64 (f:Int)) rfl (Or.inl ⟨by rfl,fun w hw=>(by have c13:=hw.1.cell (qa hr).own;have c14:=hw.1.cell (qa hr).oth;have c15:=hw.1.cell (qa hr).beh;go_simp)⟩) hHeld ?_;refine C.rd 9 fun K hK=>?_
  go_simp;refine (qa hah _).mono ?_;rintro e wa ⟨rfl,hga⟩;refine hK.out _ _ (hHeld.gr hga) (fun hHeld=>?_);clear hK K hga;refine C.ty 10 (.int .u64 (U (R &&& (oth ||| beh) ||| AH))) rfl (Or.inl ⟨by rfl,fun w hw=>(by have c13:=hw.1.cell (qa hr).own;have c14:=hw.1.cell (qa hr).oth;have c15:=hw.1.cell (qa hr).beh;go_simp)⟩) hHeld ?_;refine C.rd 11 fun K hK=>?_
  go_simp;refine hK.out _ _ hHeld (fun hHeld=>?_);clear hK K;refine wpAnyH_done (by kernel_rfl) ?_ _;go_wp2_with fail;go_ret;exact ⟨by rw [qa hN];rfl,hHeld.2⟩
 ·have e0:((place:Int)==0)=false:=by simp;omega
  by_cases h5:place=5
  ·have e5:((place:Int)==5)=true:=by simp;omega
   have hN:Hid (TG=R &&& ~~~own ||| CQ):=hide (by rw [qa hTd,if_neg h0,if_pos h5]);clear hTd h0 h5;go_upto_region 6 with fail;refine wp_region_held_drew (S:=HF w w.heap.size FA) (by kernel_rfl) hH (fun hHeld=>?_);refine C.ty 0 (.int .u64 (U R)) rfl (Or.inl ⟨by rfl,fun w hw=>(by have c13:=hw.1.cell (qa hr).own;have c14:=hw.1.cell (qa hr).oth;have c15:=hw.1.cell (qa hr).beh;go_simp)⟩) hHeld ?_;refine C.ty 1 (.pointer (some ⟨w.heap.size,13,none⟩)) rfl (Or.inl ⟨by rfl,fun w hw=>(by have c13:=hw.1.cell (qa hr).own;have c14:=hw.1.cell (qa hr).oth;have c15:=hw.1.cell (qa hr).beh;go_simp)⟩) hHeld ?_;refine C.ty 2 (.int .u64 (U own)) rfl (Or.inl ⟨by rfl,fun w hw=>(by have c13:=hw.1.cell (qa hr).own;have c14:=hw.1.cell (qa hr).oth;have c15:=hw.1.cell (qa hr).beh;go_simp)⟩) hHeld ?_;refine C.ty 3 (.int .u64 (U (R &&& ~~~own))) rfl (Or.inl ⟨by rfl,fun w hw=>(by have c13:=hw.1.cell (qa hr).own;have c14:=hw.1.cell (qa hr).oth;have c15:=hw.1.cell (qa hr).beh;go_simp)⟩) hHeld ?_;refine C.ty 4 (.agg FA) rfl (y_fld (qa hz) (by rfl) _ rfl w.heap.size rfl (fun _ h=>h.1)) hHeld ?_;refine C.rd 5 fun K hK=>?_
   go_simp;refine (qa hca _ ((qa hT1).gr (Gr.refl _).drew) ((qa hC1).gr (Gr.refl _).drew)).mono ?_;rintro e wa ⟨rfl,hga⟩;refine hK.out _ _ (hHeld.gr hga) (fun hHeld=>?_);clear hK K hga;refine C.ty 6 (.int .u64 (U (R &&& ~~~own ||| CQ))) rfl (Or.inl ⟨by rfl,fun w hw=>(by have c13:=hw.1.cell (qa hr).own;have c14:=hw.1.cell (qa hr).oth;have c15:=hw.1.cell (qa hr).beh;go_simp)⟩) hHeld ?_;refine C.rd 7 fun K hK=>?_
   go_simp;refine hK.out _ _ hHeld (fun hHeld=>?_);clear hK K;refine wpAnyH_done (by kernel_rfl) ?_ _;go_wp2_with fail;go_ret;exact ⟨by rw [qa hN];rfl,hHeld.2⟩
  ·have e5:((place:Int)==5)=false:=by simp;omega
   have hN:Hid (TG=R &&& ~~~own):=hide (by rw [qa hTd,if_neg h0,if_neg h5]);clear hTd h0 h5;go_wp2_with fail;go_ret;exact ⟨by rw [qa hN];rfl,hg1⟩
end Go.Proofs.YtnfakamfmkhlbaaGreatDoor.C
