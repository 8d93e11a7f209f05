import Derived.Test.YtnfakamfmkhlbabGreatDoorKb2
import Derived.Test.YtnfakamfmkhlbabGreatDoorKb1
import Derived.Shelf.RegionOpen
import Derived.LoopNIn
import Derived.LoopIn
import Derived.Lib.SlBytesConst
import Derived.WalkKit
import Derived.ProofKit
import Derived.OpenShut
import Derived.WalkLawsBesides
import Derived.LoopTactic
import Derived.Deep.LoopGhost
import Derived.Deep.QuietTactic
import Derived.BigQuiet
import Derived.Below
import Derived.Laws.Rows
import Derived.Deep.MidRow
import Derived.Deep.RegionHeld3
import Derived.OrdersHeld
import Derived.Deep.Cut
import Derived.Test.YtnfakamfmkhlbabGreatDoorKb3
import Derived.Test.YtnfakamfmkhlbabGreatDoorKb7
import Derived.Test.YtnfakamfmkhlbabGreatDoorKz2
set_option maxRecDepth 100000
set_option maxHeartbeats 4000000
set_option linter.unusedSimpArgs false
namespace Go.Proofs.YtnfakamfmkhlbabGreatDoor.C
open Go.ChangeShapes Go.WideShapes Go.ChangeAt Go.RowKit Go.Shelf
open Go.Proofs.YtnfakamfmkhlbabGreatDoor.P
attribute [local go_sem] Oper.semAt_some
abbrev Mv:=Nat × Nat × UInt8
def mvV (x:Mv):Value:=.agg #[.int .i64 (x.1:Int),.int .i64 (x.2.1:Int),.int .u8 (x.2.2.toNat:Int)]
def encM (x:Mv):Array Value:=#[mvV x]
def lastB:BitVec 64:=18374686479671623935#64
def turnsB (pawn:Bool) (f t:Nat):List Mv:=if pawn&&lastB.getLsbD t then [(f,t,113),(f,t,114),(f,t,98),(f,t,110)] else [(f,t,0)]
theorem wide_fn (k:FuncId):Fence.wide.fn k:=trivial
theorem last_and:∀ t,t<64->bits .and .u64 (U (1#64 <<< t)) 18374686479671623935=if lastB.getLsbD t then U (1#64 <<< t) else 0:=by decide +kernel
theorem one_ne:∀ t,t<64->U (1#64 <<< t)≠0:=by decide +kernel
theorem ytS_one (place f t:Nat) (hp:place<6) (ht:t<64) (hn:(decide (place=0)&&lastB.getLsbD t)=false) (l B:Nat) (T:Obj->Prop) (C:Nat->Prop) (J Jx:List Mv->World->Prop) (pre:List Mv) (W:World)
  (hY:YieldAt Fence.wide 0 Tryz.prog l (encM (f,t,0)) W fun e W'=>Fr (Rnd1 B T C) W W'/\((e=.returned (.bool true)/\J (pre++[(f,t,0)]) W')\/(e=.returned (.bool false)/\Jx (pre++[(f,t,0)]) W'))) :
  Calls Tryz.prog 135 #[.int .i64 (place:Int),.int .i64 (f:Int),.int .i64 (t:Int),.func (.yield l) #[] #[]] W fun e W'=>Fr (Rnd1 B T C) W W'/\((e=.returned (.bool true)/\J (pre++[(f,t,0)]) W')\/(e=.returned (.bool false)/\Jx (pre++[(f,t,0)]) W')):=by
 obtain ⟨fn,tmps,assign,body,hy,hR⟩:=hY;have hone:=hide (fun W=>one_any (t:Int) (by omega) (by omega) W);rw [one_U t ht] at hone;have hla:=last_and t ht;have hne:=one_ne t ht;have hy':(Instr.yield l #[.agg #[.int .i64 (f:Int),.int .i64 (t:Int),.int .u8 0]]).run Tryz.prog W=.ok (.round l fn tmps assign body) W:=hy;clear hy;refine (callsIn_wide (n:=1)).1 ?_;refine callsIn_of_wp Tryz.func135 rfl trivial ?_ rfl;simp only [Tryz.ntmps135,List.size_toArray,List.length_cons,List.length_nil,Nat.reduceAdd,Nat.reduceSub,Array.replicate_succ,Array.replicate_zero,List.push_toArray,List.append_toArray,List.nil_append,List.cons_append];by_cases h0:place=0
 ·subst h0;have hz:lastB.getLsbD t=false:=by simpa using hn
  rw [hz] at hla;simp only [Bool.false_eq_true,if_false] at hla;clear hz hn hne;gi_wp2_with (refine ⟨trivial,?_⟩;gi_at_call 204;refine (callsIn_wide.2 (unhide hone _)).mono ?_;rintro e w' ⟨rfl,rfl⟩);refine hR.mono ?_;rintro e W3 ⟨f3,⟨rfl,hJ3⟩|⟨rfl,hJx3⟩⟩
  ·gi_wp2;go_ret;exact ⟨f3,.inl ⟨rfl,hJ3⟩⟩
  ·gi_wp2;go_ret;exact ⟨f3,.inr ⟨rfl,hJx3⟩⟩
 ·clear hn hla hne;have h0':((place:Int) != 0)=true:=by simp;omega
  gi_wp2_with (with_reducible refine And.intro (wide_fn _) ?_);refine hR.mono ?_;rintro e W3 ⟨f3,⟨rfl,hJ3⟩|⟨rfl,hJx3⟩⟩
  ·gi_wp2;go_ret;exact ⟨f3,.inl ⟨rfl,hJ3⟩⟩
  ·gi_wp2;go_ret;exact ⟨f3,.inr ⟨rfl,hJx3⟩⟩
def tnU (k:Nat):UInt8:=if k=0 then 113 else if k=1 then 114 else if k=2 then 98 else 110
theorem row4 {W:World} {b:Nat} (h:W.heap[b]?=some (.cells #[.int .u8 113,.int .u8 114,.int .u8 98,.int .u8 110] 5 (4,5))) (k:Nat) (hk:k<4):W.cell? ⟨b,k,none⟩=some (.int .u8 ((tnU k).toNat:Int)):=by
 have:k=0\/k=1\/k=2\/k=3:=by omega
 rcases this with rfl|rfl|rfl|rfl<;>(simp only [World.cell?];rw [h];rfl)
theorem ytS_four (f t:Nat) (ht:t<64) (hn:lastB.getLsbD t=true) (l B:Nat) (T:Obj->Prop) (C:Nat->Prop) (hT:∀ c fr,¬ T (.cells c 5 fr)) (J Jx:List Mv->World->Prop) (hJ:Stable B T J) (pre:List Mv) (W:World) (hB:B<=W.heap.size)
  (hY:∀ k W1,k<4->J (pre++(List.range k).map fun i=>(f,t,tnU i)) W1->YieldAt Fence.wide 0 Tryz.prog l (encM (f,t,tnU k)) W1 fun e W'=>Fr (Rnd1 B T C) W1 W'/\((e=.returned (.bool true)/\J (pre++(List.range (k+1)).map fun i=>(f,t,tnU i)) W')\/(e=.returned (.bool false)/\Jx (pre++(List.range (k+1)).map fun i=>(f,t,tnU i)) W'))) (h0:J pre W) :
  Calls Tryz.prog 135 #[.int .i64 0,.int .i64 (f:Int),.int .i64 (t:Int),.func (.yield l) #[] #[]] W fun e W'=>Fr (Rnd1 B T C) W W'/\((e=.returned (.bool true)/\J (pre++(List.range 4).map fun i=>(f,t,tnU i)) W')\/(e=.returned (.bool false)/\∃ k,k<4/\Jx (pre++(List.range (k+1)).map fun i=>(f,t,tnU i)) W')):=by
 have hone:=hide (fun W=>one_any (t:Int) (by omega) (by omega) W);rw [one_U t ht] at hone;have hla:=last_and t ht;have hne:(U (1#64 <<< t)==0)=false:=by have:=one_ne t ht;simpa using this
 rw [hn,if_pos rfl] at hla;refine (callsIn_wide (n:=1)).1 ?_;refine callsIn_of_wp Tryz.func135 rfl trivial ?_ rfl;simp only [Tryz.ntmps135,List.size_toArray,List.length_cons,List.length_nil,Nat.reduceAdd,Nat.reduceSub,Array.replicate_succ,Array.replicate_zero,List.push_toArray,List.append_toArray,List.nil_append,List.cons_append];have hcv:=fun (w:World) (C:Array Value) (n c:Nat)=>Lib.run_convert_bytes_const (P:=Tryz.prog) w 145 5 C n c Tryz.underlying145 Tryz.underlying5
 gi_wp2_with (refine ⟨trivial,?_⟩;gi_at_call 204;refine (callsIn_wide.2 (unhide hone _)).mono ?_;rintro e w' ⟨rfl,rfl⟩);clear hcv hone hla hne;generalize hwb:w'.alloc (.cells #[.int .u8 113,.int .u8 114,.int .u8 98,.int .u8 110] 5 (4,5))=wb;have hblk:wb.heap[w'.heap.size]?=some (.cells #[.int .u8 113,.int .u8 114,.int .u8 98,.int .u8 110] 5 (4,5)):=by rw [<-hwb];exact World.alloc_heap_new _ _
 have fb:∀ Q:Nat->Obj->Prop,Fr Q w' wb:=fun Q=>by rw [<-hwb];exact (Fr.refl _ _).alloc _
 have hJ0:=hJ _ _ _ h0 (fb _);generalize w'.heap.size=Bb at hblk hB ⊢;gi_loopw [27] (fun p wr=>∃ k:Nat,k<=4/\p=.int .i64 (k:Int)/\J (pre++(List.range k).map fun i=>(f,t,tnU i)) wr/\Fr (Rnd1 B T C) w' wr/\wr.heap[Bb]?=some (.cells #[.int .u8 113,.int .u8 114,.int .u8 98,.int .u8 110] 5 (4,5))) (fun p _=>4-(intOf p).toNat)
 case atStart=>exact ⟨0,by omega,rfl,by simpa using hJ0,fb _,hblk⟩
 case round =>
  obtain ⟨k,hk,rfl,hJk,fk,hbk⟩:=hrel;by_cases h4:k<4
  ·have hck:=row4 hbk k h4;obtain ⟨fn,tmps,assign,body,hy,hR⟩:=hY k wr h4 hJk;have hy':(Instr.yield l #[.agg #[.int .i64 (f:Int),.int .i64 (t:Int),.int .u8 ((tnU k).toNat:Int)]]).run Tryz.prog wr=.ok (.round l fn tmps assign body) wr:=hy;clear hy;gi_wp2;refine hR.mono ?_;rintro e W3 ⟨f3,⟨rfl,hJ3⟩|⟨rfl,hJx3⟩⟩
   ·gi_wp2;go_roundw
    case rel =>
     refine ⟨k+1,by omega,by go_num,hJ3,fk.trans f3,f3.same _ _ hbk (.inr ⟨?_,hT _ _⟩)⟩;have:=(Array.getElem?_eq_some_iff.1 hblk).1;exact hB
    case measure=>simp only [intOf];omega
   ·gi_wp2;go_ret;exact ⟨fk.trans f3,.inr ⟨rfl,k,h4,hJx3⟩⟩
  ·have:k=4:=by omega
   subst this;gi_wp2;go_ret;exact ⟨fk,.inl ⟨rfl,hJk⟩⟩
end Go.Proofs.YtnfakamfmkhlbabGreatDoor.C
namespace Go.Proofs.YtnfakamfmkhlbabGreatDoor.C
open Go.ChangeShapes Go.WideShapes Go.ChangeAt Go.RowKit
open Go.Proofs.YtnfakamfmkhlbabGreatDoor.P
attribute [local go_sem] setCell_drewN alloc_drewN
structure Fld (m:Nat->BitVec 64) (wh:Bool) (own oth beh:BitVec 64) (fc:Nat->Bool) (FA:Array Value):Prop where
 size:FA.size=20
 men:∀ i,i<12->FA[i]?=some (.int .u64 (U (m i)))
 wh:FA[12]?=some (.bool wh)
 own:FA[13]?=some (.int .u64 (U own))
 oth:FA[14]?=some (.int .u64 (U oth))
 beh:FA[15]?=some (.int .u64 (U beh))
 c:∀ i,i<4->FA[16+i]?=some (.bool (fc i))
theorem info20:(Tryz.prog.info? 202).map (·.size)=some 20:=by kernel_rfl
def FAt (b:Nat) (A:Array Value) (w:World):Prop:=b<w.heap.size/\w.rangeAt b 0 A.toList
theorem FAt.gr {b:Nat} {A:Array Value} {w w':World} (h:FAt b A w) (g:Gr w w'):FAt b A w' :=
 ⟨Nat.lt_of_lt_of_le h.1 (Below.size g),fun j v hv=>(Below.cell g (p:=⟨b,0+j,none⟩) h.1).trans (h.2 j v hv)⟩
theorem FAt.cell {b:Nat} {A:Array Value} {w:World} (h:FAt b A w) {i:Nat} {v:Value} (hv:A[i]?=some v):w.cell? ⟨b,i,none⟩=some v:=by
 have:=h.2 i v (by rw [Array.getElem?_toList];exact hv)
 rwa [Nat.zero_add] at this
theorem FAt.new (w:World) (A:Array Value) (t:TypeId):FAt w.heap.size A (w.alloc (.cells A t)):=⟨by rw [World.size_alloc];omega,fun j v hv=>by
 rw [World.cell?_alloc_at _ _ _ _ rfl,Nat.zero_add,<-Array.getElem?_toList];exact hv⟩
theorem FAt.take {b:Nat} {A:Array Value} {w:World} (h:FAt b A w) (n:Nat):w.rangeAt b 0 (A.toList.take n):=fun j v hv=>h.2 j v (by
 rw [List.getElem?_take] at hv;split at hv
 ·exact hv
 ·cases hv)
theorem y_fld {ops:Array Oper} {op:Oper} {a:Act} {FA:Array Value} (hz:FA.size=20) {S:World->Prop} (hw:Region.wanted op (yielded ops a.tmps)=true) (x:Operand) (ho:op.op=.load 202 x) (b:Nat) (hx:a.eval x=.pointer (some ⟨b,0,none⟩)) (hS:∀ w,S w->FAt b FA w):YieldsIf Tryz.prog ops S op (.agg FA) a:=by
 have:=yieldsIf_load_mid (P:=Tryz.prog) hw 202 x ho b 0 hx FA.toList _ (fun w h=>(hS w h).2) Tryz.underlying202 rfl (by rw [info20];simp [hz])
 rwa [Array.toArray_toList] at this
theorem wpList_load_fld {ops:Array Oper} {rest:List Oper} {o:Oper} {a:Act} {w:World} {A:Array Value} {Q:Exit->Act->World->Prop} (hw:Region.wanted o (yielded ops a.tmps)=true) (x:Operand) (ho:o.op=.load 202 x) (b:Nat) (hx:a.eval x=.pointer (some ⟨b,0,none⟩)) (hz:A.size=20) (hh:FAt b A w)
  (h:wpList Tryz.prog ops Q rest (a.put o.dst (.agg A)) w):wpList Tryz.prog ops Q (o :: rest) a w :=
 wpList_step fun K hK=>by
  rw [if_pos hw];refine wp_load_mid (P:=Tryz.prog) 202 x ho b 0 hx A.toList _ hh.2 Tryz.underlying202 rfl (by rw [info20];simp [hz]) ?_;rw [Array.toArray_toList];exact hK _ _ h
def upB (x:BitVec 64) (r:Int):BitVec 64:=if r<0 then x >>> (-8*r).toNat else x <<< (8*r).toNat
theorem up_U (x:BitVec 64) (r:Int):upI (U x) r=U (upB x r):=by
 unfold upI upB;have e:∀ n:Nat,(2:Int) ^ n=((2 ^ n:Nat):Int):=fun n=>by simp
 split
 ·rw [e,shr_U]
 ·rw [e,shl_U]
def dirI (wh:Bool):Int:=if wh then 1 else -1
def thirdB (wh:Bool):BitVec 64:=if wh then upB 255#64 2 else upB 18374686479671623680#64 (-2)
def onceB (wh:Bool) (own oth:BitVec 64) (f:Nat):BitVec 64:=upB (1#64 <<< f) (dirI wh) &&& ~~~(own ||| oth)
def aheadB (wh:Bool) (own oth:BitVec 64) (f:Nat):BitVec 64:=onceB wh own oth f ||| (upB (onceB wh own oth f &&& thirdB wh) (dirI wh) &&& ~~~(own ||| oth))
variable {m:Nat->BitVec 64} {wh:Bool} {own oth beh:BitVec 64} {fc:Nat->Bool} {FA:Array Value}
theorem ranks_any (r:Fld m wh own oth beh fc FA) (w:World):Calls Tryz.prog 258 #[.agg FA] w fun e w'=>e=.returned (.int .i64 (dirI wh))/\Gr w w':=by
 have hc:=(FAt.new w FA 202).cell r.wh;clear r;cases wh
 all_goals
  go_enter Tryz.func258,Tryz.ntmps258;go_wp2;go_ret;exact ⟨rfl,(Gr.refl _).alloc _ _⟩
theorem not_U (x:BitVec 64):bits .xor .u64 (if IntKind.u64.signed=true then -1 else IntKind.u64.max) (U x)=U (~~~x):=by
 rw [show (if IntKind.u64.signed=true then -1 else IntKind.u64.max)=U (BitVec.allOnes 64) from by decide +kernel,xor_U,BitVec.allOnes_xor]
def HF (w1:World) (b:Nat) (FA:Array Value) (W:World):Prop:=FAt b FA W/\Gr w1 W
theorem HF.gr {w1 W W':World} {b:Nat} {FA:Array Value} (h:HF w1 b FA W) (g:Gr W W'):HF w1 b FA W':=⟨h.1.gr g,Gr.trans h.2 g⟩
theorem ahead_any (r:Fld m wh own oth beh fc FA) (f:Nat) (hf:f<64) (w:World):Calls Tryz.prog 209 #[.agg FA,.int .i64 (f:Int)] w fun e w'=>e=.returned (.int .u64 (U (aheadB wh own oth f)))/\Gr w w':=by
 have hr1:=FAt.new w FA 202;have hg1:=(Gr.refl w).alloc FA 202;have hz:=hide r.size;have hrk:=hide (fun W=>ranks_any r W);have hone:=hide (fun W=>one_any (f:Int) (by omega) (by omega) W);rw [one_U f hf] at hone;have c12:=hr1.cell r.wh;have c13:=hr1.cell r.own;have c14:=hr1.cell r.oth;have hup:Hid (∀ (x q:Int) (h0:-7<=q) (h1:q<=7) (W:World),Calls Tryz.prog 253 #[.int .u64 x,.int .i64 q] W fun e w'=>e=.returned (.int .u64 (upI x q))/\w'=W):=hide (fun x q h0 h1 W=>up_any x q W h0 h1);clear r;have hor:∀ x y:BitVec 64,bits .or .u64 (U x) (U y)=U (x ||| y):=or_U;have hno:=not_U (own ||| oth);have hth:Hid (thirdB wh=if wh then upB 255#64 2 else upB 18374686479671623680#64 (-2)):=hide rfl;obtain ⟨d,hd⟩:∃ d,Hid (dirI wh=d):=⟨_,hide rfl⟩;rw [unhide hd] at hrk;have hd0:(-7:Int)<=d/\d<=7:=by rw [<-unhide hd];cases wh<;>decide
 obtain ⟨hd1,hd2⟩:=hd0;have fin:Hid (∀ T:BitVec 64,T=thirdB wh->aheadB wh own oth f=(upB (1#64 <<< f) d &&& ~~~(own ||| oth)) ||| (upB ((upB (1#64 <<< f) d &&& ~~~(own ||| oth)) &&& T) d &&& ~~~(own ||| oth))):=hide (fun T hT=>by unfold aheadB onceB;rw [unhide hd,hT]);generalize aheadB wh own oth f=R at fin ⊢;generalize hT:thirdB wh=T at fin hth;replace fin:=hide (unhide fin _ rfl)
 have hTU:Hid (U T=if wh then upI 255 2 else upI 18374686479671623680 (-2)):=hide (by
  rw [unhide hth];rw [show (255:Int)=U 255#64 from by decide +kernel,show (18374686479671623680:Int)=U 18374686479671623680#64 from by decide +kernel,up_U,up_U];cases wh<;>rfl)
 clear hth hT hd;generalize hN : ~~~(own ||| oth)=N at fin hno;clear hN;cases wh
 all_goals
  have hTU':=unhide hTU;simp only [Bool.false_eq_true,if_false,if_true] at hTU';clear hTU;go_enter Tryz.func209,Tryz.ntmps209;go_upto_region 5 with (go_at_call 253;refine (unhide hup _ _ (by decide) (by decide) _).mono ?_;rintro e w' ⟨rfl,rfl⟩);have hH:HF w w.heap.size FA (w.alloc (.cells FA 202)).drew:=⟨hr1.gr (Gr.refl _).drew,hg1.drew⟩;generalize w.alloc (.cells FA 202)=w1 at hH ⊢;refine wp_region_held_drew (S:=HF w w.heap.size FA) (by kernel_rfl) hH (fun hHeld=>?_);refine C.tq 0 (.int .i64 (f:Int)) hHeld ?_;refine C.ty 2 (.agg FA) rfl (y_fld (unhide hz) (by rfl) _ rfl w.heap.size rfl (fun _ h=>h.1)) hHeld ?_;refine C.tq 5 (.int .u64 (U N)) hHeld ?_;refine C.rd 1 fun K hK=>?_
  go_simp;refine (unhide hone _).mono ?_;rintro e wa ⟨rfl,rfl⟩;refine hK.out _ _ hHeld (fun hHeld=>?_);clear hK K;refine C.rd 3 fun K hK=>?_
  go_simp;refine (unhide hrk _).mono ?_;rintro e wb ⟨rfl,hgb⟩;refine hK.out _ _ (hHeld.gr hgb) (fun hHeld=>?_);clear hK K hgb;refine C.rd 4 fun K hK=>?_
  go_simp;refine (unhide hup _ _ hd1 hd2 _).mono ?_;rintro e wc ⟨rfl,rfl⟩;refine hK.out _ _ hHeld (fun hHeld=>?_);clear hK K;have e1:bits .and .u64 (upI (U (1#64 <<< f)) d) (U N)=U (upB (1#64 <<< f) d &&& N):=by rw [up_U,and_U]
  generalize upB (1#64 <<< f) d &&& N=O at e1 fin;refine C.tq 6 (.int .u64 (U O)) hHeld ?_;refine C.rd 7 fun K hK=>?_
  go_simp;refine hK.out _ _ hHeld (fun hHeld=>?_);clear hK K;refine wpAnyH_done (by kernel_rfl) ?_ _;have e2:∀ y,U T=y->bits .and .u64 (U O) y=U (O &&& T):=fun y h=>by rw [<-h,and_U]
  have e2':=e2 _ hTU';have e3:bits .and .u64 (upI (U (O &&& T)) d) (U N)=U (upB (O &&& T) d &&& N):=by rw [up_U,and_U]
  clear e2 hTU' e1 hno c12 c13 c14 hr1 hg1 hone;have hhe:=hide hHeld;clear hHeld hH
  go_wp2_with (first
   | (go_at_call 258;refine (unhide hrk _).mono ?_;rintro e wr ⟨rfl,hgr⟩)
   | (go_at_call 253;refine (unhide hup _ _ hd1 hd2 _).mono ?_;rintro e w' ⟨rfl,hww⟩;have hww':=hww.symm;subst hww';clear hww)
   | (refine wpList_load_fld (by rfl) _ rfl w.heap.size rfl (unhide hz) (unhide hhe).1 ?_))
  go_ret;exact ⟨by rw [unhide fin];rfl,Gr.trans (unhide hhe).2 hgr⟩
end Go.Proofs.YtnfakamfmkhlbabGreatDoor.C
namespace Go.Proofs.YtnfakamfmkhlbabGreatDoor.C
open Go.ChangeShapes Go.WideShapes Go.ChangeAt Go.RowKit Go.Shelf
open Go.Proofs.YtnfakamfmkhlbabGreatDoor.P
attribute [local go_sem] setCell_drewN alloc_drewN Oper.semAt_some
variable {m:Nat->BitVec 64} {wh:Bool} {own oth beh:BitVec 64} {fc:Nat->Bool} {FA:Array Value}
def menOf (FA:Array Value):Array Value:=(FA.toList.take 12).toArray
theorem Fld.isMen (r:Fld m wh own oth beh fc FA):IsMen m (menOf FA):=by
 refine ⟨by simp [menOf,r.size],fun i hi=>?_⟩;have:=r.men i hi;rw [menOf,List.getElem?_toArray,List.getElem?_take,if_pos hi,Array.getElem?_toList];exact this
theorem Fld.held (r:Fld m wh own oth beh fc FA) {b:Nat} {W:World} (h:FAt b FA W):HeldAt b (menOf FA) W:=by
 refine ⟨h.1,?_,by simp [menOf,r.size]⟩;have:=h.take 12
 rwa [menOf]
theorem sqs_lt {s:BitVec 64} {x:Nat} (h:x∈sqs s):x<64:=by
 unfold sqs at h;exact List.mem_range.1 (List.mem_filter.1 h).1
theorem pre_mem {α:Type} {pre xs:List α} {x:α} (h:pre++[x] <+: xs):x∈xs:=h.subset (by simp)
def anyB (m:Nat->BitVec 64) (s:BitVec 64) (wh:Bool):Bool:=(sqs s).any fun y=>attackedS m (y:Int) (!wh)
theorem res_any (tmps:Array Value) (w:World) (b:Nat) (v:Value) (hp:tmps.getD 4 undef=.pointer (some ⟨b,0,none⟩)) (hc:w.cell? ⟨b,0,none⟩=some v):(results Tryz.f212 tmps).run Tryz.prog w=.ok v w:=by
 have hp':tmps[4]?.getD undef=.pointer (some ⟨b,0,none⟩):=by simpa using hp
 simp [results,Tryz.results212,hp',asAddr,go_sem,hc]
theorem heapTwo (w:World) (o1 o2:Obj):((w.alloc o1).alloc o2).heap[w.heap.size]?=some o1/\((w.alloc o1).alloc o2).heap[w.heap.size+1]?=some o2:=by
 constructor
 ·rw [Below.heap_alloc _ _ _ (by simp)];exact World.alloc_heap_new w _
 ·have:=World.alloc_heap_new (w.alloc o1) o2;rwa [World.size_alloc] at this
theorem anyAtt_any (r:Fld m wh own oth beh fc FA) (s:BitVec 64) (w:World) (hT:TabIn w):Calls Tryz.prog 212 #[.agg FA,.int .u64 (U s)] w fun e w'=>e=.returned (.bool (anyB m s wh))/\Gr w w':=by
 have hM:=hide r.isMen;have hr:=hide r;have hz:=hide r.size;clear r;refine (callsIn_wide (n:=3)).1 ?_;refine callsIn_of_wp_marks Tryz.func212 rfl trivial ?_ rfl;simp only [Tryz.ntmps212,List.size_toArray,List.length_cons,List.length_nil,Nat.reduceAdd,Nat.reduceSub,Array.replicate_succ,Array.replicate_zero,List.push_toArray,List.append_toArray,List.nil_append,List.cons_append];gi_wp2_with (refine ⟨trivial,?_⟩;gi_at_call 132;refine (callsIn_wide.2 (squares_any _ _)).mono ?_;rintro e w5 ⟨rfl,rfl⟩);obtain ⟨h1,h2⟩:=heapTwo w (.cells FA 202) (.cells #[.bool false] 4);generalize hw2:(w.alloc (.cells FA 202)).alloc (.cells #[.bool false] 4)=w2 at h1 h2 ⊢;have hs2:w2.heap.size=w.heap.size+2:=by rw [<-hw2];simp
 have hg2:Gr w w2:=by rw [<-hw2];exact ((Gr.refl w).alloc _ _).alloc _ _
 clear hw2;generalize hw3:w2.alloc (.cells #[.int .u64 (U s)] 195)=w3;have hs3:w3.heap.size=w.heap.size+3:=by rw [<-hw3,World.size_alloc,hs2]
 have hg3:Gr w2 w3:=by rw [<-hw3];exact (Gr.refl _).alloc _ _
 have b0:w3.heap[w.heap.size]?=some (.cells FA 202):=(Below.block hg3 _ (by omega)).trans h1;have b1:w3.heap[w.heap.size+1]?=some (.cells #[.bool false] 4):=(Below.block hg3 _ (by omega)).trans h2;have hc3:w3.cell? ⟨w2.heap.size,0,none⟩=some (.int .u64 (U s)):=by rw [<-hw3];exact (cell_new_l w2 _ _).1
 have hG3:=Gr.trans hg2 hg3;have hT3:=hT.gr hG3;have hT0:=hT.2;clear hw3 hg3 h1 h2 hg2;rw [hs2] at hc3
 refine range_out (gf:=207) (lb:=#[.pointer (some ⟨w.heap.size+2,0,none⟩)]) rfl (enters_of Tryz.func207 (by kernel_rfl) rfl)
  (sq_it s (w.heap.size+2) (fun _=>False) w3 hc3 hT3.1) (fun _ h=>h.elim) (by rintro k (rfl|rfl)<;>omega) (Fr.refl _ _) (fun _=>rfl)
  (fun pre W=>(∀ y∈pre,attackedS m (y:Int) (!wh)=false)/\Below w3.heap.size w3 W)
  (fun c pre W=>c=.ret/\(∃ y∈pre,attackedS m (y:Int) (!wh)=true)/\W.heap[w.heap.size+1]?=some (.cells #[.bool true] 4)/\Gr w W/\w3.heap.size<=W.heap.size)
  ?sI ?sX ⟨fun y hy=>absurd hy (List.not_mem_nil),Below.refl _ _⟩ ?round ?done ?stop
 case sI=>exact fun s A A' h f=>⟨h.1,h.2.trans (f.below h.2.size (fun _ _ hk=>.inl hk))⟩
 case sX=>exact fun c s A A' h f=>⟨h.1,h.2.1,f.same _ _ h.2.2.1 (.inl (by omega)),Below.trans h.2.2.2.1 ((f.below h.2.2.2.2 (fun _ _ hk=>.inl hk)).mono (by omega)),Nat.le_trans h.2.2.2.2 f.size⟩
 case round =>
  intro l pre x W hbl hx hi hl;gi_wp2;refine ⟨Fr.refl _ _,?_⟩;rintro W2-⟨hpre,hB⟩ -;have hxm:=sqs_lt (pre_mem hx);have hx0:(0:Int)<=(x:Int):=by omega
  have hx1:(x:Int)<=63:=by omega
  have d0:=(Below.block hB w.heap.size (by omega)).trans b0;have d2:=(Below.block hB (w.heap.size+1) (by omega)).trans b1;have hra:FAt w.heap.size FA W2:=⟨(Array.getElem?_eq_some_iff.1 d0).1,fun j v hv=>by rw [cell_of_row _ _ _ _ _ _ d0,Nat.zero_add,<-Array.getElem?_toList];exact hv⟩;have hheld:=(unhide hr).held hra;have c12:=hra.cell (unhide hr).wh;have hat:=hide (attacked_any m _ (unhide hM) (x:Int) hx0 hx1 (!wh) W2);have hszW:w.heap.size+1<W2.heap.size:=(Array.getElem?_eq_some_iff.1 d2).1;have hpre':=hide hpre;have hB':=hide hB;have d2':=hide d2;have b':=hide (And.intro b0 b1);obtain ⟨v,hv⟩:∃ v,Hid (attackedS m (x:Int) (!wh)=v):=⟨_,hide rfl⟩;rw [unhide hv] at hat;clear hpre hB d0 d2 b0 b1 hc3 hi hra;cases v
  ·gi_wp2_with (first
    | (refine wpListIn_load_men rfl _ rfl w.heap.size rfl hheld ?_)
    | (refine ⟨trivial,?_⟩;gi_at_call 127;refine (CallsIn.inRound l (callsIn_wide.2 (unhide hat))).mono ?_;rintro e w' ⟨rfl,hg⟩))
   refine ⟨Fr.of_gr hg,fun y hy=>?_,(unhide hB').trans (Below.mono hg (Below.size (unhide hB')))⟩;rcases List.mem_append.1 hy with h|h
   ·exact unhide hpre' y h
   ·rw [List.mem_singleton] at h;subst h;exact unhide hv
  ·gi_wp2_with (first
    | (refine wpListIn_load_men rfl _ rfl w.heap.size rfl hheld ?_)
    | (refine ⟨trivial,?_⟩;gi_at_call 127;refine (CallsIn.inRound l (callsIn_wide.2 (unhide hat))).mono ?_;rintro e w' ⟨rfl,hg⟩;have d3:=(Below.block hg (w.heap.size+1) hszW).trans (unhide d2');have d4:=cell_of_box_l d3;obtain ⟨d4a,d4b⟩:=d4))
   refine ⟨(Fr.of_gr hg).setCell _ ?_,rfl,⟨x,List.mem_append.2 (.inr (List.mem_singleton.2 rfl)),unhide hv⟩,set_box d3,Below.setCell (Gr.trans (Gr.trans hG3 (unhide hB')) hg) (show w.heap.size<=w.heap.size+1 by omega) _,?_⟩
   ·rintro o-(q|q)
    ·rcases q with q|q
     ·simp at q
     ·simp at q;omega
    ·have:=q.1;simp at this;omega
   ·have e1:=Below.size (unhide hB');have e2:=Below.size hg;simp [World.setCell];omega
 case done =>
  rintro D W hD ⟨hpre,hB⟩ hK;have d2:=(Below.block hB (w.heap.size+1) (by omega)).trans b1;obtain ⟨d2a,d2b⟩:=cell_of_box_l d2;have hK':=hide ((KeepsOthers.setCell W ⟨w.heap.size+1,0,none⟩ (.bool false)).same D _ hK rfl)
  have hv:Hid (anyB m s wh=false):=hide (by
   unfold anyB;rw [List.any_eq_false];intro y hy;rw [hpre y hy];decide)
  have hres:=hide (cell_of_box_l (put_far (D:=D) (o':=.deferred none) (set_box (v:=.bool false) d2) (by omega))).1;have hgr:Hid (Gr w ((W.setCell ⟨w.heap.size+1,0,none⟩ (.bool false)).putObj D (.deferred none))):=hide ((Below.setCell (Gr.trans hG3 hB) (show w.heap.size<=w.heap.size+1 by omega) _).trans (belowK_b (w:=w3) (n₀:=w.heap.size) (by omega) _ D _ _ hD (unhide hK') rfl rfl));clear hpre hB b0 b1 d2;gi_wp2;refine ⟨by simp,.inl ⟨_,_,rfl,run_takeDeferred (unhide hK'),?_⟩⟩;exact ⟨_,res_any _ _ _ _ rfl (unhide hres),by rw [unhide hv],unhide hgr⟩
 case stop =>
  rintro D c pre W hD hpre ⟨rfl,⟨y,hy1,hy2⟩,d2,hgw,_⟩ hK
  have hv:Hid (anyB m s wh=true):=hide (by
   unfold anyB;rw [List.any_eq_true];exact ⟨y,hpre.subset hy1,hy2⟩)
  have hres:=hide (cell_of_box_l (put_far (D:=D) (o':=.deferred none) d2 (by omega))).1;have hgr:Hid (Gr w (W.putObj D (.deferred none))):=hide (Below.trans hgw (belowK_b (w:=w3) (n₀:=w.heap.size) (by omega) _ D _ _ hD hK rfl rfl));gi_wp2;refine ⟨by simp,.inl ⟨_,_,rfl,run_takeDeferred hK,?_⟩⟩;exact ⟨_,res_any _ _ _ _ rfl (unhide hres),by rw [unhide hv],unhide hgr⟩
end Go.Proofs.YtnfakamfmkhlbabGreatDoor.C
