import Derived.Test.YtnfakamfmkhlbabGreatDoorKb25
import Derived.Test.YtnfakamfmkhlbabGreatDoorKb7
import Derived.Test.YtnfakamfmkhlbabGreatDoorKb21
import Derived.Test.YtnfakamfmkhlbabGreatDoorKb13
import Derived.Test.YtnfakamfmkhlbabGreatDoorKb12
import Derived.Test.YtnfakamfmkhlbabGreatDoorKb4
import Derived.Deep.QuietTactic
import Derived.BigQuiet
import Derived.Deep.RegionHeld3
import Derived.Test.YtnfakamfmkhlbabGreatDoorKb14
set_option maxRecDepth 100000
set_option maxHeartbeats 4000000
set_option linter.unusedSimpArgs false
namespace Go.Proofs.YtnfakamfmkhlbabGreatDoor.C
open Go.ChangeShapes Go.WideShapes Go.ChangeAt Go.RowKit Go.Shelf
open Go.Proofs.YtnfakamfmkhlbabGreatDoor.P
attribute [local go_sem] setCell_drewN alloc_drewN Oper.semAt_some
def nmU (z:Nat->UInt8) (k:Nat):List Nat:=(List.range k).filterMap fun n=>if 0<=ixc (z n) then some (64*(ixc (z n)).toNat+n+1) else none
def cmU (fc:Nat->Bool) (k:Nat):List Nat:=(List.range k).filterMap fun n=>if fc n then some (769+n) else none
theorem nmU_succ (z:Nat->UInt8) (k:Nat):nmU z (k+1)=nmU z k++(if 0<=ixc (z k) then [64*(ixc (z k)).toNat+k+1] else []):=by
 unfold nmU;rw [List.range_succ,List.filterMap_append];congr 1;by_cases h:0<=ixc (z k)
 ·simp [h]
 ·simp [h]
theorem cmU_succ (fc:Nat->Bool) (k:Nat):cmU fc (k+1)=cmU fc k++(if fc k then [769+k] else []):=by
 unfold cmU;rw [List.range_succ,List.filterMap_append];congr 1;cases h:fc k<;>simp [h]
theorem nmU_pre (z:Nat->UInt8) (k:Nat):∀ d,nmU z k <+: nmU z (k+d)
 | 0=>List.prefix_refl _
 | d+1=>by rw [<-Nat.add_assoc,nmU_succ];exact (nmU_pre z k d).trans (List.prefix_append _ _)
theorem cmU_pre (fc:Nat->Bool) (k:Nat):∀ d,cmU fc k <+: cmU fc (k+d)
 | 0=>List.prefix_refl _
 | d+1=>by rw [<-Nat.add_assoc,cmU_succ];exact (cmU_pre fc k d).trans (List.prefix_append _ _)
def whN (wh:Bool):List Nat:=if wh then [] else [773]
def bhN (b:Int):List Nat:=if 0<=b then [774+(b%8).toNat] else []
theorem nums_is (z:Nat->UInt8) (wh:Bool) (fc:Nat->Bool) (b:Int):numsS z wh fc b=nmU z 64++cmU fc 4++whN wh++bhN b:=rfl
theorem nums_b {z:Nat->UInt8} {wh:Bool} {fc:Nat->Bool} {b:Int} {k:Nat} (hk:k<=64):nmU z k <+: numsS z wh fc b:=by
 rw [nums_is,List.append_assoc,List.append_assoc];have:=nmU_pre z k (64-k);rw [show k+(64-k)=64 from by omega] at this;exact this.trans (List.prefix_append _ _)
theorem nums_c {z:Nat->UInt8} {wh:Bool} {fc:Nat->Bool} {b:Int} {k:Nat} (hk:k<=4):nmU z 64++cmU fc k <+: numsS z wh fc b:=by
 rw [nums_is,List.append_assoc,List.append_assoc];have:=cmU_pre fc k (4-k);rw [show k+(4-k)=4 from by omega] at this;exact (List.prefix_append_right_inj _).2 (this.trans (List.prefix_append _ _))
theorem cL4 {fc:Nat->Bool} {Bp:Nat} {W:World} (h:∀ i,i<4->W.cell? ⟨Bp,65+i,none⟩=some (.bool (fc i))):W.rangeAt Bp 65 [.bool (fc 0),.bool (fc 1),.bool (fc 2),.bool (fc 3)]:=by
 intro j v hv;have hj:j<4:=(List.getElem?_eq_some_iff.1 hv).1;have:j=0\/j=1\/j=2\/j=3:=by omega
 rcases this with rfl|rfl|rfl|rfl<;>(rw [<-hv];exact h _ (by omega))
theorem infoB4:(Tryz.prog.info? 68).map (·.size)=some 4:=by kernel_rfl
theorem ix4b0 (c0 c1 c2 c3:Bool) (w:World):(Instr.index 68 (.agg #[.bool c0,.bool c1,.bool c2,.bool c3]) (.int .i64 0)).run Tryz.prog w=.ok (.bool c0) w:=by kernel_rfl
theorem ix4b1 (c0 c1 c2 c3:Bool) (w:World):(Instr.index 68 (.agg #[.bool c0,.bool c1,.bool c2,.bool c3]) (.int .i64 1)).run Tryz.prog w=.ok (.bool c1) w:=by kernel_rfl
theorem ix4b2 (c0 c1 c2 c3:Bool) (w:World):(Instr.index 68 (.agg #[.bool c0,.bool c1,.bool c2,.bool c3]) (.int .i64 2)).run Tryz.prog w=.ok (.bool c2) w:=by kernel_rfl
theorem ix4b3 (c0 c1 c2 c3:Bool) (w:World):(Instr.index 68 (.agg #[.bool c0,.bool c1,.bool c2,.bool c3]) (.int .i64 3)).run Tryz.prog w=.ok (.bool c3) w:=by kernel_rfl
theorem ix4b (fc:Nat->Bool) (k:Nat) (hk:k<4) (w:World):(Instr.index 68 (.agg #[.bool (fc 0),.bool (fc 1),.bool (fc 2),.bool (fc 3)]) (.int .i64 (k:Int))).run Tryz.prog w=.ok (.bool (fc k)) w:=by
 have:k=0\/k=1\/k=2\/k=3:=by omega
 rcases this with rfl|rfl|rfl|rfl
 ·exact ix4b0 _ _ _ _ w
 ·exact ix4b1 _ _ _ _ w
 ·exact ix4b2 _ _ _ _ w
 ·exact ix4b3 _ _ _ _ w
theorem ix64N (z:Nat->UInt8) (k:Nat) (hk:k<64) (w:World):(Instr.index 67 (.agg (zL z).toArray) (.int .i64 (k:Int))).run Tryz.prog w=.ok (.int .u8 ((z k).toNat:Int)) w:=ix64 _ k hk _ ((zL_arr z).2 k hk) w
theorem numbers_it {z:Nat->UInt8} {wh:Bool} {fc:Nat->Bool} {b:Int} (hok:layOk z=true) (hb0:-1<=b) (hb1:b<=63) (B1 Bp:Nat) (T:Obj->Prop) (w:World) (h1:w.cell? ⟨B1,0,none⟩=some (.pointer (some ⟨Bp,0,none⟩))) (hps:Ps z wh fc b Bp w) :
  It Tryz.prog 294 #[.pointer (some ⟨B1,0,none⟩)] (fun x:Nat=>#[Value.int .i64 (x:Int)]) T (fun k=>k=B1\/k=Bp) (numsS z wh fc b) w:=by
 intro l B J Jx W f0 hB hJ hJx hY h0;have c0:=f0.cell h1 (fun _ _=>.inl rfl);have hP:=hps.fr f0 (fun _ _=>.inr rfl);clear f0 h1 hps;refine (callsIn_wide (n:=1)).1 ?_;refine callsIn_of_wp Tryz.func294 rfl trivial ?_ rfl;simp only [Tryz.ntmps294,List.size_toArray,List.length_cons,List.length_nil,Nat.reduceAdd,Nat.reduceSub,Array.replicate_succ,Array.replicate_zero,List.push_toArray,List.append_toArray,List.nil_append,List.cons_append];refine wpIn_wide.2 ?_;have crg:=hP.bd.range;go_wp2_with (refine wpList_load_mid rfl 67 _ rfl Bp 0 rfl (zL z) _ crg Tryz.underlying67 rfl (by rw [zL_len];exact info64) ?_);refine (wpIn_wide (n:=1)).1 ?_;have hcL:=hP;gi_loopw [11] (fun p wr=>∃ k:Nat,k<=64/\p=.int .i64 (k:Int)/\wr.cell? ⟨B1,0,none⟩=some (.pointer (some ⟨Bp,0,none⟩))/\Ps z wh fc b Bp wr/\J (nmU z k) wr) (fun p _=>64-(intOf p).toNat)
 case atStart=>exact ⟨0,by omega,rfl,c0,hP,h0⟩
 case round =>
  clear c0 hP h0 crg hcL;obtain ⟨k,hk,rfl,c0,hP,hJk⟩:=hrel;have hP':=hide hP;have hJk':=hide hJk;clear hP hJk;by_cases hlt:k<64
  ·have hix:=ix64N z k hlt
   have hoy:okY (z k)=true:=by
    have hok2:=hok;unfold layOk at hok2;exact (List.all_eq_true.1 hok2) k (List.mem_range.2 hlt)
   have hk0:(0:Int)<=(k:Int):=by omega
   have hk64:(k:Int)<64:=by omega
   have ekk:IntKind.i64.wrap ((k:Int)+1)=(((k+1:Nat)):Int):=by rw [IntKind.wrap_i64];omega
   have hsu:Hid (nmU z (k+1)=nmU z k++(if 0<=ixc (z k) then [64*(ixc (z k)).toNat+k+1] else [])):=hide (nmU_succ z k);by_cases hdot:z k=46
   ·have hne:(((z k).toNat:Int) != 46)=false:=by rw [hdot];rfl
    have hs2:Hid (nmU z (k+1)=nmU z k):=hide (by rw [unhide hsu,if_neg (by rw [hdot];decide),List.append_nil]);clear hsu hoy hdot;gi_wp2_with ((with_reducible apply And.intro);(first|exact trivial|(intro _ _;trivial)));go_roundw
    case rel=>exact ⟨k+1,by omega,rfl,c0,unhide hP',by rw [unhide hs2];exact unhide hJk'⟩
    case measure=>simp only [intOf];omega
   ·have hne:(((z k).toNat:Int) != 46)=true:=by
     rw [bne_iff_ne];intro e;apply hdot;apply UInt8.toNat_inj.1;have:(z k).toNat=46:=by omega
     rw [this];rfl
    have hge:0<=ixc (z k):=by
     rw [ok_ix,Bool.or_eq_true,beq_iff_eq,decide_eq_true_eq] at hoy;exact hoy.resolve_left hdot
    have hlt12:=(ix_bd (z k)).2;obtain ⟨m,hm⟩:=Int.eq_ofNat_of_zero_le hge;have hs2:nmU z (k+1)=nmU z k++[64*m+k+1]:=by rw [unhide hsu,if_pos hge,hm];rfl
    have hib:Hid (∀ W:World,Calls Tryz.prog 200 #[.string ⟨#[80,78,66,82,81,75,112,110,98,114,113,107]⟩,.int .u8 ((z k).toNat:Int)] W fun e w'=>e=.returned (.int .i64 (m:Int))/\w'=W):=hide (fun W=>by
     refine (Tryz.strings_IndexByte _ _ _).mono ?_;rintro e w' ⟨rfl,rfl⟩;have hu:((z k).toNat:Int).toNat.toUInt8=z k:=by simp
     exact ⟨by rw [<-hm];simp only [hu];rfl,rfl⟩)
    have m12:m<12:=by omega
    have e1:IntKind.i64.wrap (64*(m:Int))=64*(m:Int):=by rw [IntKind.wrap_i64];omega
    have e2:IntKind.i64.wrap (64*(m:Int)+(k:Int))=64*(m:Int)+(k:Int):=by rw [IntKind.wrap_i64];omega
    have e3:IntKind.i64.wrap (64*(m:Int)+(k:Int)+1)=((64*m+k+1:Nat):Int):=by rw [IntKind.wrap_i64];omega
    obtain ⟨fn,tmps,assign,body,hy,hR⟩:=hY (nmU z k) (64*m+k+1) wr (by rw [<-hs2];exact nums_b (by omega)) (unhide hJk');have hs3:=hide hs2;clear hsu hoy hdot hs2 hge hlt12 hm;generalize 64*m+k+1=xx at hy hR e3 hs3;gi_wp2_with (refine ⟨trivial,?_⟩;gi_at_call 200;refine (callsIn_wide.2 (unhide hib _)).mono ?_;rintro e w' ⟨rfl,rfl⟩);refine hR.mono ?_;rintro e W3 ⟨f3,⟨rfl,hJ3⟩|⟨rfl,hJx3⟩⟩
    ·have c3:=f3.cell c0 (fun _ _=>.inl (.inl rfl));have hP3:=(unhide hP').fr f3 (fun _ _=>.inl (.inr rfl));gi_wp2;go_roundw
     case rel=>exact ⟨k+1,by omega,rfl,c3,hP3,by rw [unhide hs3];exact hJ3⟩
     case measure=>simp only [intOf];omega
    ·gi_wp2;refine bodyPost_ret (results_none rfl _ _ _) rfl ?_;exact ⟨⟨_,rfl⟩,.inr ⟨nmU z k++[xx],by rw [<-unhide hs3];exact nums_b (by omega),hJx3⟩⟩
  ·have ek:k=64:=by omega
   subst ek;clear hlt;have hP:=unhide hP';have crg:=cL4 hP.c;refine wpIn_wide.2 ?_;go_wp2_with (refine wpList_load_mid rfl 68 _ rfl Bp 65 rfl [.bool (fc 0),.bool (fc 1),.bool (fc 2),.bool (fc 3)] _ crg Tryz.underlying68 rfl infoB4 ?_);refine (wpIn_wide (n:=1)).1 ?_;gi_loopw [33] (fun p wr=>∃ k:Nat,k<=4/\p=.int .i64 (k:Int)/\wr.cell? ⟨B1,0,none⟩=some (.pointer (some ⟨Bp,0,none⟩))/\Ps z wh fc b Bp wr/\J (nmU z 64++cmU fc k) wr) (fun p _=>4-(intOf p).toNat)
   case atStart=>exact ⟨0,by omega,rfl,c0,hP,by rw [show cmU fc 0=[] from rfl,List.append_nil];exact unhide hJk'⟩
   case round =>
    clear c0 hP hP' hJk' crg;obtain ⟨k,hk,rfl,c0,hP,hJk⟩:=hrel;have hP':=hide hP;have hJk':=hide hJk;clear hP hJk;by_cases hlt:k<4
    ·have hix:=ix4b fc k hlt;have hk0:(0:Int)<=(k:Int):=by omega
     have hk64:(k:Int)<4:=by omega
     have ekk:IntKind.i64.wrap ((k:Int)+1)=(((k+1:Nat)):Int):=by rw [IntKind.wrap_i64];omega
     have hsu:Hid (cmU fc (k+1)=cmU fc k++(if fc k then [769+k] else [])):=hide (cmU_succ fc k);cases hfk:fc k
     ·have hs2:Hid (nmU z 64++cmU fc (k+1)=nmU z 64++cmU fc k):=hide (by rw [unhide hsu,hfk];simp);rw [hfk] at hix;clear hsu hfk;gi_wp2_with ((with_reducible apply And.intro);(first|exact trivial|(intro _ _;trivial)));go_roundw
      case rel=>exact ⟨k+1,by omega,rfl,c0,unhide hP',by rw [unhide hs2];exact unhide hJk'⟩
      case measure=>simp only [intOf];omega
     ·have hs2:nmU z 64++cmU fc (k+1)=nmU z 64++cmU fc k++[769+k]:=by rw [unhide hsu,hfk];simp
      have e3:IntKind.i64.wrap (769+(k:Int))=((769+k:Nat):Int):=by rw [IntKind.wrap_i64];omega
      obtain ⟨fn,tmps,assign,body,hy,hR⟩:=hY (nmU z 64++cmU fc k) (769+k) wr (by rw [<-hs2];exact nums_c (by omega)) (unhide hJk');have hs3:=hide hs2;rw [hfk] at hix;clear hsu hfk hs2;generalize 769+k=xx at hy hR e3 hs3;gi_wp2;refine hR.mono ?_;rintro e W3 ⟨f3,⟨rfl,hJ3⟩|⟨rfl,hJx3⟩⟩
      ·have c3:=f3.cell c0 (fun _ _=>.inl (.inl rfl));have hP3:=(unhide hP').fr f3 (fun _ _=>.inl (.inr rfl));gi_wp2;go_roundw
       case rel=>exact ⟨k+1,by omega,rfl,c3,hP3,by rw [unhide hs3];exact hJ3⟩
       case measure=>simp only [intOf];omega
      ·gi_wp2;refine bodyPost_ret (results_none rfl _ _ _) rfl ?_;exact ⟨⟨_,rfl⟩,.inr ⟨nmU z 64++cmU fc k++[xx],by rw [<-unhide hs3];exact nums_c (by omega),hJx3⟩⟩
    ·have ek:k=4:=by omega
     subst ek;clear hlt;have hfi:=hide (nums_is z wh fc b);obtain ⟨pre,hpre⟩:∃ l,Hid (l=nmU z 64++cmU fc 4):=⟨_,hide rfl⟩;rw [<-unhide hpre] at hJk' hfi;have cw:=(unhide hP').wh;have cb:=(unhide hP').b;have hbn:Hid (bhN b=if 0<=b then [774+(b%8).toNat] else []):=hide rfl;cases wh
     ·have hn1:numsS z false fc b=pre++[773]++bhN b:=unhide hfi;obtain ⟨fn,tmps,assign,body,hy,hR⟩:=hY pre 773 wr (by rw [hn1];exact List.prefix_append _ _) (unhide hJk');have hn1':=hide hn1;simp only [show ((773:Nat):Int)=773 from rfl] at hy;clear hfi hpre hn1;gi_wp2;refine (wpIn_wide (n:=1)).1 ?_;gi_wp2;refine hR.mono ?_;rintro e W3 ⟨f3,⟨rfl,hJ3⟩|⟨rfl,hJx3⟩⟩
      ·have c3:=f3.cell c0 (fun _ _=>.inl (.inl rfl));have cb3:=((unhide hP').fr f3 (fun _ _=>.inl (.inr rfl))).b;by_cases hb:0<=b
       ·rw [if_pos hb] at hbn;obtain ⟨fn,tmps,assign,body,hy2,hR2⟩:=hY (pre++[773]) (774+(b%8).toNat) W3 (by rw [unhide hn1',unhide hbn];exact List.prefix_refl _) hJ3;have e1:IntKind.i64.wrap (774+b%8)=((774+(b%8).toNat:Nat):Int):=by rw [IntKind.wrap_i64];omega
        have e2:b.tmod 8=b%8:=Int.tmod_eq_emod_of_nonneg hb;have hfin:=hide (show pre++[773]++[774+(b%8).toNat]=numsS z false fc b by rw [unhide hn1',unhide hbn]);clear hbn hn1';generalize 774+(b%8).toNat=xx at hy2 hR2 e1 hfin;gi_wp2;refine hR2.mono ?_;rintro e W4 ⟨f4,⟨rfl,hJ4⟩|⟨rfl,hJx4⟩⟩
        ·gi_wp2;go_end0;exact ⟨⟨_,rfl⟩,.inl (by rw [<-unhide hfin];exact hJ4)⟩
        ·gi_wp2;go_end0;exact ⟨⟨_,rfl⟩,.inr ⟨_,by rw [<-unhide hfin];exact List.prefix_refl _,hJx4⟩⟩
       ·rw [if_neg hb] at hbn;gi_wp2;go_end0;exact ⟨⟨_,rfl⟩,.inl (by rw [unhide hn1',unhide hbn,List.append_nil];exact hJ3)⟩
      ·gi_wp2;refine bodyPost_ret (results_none rfl _ _ _) rfl ?_;exact ⟨⟨_,rfl⟩,.inr ⟨pre++[773],by rw [unhide hn1'];exact List.prefix_append _ _,hJx3⟩⟩
     ·have hn1':Hid (numsS z true fc b=pre++bhN b):=hide (by rw [unhide hfi];simp [whN]);clear hfi hpre;by_cases hb:0<=b
      ·rw [if_pos hb] at hbn;obtain ⟨fn,tmps,assign,body,hy2,hR2⟩:=hY pre (774+(b%8).toNat) wr (by rw [unhide hn1',unhide hbn];exact List.prefix_refl _) (unhide hJk');have e1:IntKind.i64.wrap (774+b%8)=((774+(b%8).toNat:Nat):Int):=by rw [IntKind.wrap_i64];omega
       have e2:b.tmod 8=b%8:=Int.tmod_eq_emod_of_nonneg hb;have hfin:=hide (show pre++[774+(b%8).toNat]=numsS z true fc b by rw [unhide hn1',unhide hbn]);clear hbn hn1';generalize 774+(b%8).toNat=xx at hy2 hR2 e1 hfin;gi_wp2;refine (wpIn_wide (n:=1)).1 ?_;gi_wp2_with ((with_reducible apply And.intro);(first|exact trivial|(intro _ _;trivial)));refine hR2.mono ?_;rintro e W4 ⟨f4,⟨rfl,hJ4⟩|⟨rfl,hJx4⟩⟩
       ·gi_wp2;go_end0;exact ⟨⟨_,rfl⟩,.inl (by rw [<-unhide hfin];exact hJ4)⟩
       ·gi_wp2;go_end0;exact ⟨⟨_,rfl⟩,.inr ⟨_,by rw [<-unhide hfin];exact List.prefix_refl _,hJx4⟩⟩
      ·rw [if_neg hb] at hbn;gi_wp2;refine (wpIn_wide (n:=1)).1 ?_;gi_wp2_with ((with_reducible apply And.intro);(first|exact trivial|(intro _ _;trivial)));go_end0;exact ⟨⟨_,rfl⟩,.inl (by rw [unhide hn1',unhide hbn,List.append_nil];exact unhide hJk')⟩
theorem U_nat (n:Nat) (h:n<18446744073709551616):U (BitVec.ofNat 64 n)=(n:Int):=by
 unfold U;rw [BitVec.toNat_ofNat,Nat.mod_eq_of_lt h]
theorem num_nat (n:Nat) (h:n<18446744073709551616) (w:World):Calls Tryz.prog 243 #[.int .u64 0,.int .u64 (n:Int)] w fun e w'=>e=.returned (.int .u64 (U (gnB n)))/\w'=w:=by
 have e:=numb_U 0#64 (BitVec.ofNat 64 n);rw [U_nat n h] at e;have:=mixNum_any (U 0#64) (n:Int) w;rw [e] at this;exact this
theorem nums_lt {z:Nat->UInt8} {wh:Bool} {fc:Nat->Bool} {b:Int} {x:Nat} (h:x∈numsS z wh fc b):x<1000:=by
 rw [nums_is,List.mem_append,List.mem_append,List.mem_append] at h;rcases h with ((h|h)|h)|h
 ·unfold nmU at h;obtain ⟨n,hn,e⟩:=List.mem_filterMap.1 h;have:=List.mem_range.1 hn;have:=(ix_bd (z n)).2;split at e
  ·injection e with e;omega
  ·cases e
 ·unfold cmU at h;obtain ⟨n,hn,e⟩:=List.mem_filterMap.1 h;have:=List.mem_range.1 hn;split at e
  ·injection e with e;omega
  ·cases e
 ·unfold whN at h;split at h
  ·cases h
  ·rw [List.mem_singleton.1 h];omega
 ·unfold bhN at h;split at h
  ·rw [List.mem_singleton.1 h];omega
  ·cases h
theorem numbers_mk (Bp:Nat) (w:World):Calls Tryz.prog 242 #[.pointer (some ⟨Bp,0,none⟩)] w fun e w'=>e=.returned (.func (.func 294) #[] #[.pointer (some ⟨w.heap.size,0,none⟩)])/\w'.heap[w.heap.size]?=some (.cells #[.pointer (some ⟨Bp,0,none⟩)] 229)/\Gr w w':=by
 go_enter Tryz.func242,Tryz.ntmps242;go_wp2_with fail;go_ret;exact ⟨rfl,heap_alloc_new w _,(Gr.refl w).alloc _ _⟩
theorem keyOf_any {z:Nat->UInt8} {wh:Bool} {fc:Nat->Bool} {b h g:Int} {PA:Array Value} (r:Row z wh fc b h g PA) (hok:layOk z=true) (hb0:-1<=b) (hb1:b<=63) (w:World) :
  Calls Tryz.prog 183 #[.agg PA] w fun e w'=>e=.returned (.int .u64 (U (keyS z wh fc b)))/\Gr w w':=by
 rw [key_nums];obtain ⟨x1,x2⟩:=heapTwo w (.cells PA 70) (.cells #[.int .u64 0] 23);have hg0:Gr w ((w.alloc (.cells PA 70)).alloc (.cells #[.int .u64 0] 23)):=((Gr.refl w).alloc _ _).alloc _ _;have hs0:((w.alloc (.cells PA 70)).alloc (.cells #[.int .u64 0] 23)).heap.size=w.heap.size+2:=by simp
 have hmk:=hide (fun W=>numbers_mk w.heap.size W);refine (callsIn_wide (n:=9)).1 ?_;refine callsIn_of_wp_marks Tryz.func183 rfl trivial ?_ rfl;simp only [Tryz.ntmps183,List.size_toArray,List.length_cons,List.length_nil,Nat.reduceAdd,Nat.reduceSub,Array.replicate_succ,Array.replicate_zero,List.push_toArray,List.append_toArray,List.nil_append,List.cons_append];refine wpIn_wide.2 ?_;go_upto_region 2 with fail;generalize ((w.alloc (.cells PA 70)).alloc (.cells #[.int .u64 0] 23))=w0 at x1 x2 hg0 hs0 ⊢;go_wp2_with (go_at_call 242;refine (unhide hmk _).mono ?_;rintro e w2 ⟨rfl,hb,hg1⟩);have h1:=(Below.block hg1 _ (Array.getElem?_eq_some_iff.1 x1).1).trans x1;have h2:=(Below.block hg1 _ ((Array.getElem?_eq_some_iff.1 x2).1)).trans x2;have hg2:=Gr.trans hg0 hg1;have hs2:=Below.size hg1;have hbl:=(Array.getElem?_eq_some_iff.1 hb).1;have hit:=numbers_it hok hb0 hb1 w0.heap.size w.heap.size (fun _=>False) w2 (cell_of_box_l hb).1 (Ps.of r h1);rw [hs0] at hb hs2 hbl hit;clear hg0 hg1 x1 x2 hmk
 refine wpIn_wide.1 (range_out (n:=9) (gf:=294) (lb:=#[.pointer (some ⟨w.heap.size+2,0,none⟩)]) rfl (enters_of Tryz.func294 (by kernel_rfl) rfl) hit (fun _ h=>h.elim) (by rintro k (rfl|rfl)<;>omega) (Fr.refl _ _) (fun _=>rfl)
  (fun pre V=>V.heap[w.heap.size+1]?=some (.cells #[.int .u64 (U (xorN 0#64 pre))] 23)/\Gr w V/\w2.heap.size<=V.heap.size)
  (fun _ _ _=>False)
  ?sI (fun _ _ _ _ h _=>h) ⟨h2,hg2,Nat.le_refl _⟩ ?rnd ?done (fun _ _ _ _ _ _ h _=>h.elim))
 case sI=>exact fun s A A' h f=>⟨f.same _ _ h.1 (.inl (by omega)),Below.trans h.2.1 (f.below (n:=w.heap.size) (Below.size h.2.1) (fun k o hk=>.inl (by omega))),Nat.le_trans h.2.2 f.size⟩
 case done =>
  rintro D V hD ⟨k2,hg,hsz⟩ hK;have c2:=(cell_of_box_l k2).1;go_wp2_with fail;refine ⟨by simp,.inl ⟨_,_,rfl,run_takeDeferred hK,?_⟩⟩;exact ⟨_,results_tmp rfl _ _ _,rfl,Below.trans hg (belowK_b (w:=w2) (n₀:=w.heap.size) (by omega) _ D _ _ hD hK rfl rfl)⟩
 case rnd =>
  rintro l1 pre x V hbl' hx ⟨k2,hg,hsz⟩ hl;have hl':l1<V.heap.size:=hl.elim fun r hr=>(Array.getElem?_eq_some_iff.1 hr).1
  gi_wp2;refine ⟨Fr.refl _ _,?_⟩;intro V2 f2 hI2 hl2;clear k2 hg hsz;obtain ⟨k2,hg,hsz⟩:=hI2;have hxl:x<1000:=nums_lt (hx.subset (by simp));have ew:IntKind.u64.wrap ((x:Nat):Int)=(x:Int):=by rw [IntKind.wrap_u64];omega
  have hnum:=hide (fun W=>num_nat x (by omega) W);have hsn:Hid (U (xorN 0#64 (pre++[x]))=bits .xor .u64 (U (xorN 0#64 pre)) (U (gnB x))):=hide (by rw [xor_U,xorN_app];rfl);generalize gnB x=gv at hnum hsn;obtain ⟨kn,hkn⟩:∃ q,q=xorN 0#64 (pre++[x]):=⟨_,rfl⟩;rw [<-hkn] at hsn;generalize xorN 0#64 pre=kv at k2 hsn;have d2:V2.drew.cell? ⟨w.heap.size+1,0,none⟩=some (.int .u64 (U kv)):=(cell_of_box_l k2).1;have d3:V2.drew.frozen? ⟨w.heap.size+1,0,none⟩=false:=(cell_of_box_l k2).2
  have fin:Hid (Fr (Rnd1 w2.heap.size (fun _=>False) (fun k=>k=w.heap.size+2\/k=w.heap.size)) V2 (V2.setCell ⟨w.heap.size+1,0,none⟩ (.int .u64 (bits .xor .u64 (U kv) (U gv)))).drew/\(V2.setCell ⟨w.heap.size+1,0,none⟩ (.int .u64 (bits .xor .u64 (U kv) (U gv)))).drew.heap[w.heap.size+1]?=some (.cells #[.int .u64 (U (xorN 0#64 (pre++[x])))] 23)/\Gr w (V2.setCell ⟨w.heap.size+1,0,none⟩ (.int .u64 (bits .xor .u64 (U kv) (U gv)))).drew/\w2.heap.size<=(V2.setCell ⟨w.heap.size+1,0,none⟩ (.int .u64 (bits .xor .u64 (U kv) (U gv)))).drew.heap.size):=hide (by
   have fs:Fr (fun k _=>k≠w.heap.size+1) V2 (V2.setCell ⟨w.heap.size+1,0,none⟩ (.int .u64 (bits .xor .u64 (U kv) (U gv)))):=(Fr.refl _ _).setCell _ (fun o _ q=>q rfl);refine ⟨Fr.drew (fs.mono ?_),?_,Gr.drew (Below.setCell hg (show w.heap.size<=w.heap.size+1 by omega) _),?_⟩
   ·rintro k o-(q|q)
    ·rcases q with q|q<;>omega
    ·have:=q.1;omega
   ·show (V2.setCell ⟨w.heap.size+1,0,none⟩ (.int .u64 (bits .xor .u64 (U kv) (U gv)))).heap[w.heap.size+1]?=_;have:=set_box (v:=.int .u64 (bits .xor .u64 (U kv) (U gv))) k2;rw [this,<-hkn,unhide hsn]
   ·exact Nat.le_trans hsz fs.size)
  gi_wp2;gi_region_with (refine ⟨trivial,?_⟩;gi_at_call 243;refine ((callsIn_wide.2 (unhide hnum _)).inRound l1).mono ?_;rintro e wc ⟨rfl,rfl⟩)
  all_goals
   gi_wp2;exact unhide fin
end Go.Proofs.YtnfakamfmkhlbabGreatDoor.C
namespace Go.Proofs.YtnfakamfmkhlbabGreatDoor.C
open Go.RowKit
open Go.Proofs.YtnfakamfmkhlbabGreatDoor.P
def pathsN:Nat->(Nat->UInt8)->Bool->(Nat->Bool)->Int->Nat
 | 0,_,_,_,_=>1
 | d+1,z,wh,fc,b=>((movS z wh fc b).map fun x=>pathsN d (plZ z b x) (!wh) (cfA fc x.1 x.2.1 4) (behA z x.1 x.2.1)).sum
theorem sum_le {l:List Nat} {m n:Nat} (hl:l.length<=m) (h:∀ x∈l,x<=n):l.sum<=m*n:=by
 have h1:∀ l:List Nat,(∀ x∈l,x<=n)->l.sum<=l.length*n:=by
  intro l;induction l with
  | nil=>intro _;simp
  | cons a r ih =>
   intro h;rw [List.sum_cons,List.length_cons,Nat.add_mul,Nat.one_mul];have:=ih (fun x hx=>h x (List.mem_cons_of_mem _ hx));have:=h a (List.mem_cons_self ..);omega
 exact Nat.le_trans (h1 l h) (Nat.mul_le_mul_right n hl)
theorem paths_le (d:Nat):∀ z wh fc b,pathsN d z wh fc b<=1000000 ^ d:=by
 induction d with
 | zero=>intros;exact Nat.le_refl _
 | succ d ih =>
  intro z wh fc b;rw [Nat.pow_succ,Nat.mul_comm];refine sum_le (by rw [List.length_map];exact movS_len z wh fc b) fun x hx=>?_
  obtain ⟨y,_,rfl⟩:=List.mem_map.1 hx;exact ih _ _ _ _
theorem paths_lt {d:Nat} (hd:d<=3) (z:Nat->UInt8) (wh:Bool) (fc:Nat->Bool) (b:Int):pathsN d z wh fc b<=1000000000000000000:=by
 refine Nat.le_trans (paths_le d z wh fc b) (Nat.le_trans (Nat.pow_le_pow_right (by decide) hd) (by decide))
theorem paths_one (z:Nat->UInt8) (wh:Bool) (fc:Nat->Bool) (b:Int):pathsN 1 z wh fc b=(movS z wh fc b).length:=by
 unfold pathsN;generalize movS z wh fc b=l;induction l with
 | nil=>rfl
 | cons a r ih=>rw [List.map_cons,List.sum_cons,ih,List.length_cons];show 1+_=_;omega
structure Ok (z:Nat->UInt8) (wh:Bool) (fc:Nat->Bool) (b h g:Int):Prop where
 can:canS z wh fc b h g=true
 b0:-1<=b
 b1:b<=63
 nz:∀ n,64<=n->z n=0
 nf:∀ n,4<=n->fc n=false
variable {z:Nat->UInt8} {wh:Bool} {fc:Nat->Bool} {b h g:Int}
theorem Ok.good (o:Ok z wh fc b h g):Can z wh fc b:=can_good o.can
theorem Ok.clk (o:Ok z wh fc b h g):0<=h/\h<=65535/\0<=g/\g<=65535:=by
 obtain ⟨_,_,a,c⟩:=can_gives o.can;omega
theorem Ok.lay (o:Ok z wh fc b h g):layOk z=true:=o.good.ok
theorem Ok.next (o:Ok z wh fc b h g) {f t:Nat} {u:UInt8} (hx:(f,t,u)∈movS z wh fc b):Ok (plZ z b (f,t,u)) (!wh) (cfA fc f t 4) (behA z f t) (halA z f t h) (fulA wh g):=by
 have hok:=movS_ok _ _ _ _ _ hx;obtain ⟨c0,c1,c2,c3⟩:=o.clk;obtain ⟨hb,_⟩:=aft_bounds z f t hok.1 hok.2 c0 (wh:=wh) c2 c3;exact ⟨can_after o.can o.b0 o.b1 hx,by omega,by omega,fun n hn=>by rw [(mvd_of o.good o.b0 o.b1 hx).far n hn];exact o.nz n hn,fun n hn=>by unfold cfA;rw [o.nf n hn];rfl⟩
theorem Ok.mv (o:Ok z wh fc b h g) {f t:Nat} {u:UInt8} (hx:(f,t,u)∈movS z wh fc b):f<64/\t<64/\u∈U5/\(kingB (z f)=true->t=f+2->f+3<64)/\(kingB (z f)=true->t+2=f->4<=f):=by
 have hok:=movS_ok _ _ _ _ _ hx;have hL:=letOk_of o.good o.b0 o.b1;have hxl:=(List.mem_filter.1 ((same_mem o.good o.b0 o.b1 _).2 hx)).1;exact ⟨hok.1,hok.2,mov_u5 o.good o.b0 o.b1 hx,fun a c=>hL.k1 f t u hxl a c,fun a c=>hL.k2 f t u hxl a c⟩
def fcN (fc:Nat->Bool) (n:Nat):Bool:=decide (n<4)&&fc n
theorem fcN_at (fc:Nat->Bool) {n:Nat} (h:n<4):fcN fc n=fc n:=by unfold fcN;rw [decide_eq_true h];rfl
theorem Ok.of {s:ByteArray} {p:Pos} (hr:readS s=some p) (hc:posCan p=true):Ok (posZ p) p.white (fcN p.castle) p.behind p.half p.full:=by
 obtain ⟨b0,b1⟩:=read_beh hr;refine ⟨?_,b0,b1,pos_far hr,fun n hn=>by unfold fcN;rw [decide_eq_false (by omega)];rfl⟩;rw [canS_congr _ _ _ _ _ (fun i hi=>fcN_at p.castle hi)];exact hc
theorem row_fcN {PA:Array Value} (r:Row z wh fc b h g PA):Row z wh (fcN fc) b h g PA:=⟨r.size,r.sq,r.wh,fun i hi=>by rw [fcN_at fc hi];exact r.c i hi,r.b,r.h,r.g⟩
theorem paths_perm {l:List Mv} (hl:l.Perm (movS z wh fc b)) (d:Nat):(l.map fun x=>pathsN d (plZ z b x) (!wh) (cfA fc x.1 x.2.1 4) (behA z x.1 x.2.1)).sum=pathsN (d+1) z wh fc b:=(hl.map _).sum_nat
theorem let_perm (hC:Can z wh fc b) (h0:-1<=b) (h1:b<=63):(letL z wh fc b).Perm (movS z wh fc b):=(List.perm_ext_iff_of_nodup (letL_nodup hC) (movS_nodup z wh fc b)).2 (same_mem hC h0 h1)
theorem sum_pre {f:Mv->Nat} {pre:List Mv} {x:Mv} {xs:List Mv} (h:pre++[x] <+: xs):(pre.map f).sum+f x<=(xs.map f).sum:=by
 obtain ⟨r,rfl⟩:=h;simp only [List.map_append,List.sum_append,List.map_cons,List.map_nil,List.sum_cons,List.sum_nil];omega
end Go.Proofs.YtnfakamfmkhlbabGreatDoor.C
namespace Go.Proofs.YtnfakamfmkhlbabGreatDoor.C
open Go.ChangeShapes Go.WideShapes Go.ChangeAt Go.RowKit Go.Shelf
open Go.Proofs.YtnfakamfmkhlbabGreatDoor.P
attribute [local go_sem] setCell_drewN alloc_drewN Oper.semAt_some
def Fx (g:Nat) (w w':World):Prop:=Fr (fun k _=>k≠g) w w'
theorem Fx.refl (g:Nat) (w:World):Fx g w w:=Fr.refl _ _
theorem Fx.trans {g:Nat} {a b c:World} (h:Fx g a b) (k:Fx g b c):Fx g a c:=Fr.trans h k
theorem Fx.of {g:Nat} {a b:World} (h:Gr a b):Fx g a b:=Fr.of_gr h
theorem Fx.size {g:Nat} {a b:World} (h:Fx g a b):a.heap.size<=b.heap.size:=Fr.size h
theorem Fx.gr {g:Nat} {a b:World} (h:Fx g a b) (hg:a.heap.size<=g):Gr a b:=Fr.below h (Nat.le_refl _) (fun k _ hk=>by omega)
theorem Fx.at {g:Nat} {a b:World} (h:Fx g a b) {k:Nat} {o:Obj} (e:a.heap[k]?=some o) (hk:k≠g):b.heap[k]?=some o:=Fr.same h k o e hk
theorem Fx.below {g:Nat} {a b c:World} (h:Fx g a b) (k:Below a.heap.size b c):Fx g a c :=
 ⟨k.os.trans h.os,k.tape.trans h.tape,k.output.trans h.output,Nat.le_trans h.size k.size,fun i o e q=>(k.block i (Array.getElem?_eq_some_iff.1 e).1).trans (h.same i o e q)⟩
theorem sumU_any {gi:Nat} {lb:Array Value} {C:Nat->Prop} {xs:List Mv} {w:World} (hit:It Tryz.prog gi lb encM (fun _=>False) C xs w) (heg:∀ args w,(callFunc gi args).run Tryz.prog w=.ok (.enter gi args) w) (hCb:∀ k,C k->k<w.heap.size) (g:Nat) (hgC:¬ C g) (hgl:g<w.heap.size)
  (b1 b2 b3:Nat) (val:Mv->Nat) (I:World->Prop) (hI:∀ A A',I A->Fr (fun k _=>k<w.heap.size) A A'->I A') (h0:I w)
  (hw:∀ f t u,(f,t,u)∈xs->∀ V,I V->Calls Tryz.prog 96 #[.agg #[.int .i64 (f:Int),.int .i64 (t:Int),.int .u8 (u.toNat:Int)],.pointer (some ⟨b1,0,none⟩),.pointer (some ⟨b2,0,none⟩),.pointer (some ⟨b3,0,none⟩)] V fun e V'=>e=.returned (.int .u64 ((val (f,t,u):Nat):Int))/\Fx g V V'/\I V')
  (hb:(xs.map val).sum<=1000000000000000000) :
  Calls Tryz.prog 95 #[.func (.func gi) #[] lb,.func (.func 96) #[] #[.pointer (some ⟨b1,0,none⟩),.pointer (some ⟨b2,0,none⟩),.pointer (some ⟨b3,0,none⟩)]] w fun e w'=>e=.returned (.int .u64 (((xs.map val).sum:Nat):Int))/\Fx g w w'/\I w':=by
 obtain ⟨fv,hfv⟩:∃ fv:Value,fv=.func (.func 96) #[] #[.pointer (some ⟨b1,0,none⟩),.pointer (some ⟨b2,0,none⟩),.pointer (some ⟨b3,0,none⟩)]:=⟨_,rfl⟩;rw [<-hfv];refine (callsIn_wide (n:=9)).1 ?_;refine callsIn_of_wp_marks Tryz.func95 rfl trivial ?_ rfl;simp only [Tryz.ntmps95,List.size_toArray,List.length_cons,List.length_nil,Nat.reduceAdd,Nat.reduceSub,Array.replicate_succ,Array.replicate_zero,List.push_toArray,List.append_toArray,List.nil_append,List.cons_append];refine wpIn_wide.2 ?_;have hfo:fv.oneCell'=true:=by rw [hfv];rfl
 rw [hfv];go_wp2_with fail;rw [<-hfv];obtain ⟨h1,h2⟩:=heapTwo w (.cells #[fv] 172) (.cells #[.int .u64 0] 23);have hg2:Gr w ((w.alloc (.cells #[fv] 172)).alloc (.cells #[.int .u64 0] 23)):=((Gr.refl w).alloc _ _).alloc _ _;have hs2:((w.alloc (.cells #[fv] 172)).alloc (.cells #[.int .u64 0] 23)).heap.size=w.heap.size+2:=by simp
 generalize ((w.alloc (.cells #[fv] 172)).alloc (.cells #[.int .u64 0] 23))=w2 at h1 h2 hg2 hs2 ⊢;have hIg:∀ {A A'},I A->Gr A A'->w.heap.size<=A.heap.size->I A':=fun h k _=>hI _ _ h (Fr.of_gr k)
 refine wpIn_wide.1 (range_out (n:=9) (gf:=gi) (lb:=lb) rfl heg hit (fun _ h=>h.elim) (fun k hk=>by have:=hCb k hk;omega) (Fr.of_gr hg2) (fun _=>rfl)
  (fun pre V=>V.heap[w.heap.size]?=some (.cells #[fv] 172)/\V.heap[w.heap.size+1]?=some (.cells #[.int .u64 (((pre.map val).sum:Nat):Int)] 23)/\Fx g w V/\w2.heap.size<=V.heap.size/\I V)
  (fun _ _ _=>False)
  ?sI (fun _ _ _ _ h _=>h) ⟨h1,h2,Fx.of hg2,Nat.le_refl _,hI _ _ h0 (Fr.of_gr hg2)⟩ ?rnd ?done (fun _ _ _ _ _ _ h _=>h.elim))
 case sI=>exact fun s A A' h f=>⟨f.same _ _ h.1 (.inl (by omega)),f.same _ _ h.2.1 (.inl (by omega)),Fx.below h.2.2.1 (f.below (n:=w.heap.size) (Fx.size h.2.2.1) (fun k o hk=>.inl (by omega))),Nat.le_trans h.2.2.2.1 f.size,hI _ _ h.2.2.2.2 (f.mono fun k o _ hk=>.inl (by omega))⟩
 case done =>
  rintro D V hD ⟨k1,k2,hg,hsz,hi⟩ hK;have c2:=(cell_of_box_l k2).1;go_wp2_with fail;refine ⟨by simp,.inl ⟨_,_,rfl,run_takeDeferred hK,?_⟩⟩;refine ⟨_,results_tmp rfl _ _ _,rfl,Fx.below hg (belowK_b (w:=w2) (n₀:=w.heap.size) (by omega) _ D _ _ hD hK rfl rfl),hI _ _ hi (Fr.of_below (n:=w.heap.size) (belowK_b (w:=w2) (n₀:=w.heap.size) (by omega) _ D _ _ hD hK rfl rfl) fun k _ _ hk=>hk)⟩
 case rnd =>
  rintro l1 pre ⟨fr,tt,u⟩ V hbl hx ⟨k1,k2,hg,hsz,hi⟩ hl;have hl':l1<V.heap.size:=hl.elim fun r hr=>(Array.getElem?_eq_some_iff.1 hr).1
  simp only [encM,mvV];gi_wp2;refine ⟨(Fr.refl _ _).alloc _,?_⟩;intro V2 f2 hI2 hl2;clear hi;obtain ⟨k1,k2,hg,hsz,hi⟩:=hI2;have kx:V2.heap[V.heap.size]?=some (.cells #[.int .i64 (fr:Int),.int .i64 (tt:Int),.int .u8 (u.toNat:Int)] 87):=f2.same _ _ (World.alloc_heap_new V _) (by omega);generalize V.heap.size=Bx at kx ⊢;have hmem:(fr,tt,u)∈xs:=hx.subset (by simp);have hpl:=sum_pre (f:=val) hx;obtain ⟨sv,hsv'⟩:∃ n,Hid (n=(pre.map val).sum):=⟨_,hide rfl⟩;obtain ⟨xv,hxv'⟩:∃ n,Hid (n=val (fr,tt,u)):=⟨_,hide rfl⟩;have hsn:Hid ((((pre++[((fr,tt,u):Mv)]).map val).sum:Nat)=sv+xv):=hide (by rw [unhide hsv',unhide hxv'];simp);have hcall:=hide (hw fr tt u hmem);rw [<-unhide hsv'] at k2 hpl;rw [<-unhide hxv'] at hpl hcall;clear hsv' hxv';have hwr:IntKind.u64.wrap ((sv:Int)+(xv:Int))=(sv:Int)+(xv:Int):=by rw [IntKind.wrap_u64];omega
  have d1:V2.drew.cell? ⟨w.heap.size,0,none⟩=some fv:=(cell_of_box_l k1).1;rw [hfv] at d1;have d2:V2.drew.cell? ⟨w.heap.size+1,0,none⟩=some (.int .u64 (sv:Int)):=(cell_of_box_l k2).1;have d3:V2.drew.frozen? ⟨w.heap.size+1,0,none⟩=false:=(cell_of_box_l k2).2;obtain ⟨x0,x1,x2⟩:=mv_cells (show V2.drew.heap[Bx]?=_ from kx);have hid:I V2.drew:=hI _ _ hi ((Fr.refl _ _).drew)
  have aft:∀ W',Fx g V2.drew W'->(W'.cell? ⟨w.heap.size,0,none⟩=some (.func (.func 96) #[] #[.pointer (some ⟨b1,0,none⟩),.pointer (some ⟨b2,0,none⟩),.pointer (some ⟨b3,0,none⟩)])/\W'.cell? ⟨w.heap.size+1,0,none⟩=some (.int .u64 (sv:Int))/\W'.frozen? ⟨w.heap.size+1,0,none⟩=false):=fun W' hgw=>by
   have e1:=hgw.at (show V2.drew.heap[w.heap.size]?=_ from k1) (by omega);have e2:=hgw.at (show V2.drew.heap[w.heap.size+1]?=_ from k2) (by omega);exact ⟨by rw [<-hfv];exact (cell_of_box_l e1).1,(cell_of_box_l e2).1,(cell_of_box_l e2).2⟩
  have aft':=hide aft;clear aft
  have fin:Hid (∀ W',Fx g V2.drew W'->I W'->Fr (Rnd1 w2.heap.size (fun _=>False) C) V2 (W'.setCell ⟨w.heap.size+1,0,none⟩ (.int .u64 ((sv:Int)+(xv:Int))))/\(W'.setCell ⟨w.heap.size+1,0,none⟩ (.int .u64 ((sv:Int)+(xv:Int)))).heap[w.heap.size]?=some (.cells #[fv] 172)/\(W'.setCell ⟨w.heap.size+1,0,none⟩ (.int .u64 ((sv:Int)+(xv:Int)))).heap[w.heap.size+1]?=some (.cells #[.int .u64 ((((pre++[((fr,tt,u):Mv)]).map val).sum:Nat):Int)] 23)/\Fx g w (W'.setCell ⟨w.heap.size+1,0,none⟩ (.int .u64 ((sv:Int)+(xv:Int))))/\w2.heap.size<=(W'.setCell ⟨w.heap.size+1,0,none⟩ (.int .u64 ((sv:Int)+(xv:Int)))).heap.size/\I (W'.setCell ⟨w.heap.size+1,0,none⟩ (.int .u64 ((sv:Int)+(xv:Int))))):=hide (fun W' hgw hiw=>by
   have hg3:Fx g V2 W':=Fx.trans (Fx.of (Gr.refl V2).drew) hgw;have e1:=hg3.at k1 (by omega);have e2:=hg3.at k2 (by omega);have fs:Fr (fun k _=>k≠w.heap.size+1) W' (W'.setCell ⟨w.heap.size+1,0,none⟩ (.int .u64 ((sv:Int)+(xv:Int)))):=(Fr.refl _ _).setCell _ (fun o _ q=>q rfl);refine ⟨Fr.trans (Fr.mono hg3 fun k o _ q=>?_) (fs.mono fun k o _ q=>?_),fs.same _ _ e1 (by omega),?_,Fr.setNew (Fx.trans hg hg3) _ (show w.heap.size<=w.heap.size+1 by omega),?_,hI _ _ hiw (fs.mono fun k o _ q=>by omega)⟩
   ·rintro rfl;rcases q with q|q
    ·exact hgC q
    ·omega
   ·rintro rfl;rcases q with q|q
    ·have:=hCb _ q;omega
    ·omega
   ·have:=set_box (v:=.int .u64 ((sv:Int)+(xv:Int))) e2;rw [this,unhide hsn];simp
   ·have:=Fx.size hg3;simp [World.setCell];omega)
  gi_wp2;gi_region_with (refine ⟨trivial,?_⟩;gi_at_call 96;refine ((callsIn_wide.2 (unhide hcall _ (by with_reducible exact hid))).inRound l1).mono ?_;rintro e wc ⟨rfl,hgc,hic⟩;obtain ⟨a1,a2,a3⟩:=unhide aft' wc hgc)
  all_goals
   gi_wp2;exact unhide fin _ hgc hic
end Go.Proofs.YtnfakamfmkhlbabGreatDoor.C
namespace Go.Proofs.YtnfakamfmkhlbabGreatDoor.C
open Go.ChangeShapes Go.WideShapes Go.ChangeAt Go.RowKit Go.Shelf
open Go.Proofs.YtnfakamfmkhlbabGreatDoor.P
structure Away (g:Nat):Prop where
 t1:g≠2
 t2:g≠3
 t3:g≠0
 t4:g≠1
structure Wt (w:World):Prop where
 tab:TabIn w
 cas:CasTab w
 st:StTab w
 hom:Homes w
theorem Homes.fr {Q:Nat->Obj->Prop} {w w':World} (h:Homes w) (f:Fr Q w w') (hq:∀ o,Q 1 o):Homes w' :=
 ⟨fun j v hv=>f.cell (h.1 j v hv) (fun o _=>hq o),Nat.lt_of_lt_of_le h.2 f.size⟩
theorem Wt.gr {w w':World} (h:Wt w) (g:Gr w w'):Wt w':=⟨h.tab.gr g,h.cas.gr g,h.st.gr g,h.hom.gr g⟩
theorem Wt.fx {g:Nat} {w w':World} (h:Wt w) (a:Away g) (f:Fx g w w'):Wt w':=⟨h.tab.fr f (fun _=>a.t1.symm),h.cas.fr f (fun _=>a.t2.symm),h.st.fr f (fun _=>a.t3.symm),h.hom.fr f (fun _=>a.t4.symm)⟩
theorem Wt.lt {w:World} (h:Wt w) {n:Nat} (hn:w.heap.size<=n):Away n:=by
 have a:=h.tab.2;have b:=h.cas.2;have c:=h.st.2;have d:=h.hom.2;exact ⟨by omega,by omega,by omega,by omega⟩
theorem Wt.low {w1 w w':World} (h:Wt w) (h1:Wt w1) (f:Fr (fun k _=>k<w1.heap.size) w w'):Wt w':=⟨⟨fun j hj=>f.cell (h.tab.1 j hj) (fun _ _=>h1.tab.2),Nat.lt_of_lt_of_le h.tab.2 f.size⟩,⟨fun j v hv=>f.cell (h.cas.1 j v hv) (fun _ _=>h1.cas.2),Nat.lt_of_lt_of_le h.cas.2 f.size⟩,⟨fun j v hv=>f.cell (h.st.1 j v hv) (fun _ _=>h1.st.2),Nat.lt_of_lt_of_le h.st.2 f.size⟩,⟨fun j v hv=>f.cell (h.hom.1 j v hv) (fun _ _=>h1.hom.2),Nat.lt_of_lt_of_le h.hom.2 f.size⟩⟩
def NoSlot (C:Nat->Prop) (w:World):Prop:=∀ k,C k->k<w.heap.size/\((k=2\/k=3\/k=0)\/∃ c ty fr,ty≠168/\w.heap[k]?=some (.cells c ty fr))
theorem NoSlot.not {C:Nat->Prop} {w:World} (h:NoSlot C w) {g:Nat} (a:Away g) {S:Array Value} {fr:Nat × Nat} (hg:w.heap[g]?=some (.cells S 168 fr)):¬ C g:=fun hc=>by
 rcases (h g hc).2 with (e|e|e)|⟨c,ty,f2,hn,e⟩
 ·exact a.t1 e
 ·exact a.t2 e
 ·exact a.t3 e
 ·rw [hg] at e;injection e with e;injection e with _ e _;exact hn e.symm
structure MkJt (gm gi:Nat) (PA:Array Value) (xs:List Mv) (w:World):Prop where
 em:∀ args w,(callFunc gm args).run Tryz.prog w=.ok (.enter gm args) w
 ei:∀ args w,(callFunc gi args).run Tryz.prog w=.ok (.enter gi args) w
 go:Calls Tryz.prog gm #[.agg PA] w fun e w'=>∃ lb C,e=.returned (.func (.func gi) #[] lb)/\Gr w w'/\NoSlot C w'/\It Tryz.prog gi lb encM (fun _=>False) C xs w'
variable {z:Nat->UInt8} {wh:Bool} {fc:Nat->Bool} {b h g:Int} {PA:Array Value}
theorem mkSj (r:Row z wh fc b h g PA) (o:Ok z wh fc b h g) (w:World) (ht:Wt w):MkJt 61 128 PA (movS z wh fc b) w where
 em:=enters_of Tryz.func61 (by kernel_rfl) rfl
 ei:=enters_of Tryz.func128 (by kernel_rfl) rfl
 go:=by
  refine (setsMoves_mk PA w).mono ?_;rintro e w' ⟨rfl,hp,hg2⟩;refine ⟨_,_,rfl,hg2,?_,movesS_it r o.lay o.b0 o.b1 w.heap.size _ (fun _ h=>h.elim) w' hp (ht.tab.gr hg2) (ht.cas.gr hg2)⟩;rintro k (rfl|rfl|rfl)
  ·exact ⟨(Array.getElem?_eq_some_iff.1 hp).1,.inr ⟨_,_,_,by decide,hp⟩⟩
  ·exact ⟨(ht.tab.gr hg2).2,.inl (by simp)⟩
  ·exact ⟨(ht.cas.gr hg2).2,.inl (by simp)⟩
theorem mkLj (r:Row z wh fc b h g PA) (o:Ok z wh fc b h g) (w:World) (ht:Wt w):MkJt 65 155 PA (letL z wh fc b) w where
 em:=enters_of Tryz.func65 (by kernel_rfl) rfl
 ei:=enters_of Tryz.func155 (by kernel_rfl) rfl
 go:=by
  have hok:=letOk_of o.good o.b0 o.b1;have hTm:OnlyMv (fun _=>False):=fun _ h=>h.elim
  refine (lettersMoves_mk PA w).mono ?_;rintro e w' ⟨B1,Bt,Bf,rfl,hp,h1,ht1,hf,hg2⟩;have hS':=ht.st.gr hg2;have hps:=Ps.of r hp;have hit:=allMoves_it hok.home B1 w.heap.size _ hTm w' (cell_of_box_l h1).1 hps hS';refine ⟨_,_,rfl,hg2,?_,onlyM_it hit (enters_of Tryz.func223 (by kernel_rfl) rfl) (enters_of Tryz.func153 (by kernel_rfl) rfl) (OnlyMv.cells hTm) (fun c fr h=>h) ?_ Bt Bf (letP z wh b) ht1 hf ?_⟩
  ·rintro k ((rfl|rfl|rfl)|rfl|rfl)
   ·exact ⟨(Array.getElem?_eq_some_iff.1 h1).1,.inr ⟨_,_,_,by decide,h1⟩⟩
   ·exact ⟨(Array.getElem?_eq_some_iff.1 hp).1,.inr ⟨_,_,_,by decide,hp⟩⟩
   ·exact ⟨hS'.2,.inl (by simp)⟩
   ·exact ⟨(Array.getElem?_eq_some_iff.1 ht1).1,.inr ⟨_,_,_,by decide,ht1⟩⟩
   ·exact ⟨(Array.getElem?_eq_some_iff.1 hf).1,.inr ⟨_,_,_,by decide,hf⟩⟩
  ·rintro k (rfl|rfl|rfl)
   ·exact (Array.getElem?_eq_some_iff.1 h1).1
   ·exact (Array.getElem?_eq_some_iff.1 hp).1
   ·exact hS'.2
  ·rintro ⟨f,t,u⟩ hx V fV;obtain ⟨y,hy,hky⟩:=hok.kg _ hx;have hm:=alU_ok hok.home hx;have:=judge_any r f t u hm.1 hm.2 (hok.k1 f t u hx) (hok.k2 f t u hx) y hy hky w.heap.size V (fV.same _ _ hp (.inr (.inl rfl))) (hS'.fr fV (fun _=>.inr (.inr rfl)));have e:letP z wh b (f,t,u)=!(attLB (plZ z b (f,t,u)) y (!wh)):=by unfold letP;rw [hky];rfl
   rw [e];exact this
structure WayN (n:Int) (ga gm gi:Nat):Prop where
 is:(n=1/\ga=64/\gm=65/\gi=155)\/(n=2/\ga=60/\gm=61/\gi=128)
theorem WayN.mk' {n:Int} {ga gm gi:Nat} (a:WayN n ga gm gi) (r:Row z wh fc b h g PA) (o:Ok z wh fc b h g) (w:World) (ht:Wt w):∃ xs:List Mv,xs.Perm (movS z wh fc b)/\MkJt gm gi PA xs w:=by
 rcases a.is with ⟨_,_,rfl,rfl⟩|⟨_,_,rfl,rfl⟩
 ·exact ⟨_,let_perm o.good o.b0 o.b1,mkLj r o w ht⟩
 ·exact ⟨_,List.Perm.refl _,mkSj r o w ht⟩
theorem WayN.em {n:Int} {ga gm gi:Nat} (a:WayN n ga gm gi):∀ args w,(callFunc gm args).run Tryz.prog w=.ok (.enter gm args) w:=by
 rcases a.is with ⟨_,_,rfl,rfl⟩|⟨_,_,rfl,rfl⟩
 ·exact enters_of Tryz.func65 (by kernel_rfl) rfl
 ·exact enters_of Tryz.func61 (by kernel_rfl) rfl
theorem WayN.list {n:Int} {ga gm gi:Nat} (a:WayN n ga gm gi) (r:Row z wh fc b h g PA) (o:Ok z wh fc b h g) (w:World) (ht:Wt w):∃ xs:List Mv,sortM xs=sortM (movS z wh fc b)/\MkIt gm gi PA xs w:=by
 rcases a.is with ⟨_,_,rfl,rfl⟩|⟨_,_,rfl,rfl⟩
 ·exact ⟨_,(twin o.good o.b0 o.b1).1,mkL r (letOk_of o.good o.b0 o.b1) w ht.st⟩
 ·exact ⟨_,rfl,mkS r o.lay o.b0 o.b1 w ht.tab ht.cas⟩
end Go.Proofs.YtnfakamfmkhlbabGreatDoor.C
