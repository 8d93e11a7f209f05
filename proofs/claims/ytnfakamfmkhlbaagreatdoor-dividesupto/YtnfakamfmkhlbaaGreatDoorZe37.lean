import Derived.Test.YtnfakamfmkhlbaaGreatDoorZe36
import Derived.Test.YtnfakamfmkhlbaaGreatDoorZe7
import Derived.Test.YtnfakamfmkhlbaaGreatDoorZe29
import Derived.Test.YtnfakamfmkhlbaaGreatDoorZe21
import Derived.Test.YtnfakamfmkhlbaaGreatDoorZe19
import Derived.Test.YtnfakamfmkhlbaaGreatDoorZe13
set_option maxRecDepth 100000
set_option maxHeartbeats 4000000
set_option linter.unusedSimpArgs false
namespace Go.Proofs.YtnfakamfmkhlbaaGreatDoor.C
open Go.ChangeShapes Go.WideShapes Go.ChangeAt Go.RowKit Go.Shelf
open Go.Proofs.YtnfakamfmkhlbaaGreatDoor.P
attribute [local go_sem] qd qi Oper.semAt_some
def nmU (z:Nat->UInt8) (k:Nat):List Nat:=(List.range k).filterMap fun n=>if 0<=ixc (z n) then some (64*(ixc (z n)).toNat+n+1) else none
def cmU (fc:Nat->Bool) (k:Nat):List Nat:=(List.range k).filterMap fun n=>if fc n then some (769+n) else none
theorem nmU_succ (z:Nat->UInt8) (k:Nat):nmU z (k+1)=nmU z k++(if 0<=ixc (z k) then [64*(ixc (z k)).toNat+k+1] else []):=by
 unfold nmU;rw [List.range_succ,List.filterMap_append];congr 1;by_cases h:0<=ixc (z k)
 ·simp [h]
 ·simp [h]
theorem cmU_succ (fc:Nat->Bool) (k:Nat):cmU fc (k+1)=cmU fc k++(if fc k then [769+k] else []):=by
 unfold cmU;rw [List.range_succ,List.filterMap_append];congr 1;cases h:fc k<;>simp [h]
theorem nmU_pre (z:Nat->UInt8) (k:Nat):∀ d,nmU z k <+: nmU z (k+d)
 | 0=>List.prefix_refl _
 | d+1=>by rw [<-Nat.add_assoc,nmU_succ];exact (nmU_pre z k d).trans (List.prefix_append _ _)
theorem cmU_pre (fc:Nat->Bool) (k:Nat):∀ d,cmU fc k <+: cmU fc (k+d)
 | 0=>List.prefix_refl _
 | d+1=>by rw [<-Nat.add_assoc,cmU_succ];exact (cmU_pre fc k d).trans (List.prefix_append _ _)
def whN (wh:Bool):List Nat:=if wh then [] else [773]
def bhN (b:Int):List Nat:=if 0<=b then [774+(b%8).toNat] else []
theorem qvv (z:Nat->UInt8) (wh:Bool) (fc:Nat->Bool) (b:Int):numsS z wh fc b=nmU z 64++cmU fc 4++whN wh++bhN b:=rfl
theorem nums_b {z:Nat->UInt8} {wh:Bool} {fc:Nat->Bool} {b:Int} {k:Nat} (hk:k<=64):nmU z k <+: numsS z wh fc b:=by
 rw [qvv,List.append_assoc,List.append_assoc];have:=nmU_pre z k (64-k);rw [show k+(64-k)=64 from by omega] at this;exact this.trans (List.prefix_append _ _)
theorem nums_c {z:Nat->UInt8} {wh:Bool} {fc:Nat->Bool} {b:Int} {k:Nat} (hk:k<=4):nmU z 64++cmU fc k <+: numsS z wh fc b:=by
 rw [qvv,List.append_assoc,List.append_assoc];have:=cmU_pre fc k (4-k);rw [show k+(4-k)=4 from by omega] at this;exact (List.prefix_append_right_inj _).2 (this.trans (List.prefix_append _ _))
theorem cL4 {fc:Nat->Bool} {Bp:Nat} {W:World} (h:∀ i,i<4->W.cell? ⟨Bp,65+i,none⟩=some (.bool (fc i))):W.rangeAt Bp 65 [.bool (fc 0),.bool (fc 1),.bool (fc 2),.bool (fc 3)]:=by
 intro j v hv;have hj:j<4:=(List.getElem?_eq_some_iff.1 hv).1;have:j=0\/j=1\/j=2\/j=3:=by omega
 rcases this with rfl|rfl|rfl|rfl<;>(rw [<-hv];exact h _ (by omega))
theorem infoB4:(Tryz.prog.info? 23).map (·.size)=some 4:=by kernel_rfl
theorem ix4b0 (c0 c1 c2 c3:Bool) (w:World):(Instr.index 23 (.agg #[.bool c0,.bool c1,.bool c2,.bool c3]) (.int .i64 0)).run Tryz.prog w=.ok (.bool c0) w:=by kernel_rfl
theorem ix4b1 (c0 c1 c2 c3:Bool) (w:World):(Instr.index 23 (.agg #[.bool c0,.bool c1,.bool c2,.bool c3]) (.int .i64 1)).run Tryz.prog w=.ok (.bool c1) w:=by kernel_rfl
theorem ix4b2 (c0 c1 c2 c3:Bool) (w:World):(Instr.index 23 (.agg #[.bool c0,.bool c1,.bool c2,.bool c3]) (.int .i64 2)).run Tryz.prog w=.ok (.bool c2) w:=by kernel_rfl
theorem ix4b3 (c0 c1 c2 c3:Bool) (w:World):(Instr.index 23 (.agg #[.bool c0,.bool c1,.bool c2,.bool c3]) (.int .i64 3)).run Tryz.prog w=.ok (.bool c3) w:=by kernel_rfl
theorem ix4b (fc:Nat->Bool) (k:Nat) (hk:k<4) (w:World):(Instr.index 23 (.agg #[.bool (fc 0),.bool (fc 1),.bool (fc 2),.bool (fc 3)]) (.int .i64 (k:Int))).run Tryz.prog w=.ok (.bool (fc k)) w:=by
 have:k=0\/k=1\/k=2\/k=3:=by omega
 rcases this with rfl|rfl|rfl|rfl
 ·exact ix4b0 _ _ _ _ w
 ·exact ix4b1 _ _ _ _ w
 ·exact ix4b2 _ _ _ _ w
 ·exact ix4b3 _ _ _ _ w
theorem ix64N (z:Nat->UInt8) (k:Nat) (hk:k<64) (w:World):(Instr.index 22 (.agg (zL z).toArray) (.int .i64 (k:Int))).run Tryz.prog w=.ok (.int .u8 ((z k).toNat:Int)) w:=ix64 _ k hk _ ((zL_arr z).2 k hk) w
theorem numbers_it {z:Nat->UInt8} {wh:Bool} {fc:Nat->Bool} {b:Int} (hok:layOk z=true) (hb0:-1<=b) (hb1:b<=63) (B1 Bp:Nat) (T:Obj->Prop) (w:World) (h1:w.cell? ⟨B1,0,none⟩=some (.pointer (some ⟨Bp,0,none⟩))) (hps:Ps z wh fc b Bp w) :
  It Tryz.prog 250 #[.pointer (some ⟨B1,0,none⟩)] (fun x:Nat=>#[Value.int .i64 (x:Int)]) T (fun k=>k=B1\/k=Bp) (numsS z wh fc b) w:=by
 intro l B J Jx W f0 hB hJ hJx hY h0;have c0:=f0.cell h1 (fun _ _=>.inl rfl);have hP:=hps.fr f0 (fun _ _=>.inr rfl);clear f0 h1 hps;refine (callsIn_wide (n:=1)).1 ?_;refine callsIn_of_wp Tryz.func250 rfl trivial ?_ rfl;simp only [Tryz.ntmps250,List.size_toArray,List.length_cons,List.length_nil,Nat.reduceAdd,Nat.reduceSub,Array.replicate_succ,Array.replicate_zero,List.push_toArray,List.append_toArray,List.nil_append,List.cons_append];refine wpIn_wide.2 ?_;have crg:=hP.bd.range;go_wp2_with (refine wpList_load_mid rfl 22 _ rfl Bp 0 rfl (zL z) _ crg Tryz.underlying22 rfl (by rw [qzh];exact info64) ?_);refine (wpIn_wide (n:=1)).1 ?_;have hcL:=hP;gi_loopw [11] (fun p wr=>∃ k:Nat,k<=64/\p=.int .i64 (k:Int)/\wr.cell? ⟨B1,0,none⟩=some (.pointer (some ⟨Bp,0,none⟩))/\Ps z wh fc b Bp wr/\J (nmU z k) wr) (fun p _=>64-(intOf p).toNat)
 case atStart=>exact ⟨0,by omega,rfl,c0,hP,h0⟩
 case round =>
  clear c0 hP h0 crg hcL;obtain ⟨k,hk,rfl,c0,hP,hJk⟩:=hrel;have hP':=hide hP;have hJk':=hide hJk;clear hP hJk;by_cases hlt:k<64
  ·have hix:=ix64N z k hlt
   have hoy:okY (z k)=true:=by
    have hok2:=hok;unfold layOk at hok2;exact (List.all_eq_true.1 hok2) k (List.mem_range.2 hlt)
   have hk0:(0:Int)<=(k:Int):=by omega
   have hk64:(k:Int)<64:=by omega
   have ekk:IntKind.i64.wrap ((k:Int)+1)=(((k+1:Nat)):Int):=by rw [IntKind.wrap_i64];omega
   have hsu:Hid (nmU z (k+1)=nmU z k++(if 0<=ixc (z k) then [64*(ixc (z k)).toNat+k+1] else [])):=hide (nmU_succ z k);by_cases hdot:z k=46
   ·have hne:(((z k).toNat:Int) != 46)=false:=by rw [hdot];rfl
    have hs2:Hid (nmU z (k+1)=nmU z k):=hide (by rw [qa hsu,if_neg (by rw [hdot];decide),List.append_nil]);clear hsu hoy hdot;gi_wp2_with ((with_reducible apply And.intro);(first|exact trivial|(intro _ _;trivial)));go_roundw
    case rel=>exact ⟨k+1,by omega,rfl,c0,qa hP',by rw [qa hs2];exact qa hJk'⟩
    case measure=>simp only [intOf];omega
   ·have hne:(((z k).toNat:Int) != 46)=true:=by
     rw [bne_iff_ne];intro e;apply hdot;apply UInt8.toNat_inj.1;have:(z k).toNat=46:=by omega
     rw [this];rfl
    have hge:0<=ixc (z k):=by
     rw [ok_ix,Bool.or_eq_true,beq_iff_eq,decide_eq_true_eq] at hoy;exact hoy.resolve_left hdot
    have hlt12:=(qxx (z k)).2;obtain ⟨m,hm⟩:=Int.eq_ofNat_of_zero_le hge;have hs2:nmU z (k+1)=nmU z k++[64*m+k+1]:=by rw [qa hsu,if_pos hge,hm];rfl
    have hib:Hid (∀ W:World,Calls Tryz.prog 138 #[.string ⟨#[80,78,66,82,81,75,112,110,98,114,113,107]⟩,.int .u8 ((z k).toNat:Int)] W fun e w'=>e=.returned (.int .i64 (m:Int))/\w'=W):=hide (fun W=>by
     refine (Tryz.strings_IndexByte _ _ _).mono ?_;rintro e w' ⟨rfl,rfl⟩;have hu:((z k).toNat:Int).toNat.toUInt8=z k:=by simp
     exact ⟨by rw [<-hm];simp only [hu];rfl,rfl⟩)
    have m12:m<12:=by omega
    have e1:IntKind.i64.wrap (64*(m:Int))=64*(m:Int):=by rw [IntKind.wrap_i64];omega
    have e2:IntKind.i64.wrap (64*(m:Int)+(k:Int))=64*(m:Int)+(k:Int):=by rw [IntKind.wrap_i64];omega
    have e3:IntKind.i64.wrap (64*(m:Int)+(k:Int)+1)=((64*m+k+1:Nat):Int):=by rw [IntKind.wrap_i64];omega
    obtain ⟨fn,tmps,assign,body,hy,hR⟩:=hY (nmU z k) (64*m+k+1) wr (by rw [<-hs2];exact nums_b (by omega)) (qa hJk');have hs3:=hide hs2;clear hsu hoy hdot hs2 hge hlt12 hm;generalize 64*m+k+1=xx at hy hR e3 hs3;gi_wp2_with (refine ⟨trivial,?_⟩;gi_at_call 138;refine (callsIn_wide.2 (qa hib _)).mono ?_;rintro e w' ⟨rfl,rfl⟩);refine hR.mono ?_;rintro e W3 ⟨f3,⟨rfl,hJ3⟩|⟨rfl,hJx3⟩⟩
    ·have c3:=f3.cell c0 (fun _ _=>.inl (.inl rfl));have hP3:=(qa hP').fr f3 (fun _ _=>.inl (.inr rfl));gi_wp2;go_roundw
     case rel=>exact ⟨k+1,by omega,rfl,c3,hP3,by rw [qa hs3];exact hJ3⟩
     case measure=>simp only [intOf];omega
    ·gi_wp2;refine bodyPost_ret (results_none rfl _ _ _) rfl ?_;exact ⟨⟨_,rfl⟩,.inr ⟨nmU z k++[xx],by rw [<-qa hs3];exact nums_b (by omega),hJx3⟩⟩
  ·have ek:k=64:=by omega
   subst ek;clear hlt;have hP:=qa hP';have crg:=cL4 hP.c;refine wpIn_wide.2 ?_;go_wp2_with (refine wpList_load_mid rfl 23 _ rfl Bp 65 rfl [.bool (fc 0),.bool (fc 1),.bool (fc 2),.bool (fc 3)] _ crg Tryz.underlying23 rfl infoB4 ?_);refine (wpIn_wide (n:=1)).1 ?_;gi_loopw [33] (fun p wr=>∃ k:Nat,k<=4/\p=.int .i64 (k:Int)/\wr.cell? ⟨B1,0,none⟩=some (.pointer (some ⟨Bp,0,none⟩))/\Ps z wh fc b Bp wr/\J (nmU z 64++cmU fc k) wr) (fun p _=>4-(intOf p).toNat)
   case atStart=>exact ⟨0,by omega,rfl,c0,hP,by rw [show cmU fc 0=[] from rfl,List.append_nil];exact qa hJk'⟩
   case round =>
    clear c0 hP hP' hJk' crg;obtain ⟨k,hk,rfl,c0,hP,hJk⟩:=hrel;have hP':=hide hP;have hJk':=hide hJk;clear hP hJk;by_cases hlt:k<4
    ·have hix:=ix4b fc k hlt;have hk0:(0:Int)<=(k:Int):=by omega
     have hk64:(k:Int)<4:=by omega
     have ekk:IntKind.i64.wrap ((k:Int)+1)=(((k+1:Nat)):Int):=by rw [IntKind.wrap_i64];omega
     have hsu:Hid (cmU fc (k+1)=cmU fc k++(if fc k then [769+k] else [])):=hide (cmU_succ fc k);cases hfk:fc k
     ·have hs2:Hid (nmU z 64++cmU fc (k+1)=nmU z 64++cmU fc k):=hide (by rw [qa hsu,hfk];simp);rw [hfk] at hix;clear hsu hfk;gi_wp2_with ((with_reducible apply And.intro);(first|exact trivial|(intro _ _;trivial)));go_roundw
      case rel=>exact ⟨k+1,by omega,rfl,c0,qa hP',by rw [qa hs2];exact qa hJk'⟩
      case measure=>simp only [intOf];omega
     ·have hs2:nmU z 64++cmU fc (k+1)=nmU z 64++cmU fc k++[769+k]:=by rw [qa hsu,hfk];simp
      have e3:IntKind.i64.wrap (769+(k:Int))=((769+k:Nat):Int):=by rw [IntKind.wrap_i64];omega
      obtain ⟨fn,tmps,assign,body,hy,hR⟩:=hY (nmU z 64++cmU fc k) (769+k) wr (by rw [<-hs2];exact nums_c (by omega)) (qa hJk');have hs3:=hide hs2;rw [hfk] at hix;clear hsu hfk hs2;generalize 769+k=xx at hy hR e3 hs3;gi_wp2;refine hR.mono ?_;rintro e W3 ⟨f3,⟨rfl,hJ3⟩|⟨rfl,hJx3⟩⟩
      ·have c3:=f3.cell c0 (fun _ _=>.inl (.inl rfl));have hP3:=(qa hP').fr f3 (fun _ _=>.inl (.inr rfl));gi_wp2;go_roundw
       case rel=>exact ⟨k+1,by omega,rfl,c3,hP3,by rw [qa hs3];exact hJ3⟩
       case measure=>simp only [intOf];omega
      ·gi_wp2;refine bodyPost_ret (results_none rfl _ _ _) rfl ?_;exact ⟨⟨_,rfl⟩,.inr ⟨nmU z 64++cmU fc k++[xx],by rw [<-qa hs3];exact nums_c (by omega),hJx3⟩⟩
    ·have ek:k=4:=by omega
     subst ek;clear hlt;have hfi:=hide (qvv z wh fc b);obtain ⟨pre,hpre⟩:∃ l,Hid (l=nmU z 64++cmU fc 4):=⟨_,hide rfl⟩;rw [<-qa hpre] at hJk' hfi;have cw:=(qa hP').wh;have cb:=(qa hP').b;have hbn:Hid (bhN b=if 0<=b then [774+(b%8).toNat] else []):=hide rfl;cases wh
     ·have hn1:numsS z false fc b=pre++[773]++bhN b:=qa hfi;obtain ⟨fn,tmps,assign,body,hy,hR⟩:=hY pre 773 wr (by rw [hn1];exact List.prefix_append _ _) (qa hJk');have hn1':=hide hn1;simp only [show ((773:Nat):Int)=773 from rfl] at hy;clear hfi hpre hn1;gi_wp2;refine (wpIn_wide (n:=1)).1 ?_;gi_wp2;refine hR.mono ?_;rintro e W3 ⟨f3,⟨rfl,hJ3⟩|⟨rfl,hJx3⟩⟩
      ·have c3:=f3.cell c0 (fun _ _=>.inl (.inl rfl));have cb3:=((qa hP').fr f3 (fun _ _=>.inl (.inr rfl))).b;by_cases hb:0<=b
       ·rw [if_pos hb] at hbn;obtain ⟨fn,tmps,assign,body,hy2,hR2⟩:=hY (pre++[773]) (774+(b%8).toNat) W3 (by rw [qa hn1',qa hbn];exact List.prefix_refl _) hJ3;have e1:IntKind.i64.wrap (774+b%8)=((774+(b%8).toNat:Nat):Int):=by rw [IntKind.wrap_i64];omega
        have e2:b.tmod 8=b%8:=Int.tmod_eq_emod_of_nonneg hb;have hfin:=hide (show pre++[773]++[774+(b%8).toNat]=numsS z false fc b by rw [qa hn1',qa hbn]);clear hbn hn1';generalize 774+(b%8).toNat=xx at hy2 hR2 e1 hfin;gi_wp2;refine hR2.mono ?_;rintro e W4 ⟨f4,⟨rfl,hJ4⟩|⟨rfl,hJx4⟩⟩
        ·gi_wp2;go_end0;exact ⟨⟨_,rfl⟩,.inl (by rw [<-qa hfin];exact hJ4)⟩
        ·gi_wp2;go_end0;exact ⟨⟨_,rfl⟩,.inr ⟨_,by rw [<-qa hfin];exact List.prefix_refl _,hJx4⟩⟩
       ·rw [if_neg hb] at hbn;gi_wp2;go_end0;exact ⟨⟨_,rfl⟩,.inl (by rw [qa hn1',qa hbn,List.append_nil];exact hJ3)⟩
      ·gi_wp2;refine bodyPost_ret (results_none rfl _ _ _) rfl ?_;exact ⟨⟨_,rfl⟩,.inr ⟨pre++[773],by rw [qa hn1'];exact List.prefix_append _ _,hJx3⟩⟩
     ·have hn1':Hid (numsS z true fc b=pre++bhN b):=hide (by rw [qa hfi];simp [whN]);clear hfi hpre;by_cases hb:0<=b
      ·rw [if_pos hb] at hbn;obtain ⟨fn,tmps,assign,body,hy2,hR2⟩:=hY pre (774+(b%8).toNat) wr (by rw [qa hn1',qa hbn];exact List.prefix_refl _) (qa hJk');have e1:IntKind.i64.wrap (774+b%8)=((774+(b%8).toNat:Nat):Int):=by rw [IntKind.wrap_i64];omega
       have e2:b.tmod 8=b%8:=Int.tmod_eq_emod_of_nonneg hb;have hfin:=hide (show pre++[774+(b%8).toNat]=numsS z true fc b by rw [qa hn1',qa hbn]);clear hbn hn1';generalize 774+(b%8).toNat=xx at hy2 hR2 e1 hfin;gi_wp2;refine (wpIn_wide (n:=1)).1 ?_;gi_wp2_with ((with_reducible apply And.intro);(first|exact trivial|(intro _ _;trivial)));refine hR2.mono ?_;rintro e W4 ⟨f4,⟨rfl,hJ4⟩|⟨rfl,hJx4⟩⟩
       ·gi_wp2;go_end0;exact ⟨⟨_,rfl⟩,.inl (by rw [<-qa hfin];exact hJ4)⟩
       ·gi_wp2;go_end0;exact ⟨⟨_,rfl⟩,.inr ⟨_,by rw [<-qa hfin];exact List.prefix_refl _,hJx4⟩⟩
      ·rw [if_neg hb] at hbn;gi_wp2;refine (wpIn_wide (n:=1)).1 ?_;gi_wp2_with ((with_reducible apply And.intro);(first|exact trivial|(intro _ _;trivial)));go_end0;exact ⟨⟨_,rfl⟩,.inl (by rw [qa hn1',qa hbn,List.append_nil];exact qa hJk')⟩
theorem U_nat (n:Nat) (h:n<18446744073709551616):U (BitVec.ofNat 64 n)=(n:Int):=by
 unfold U;rw [BitVec.toNat_ofNat,Nat.mod_eq_of_lt h]
theorem qj1 (n:Nat) (h:n<18446744073709551616) (w:World):Calls Tryz.prog 119 #[.int .u64 0,.int .u64 (n:Int)] w fun e w'=>e=.returned (.int .u64 (U (gnB n)))/\w'=w:=by
 have:=qv3 0#64 (BitVec.ofNat 64 n) w;rw [U_nat n h] at this;exact this
theorem num_nat (n:Nat) (h:n<18446744073709551616) (w:World):Calls Tryz.prog 193 #[.int .u64 0,.int .u64 (n:Int)] w fun e w'=>e=.returned (.int .u64 (U (gnB n)))/\w'=w:=by
 have e:=numb_U 0#64 (BitVec.ofNat 64 n);rw [U_nat n h] at e;have:=mixNum_any (U 0#64) (n:Int) w;rw [e] at this;exact this
def KeyEnd (s:ByteArray) (e:Ending):Prop :=
 (∃ k,BadK s k/\e=.returned (.tuple #[.int .u64 0,.int .i64 k])) ∨
 (∃ p,readS s=some p/\posCan p=true/\e=.returned (.tuple #[.int .u64 (U (keyS (posZ p) p.white p.castle p.behind)),.int .i64 0]))
theorem keyR_any (s:ByteArray) (hs:s.size<4294967281) (w:World):Calls Tryz.prog 55 #[.string s] w fun e w'=>KeyEnd s e/\Gr w w':=by
 have h1:Hid (∀ W,Calls Tryz.prog 38 #[.string s] W fun e w'=>ParseEnd s e/\Gr W w'):=hide (fun W=>qz0 s hs W);rcases xo s with ⟨p,hr,hcan,hone⟩|⟨k,hk,hbad,hone⟩
 ·have h2:Hid (∀ W,Calls Tryz.prog 38 #[.string s] W fun e w'=>e=.returned (.tuple #[.agg (posV p),.int .i64 0])/\Gr W w'):=hide (fun W=>(qa h1 W).mono fun e w' h=>⟨hone e h.1,h.2⟩);have hrow:=jn hr;have hz:=hrow.size;have ho:=hide (qz hrow);have hb:=qq1 hr;have hend:Hid (KeyEnd s (.returned (.tuple #[.int .u64 (U (keyS (posZ p) p.white p.castle p.behind)),.int .i64 0]))):=hide (.inr ⟨p,hr,hcan,rfl⟩);have hrow':=hide hrow;generalize posV p=A at h2 hz ho hrow';generalize posZ p=z at hrow' hend;generalize p.white=wh at hrow' hend;generalize p.castle=fc at hrow' hend;generalize p.behind=b at hrow' hend hb;obtain ⟨hb0,hb1⟩:=hb;clear h1 hone hrow hr hcan hs;go_enter Tryz.func55,Tryz.ntmps55
  go_upto_region 2 with (first
   | (go_at_call 38;refine (qa h2 _).mono ?_;rintro e w3 ⟨rfl,hg3⟩;have y1:=heap_alloc_new w3 (.cells Tryz.zeroCells25 25))
   | (refine wpList_store_row rfl 25 _ _ rfl w3.heap.size A rfl rfl 25 Tryz.zeroCells25 (by with_reducible exact y1) (by rw [hz];exact infoP) (by rw [hz];exact zeroP.symm) (qa ho) ?_))
  have hg4:Gr w ((w3.alloc (.cells Tryz.zeroCells25 25)).setRow w3.heap.size A):=Gr.trans hg3 (((Gr.refl w3).alloc _ _).setRow _ (Nat.le_refl _) _);have hb4:((w3.alloc (.cells Tryz.zeroCells25 25)).setRow w3.heap.size A).heap[w3.heap.size]?=some (.cells A 25):=setRow_heap _ _ _ _ _ _ y1;generalize (w3.alloc (.cells Tryz.zeroCells25 25)).setRow w3.heap.size A=w4 at hg4 hb4 ⊢;generalize w3.heap.size=b1 at hb4 ⊢;have hcl:Hid (∀ k,k<64->w4.cell? ⟨b1,k,none⟩=some (.int .u8 ((z k).toNat:Int))):=hide fun k hk=>by rw [qm hb4];exact (qa hrow').sq k hk
  have hcc:Hid (∀ k,k<4->w4.cell? ⟨b1,65+k,none⟩=some (.bool (fc k))):=hide fun k hk=>by rw [qm hb4];exact (qa hrow').c k hk
  have hcw:w4.cell? ⟨b1,64,none⟩=some (.bool wh):=by rw [qm hb4];exact (qa hrow').wh
  have hcb:w4.cell? ⟨b1,69,none⟩=some (.int .i64 b):=by rw [qm hb4];exact (qa hrow').b
  have hg4':=hide hg4;clear hg3 hg4 hb4 y1 h2 hrow' ho;go_wp2_with fail;go_loopg [6,7] 64 (fun g kk i wr=>∃ k:Nat,k+g=64/\i=.int .i64 k/\kk=.int .u64 (U (kyB z k))/\wr=w4)
  case atStart=>exact ⟨0,rfl,rfl,rfl,rfl⟩
  case round =>
   obtain ⟨k,k1,rfl,rfl,hww⟩:=hrel;have hww':=hww.symm;subst hww';clear hww;by_cases hlt:k<64
   ·have hck:=qa hcl k hlt;have hk0:(0:Int)<=(k:Int):=by omega
    have hk6:(k:Int)<64:=by omega
    have hpl:=hide (fun W=>qx ⟨#[80,78,66,82,81,75,112,110,98,114,113,107]⟩ (by decide) (z k) W);have hl:=hide (kyB_succ z k);obtain ⟨i0,i1⟩:=qxx (z k);have hix:Hid (Lib.indexByte (⟨#[80,78,66,82,81,75,112,110,98,114,113,107]⟩:ByteArray).data.toList (z k)=ixc (z k)):=hide rfl;rw [qa hix] at hpl;clear hix;generalize ixc (z k)=iv at hpl hl i0 i1;by_cases hi:0<=iv
    ·obtain ⟨m,rfl⟩:=Int.eq_ofNat_of_zero_le hi;have hgn:=hide (fun W=>qj1 (64*m+k+1) (by omega) W);have hl2:Hid (kyB z (k+1)=kyB z k ^^^ gnB (64*m+k+1)):=hide (by rw [qa hl,if_pos hi];rfl);have ex:Hid (IntKind.u64.wrap (64*(m:Int)+(k:Int)+1)=((64*m+k+1:Nat):Int)):=hide (by rw [IntKind.wrap_u64];omega);clear hl hend hcc hcw hcb;generalize gnB (64*m+k+1)=gv at hgn hl2
     go_wp2_with (first
      | (go_at_call 118;refine (qa hpl _).mono ?_;rintro e' w' ⟨rfl,hw⟩;have hw':=hw.symm;subst hw';clear hw)
      | (go_at_call 119;refine Calls.mono (by first|exact qa hgn _|(rw [qa ex];exact qa hgn _)) ?_;rintro e' w' ⟨rfl,hw⟩;have hw':=hw.symm;subst hw';clear hw))
     go_roundg (gk-1)
     case measure=>omega
     case rel=>exact ⟨k+1,by omega,by go_num,by rw [qa hl2,<-xor_U],rfl⟩
    ·have hl2:Hid (kyB z (k+1)=kyB z k):=hide (by rw [qa hl,if_neg hi]);have ei:iv=-1:=by omega
     subst ei;clear hl hend hcc hcw hcb;go_wp2_with (go_at_call 118;refine (qa hpl _).mono ?_;rintro e' w' ⟨rfl,hw⟩;have hw':=hw.symm;subst hw';clear hw);go_roundg (gk-1)
     case measure=>omega
     case rel=>exact ⟨k+1,by omega,by go_num,by rw [qa hl2],rfl⟩
   ·have ek:k=64:=by omega
    subst ek;have hk1:Hid (keyS z wh fc b=kyF b (kyW wh (kyC fc (kyB z 64) 4))):=hide rfl;generalize kyB z 64=K at hk1;clear hlt hcl;go_wp2_with fail;go_loopg [6,9] 4 (fun g kk i wr=>∃ k:Nat,k+g=4/\i=.int .i64 k/\kk=.int .u64 (U (kyC fc K k))/\wr=w4)
    case atStart=>exact ⟨0,rfl,rfl,rfl,rfl⟩
    case round =>
     obtain ⟨k,k1,rfl,rfl,hww⟩:=hrel;have hww':=hww.symm;subst hww';clear hww;by_cases hlt:k<4
     ·have hck:=qa hcc k hlt;have hk0:(0:Int)<=(k:Int):=by omega
      have hk6:(k:Int)<4:=by omega
      have hl:=hide (kyC_succ fc K k);cases hf:fc k
      ·rw [hf] at hck;have hl2:Hid (kyC fc K (k+1)=kyC fc K k):=hide (by rw [qa hl,hf];rfl);clear hl hend hcw hcb hk1 hf;go_wp2_with fail;go_roundg (gk-1)
       case measure=>omega
       case rel=>exact ⟨k+1,by omega,by go_num,by rw [qa hl2],rfl⟩
      ·rw [hf] at hck;have hgn:=hide (fun W=>qj1 (769+k) (by omega) W);have hl2:Hid (kyC fc K (k+1)=kyC fc K k ^^^ gnB (769+k)):=hide (by rw [qa hl,hf];rfl);have ex:Hid (IntKind.u64.wrap (769+(k:Int))=((769+k:Nat):Int)):=hide (by rw [IntKind.wrap_u64];omega);clear hl hend hcw hcb hk1 hf;generalize gnB (769+k)=gv at hgn hl2;go_wp2_with (go_at_call 119;refine Calls.mono (by first|exact qa hgn _|(rw [qa ex];exact qa hgn _)) ?_;rintro e' w' ⟨rfl,hw⟩;have hw':=hw.symm;subst hw';clear hw);go_roundg (gk-1)
       case measure=>omega
       case rel=>exact ⟨k+1,by omega,by go_num,by rw [qa hl2,<-xor_U],rfl⟩
     ·have ek:k=4:=by omega
      subst ek;generalize kyC fc K 4=K2 at hk1;clear hlt hcc;have hW:Hid (kyW wh K2=if wh then K2 else K2 ^^^ gnB 773):=hide rfl;have hgw:=hide (fun W=>qj1 773 (by omega) W);have hF:∀ K3,Hid (kyF b K3=if 0<=b then K3 ^^^ gnB (774+(b%8).toNat) else K3):=fun K3=>hide rfl
      cases wh
      ·have hW2:Hid (kyW false K2=K2 ^^^ gnB 773):=hW;rw [qa hk1,qa hW2,qa (hF _)] at hend;clear hk1 hW hW2 hF;generalize gnB 773=g3 at hgw hend;by_cases hbb:0<=b
       ·rw [if_pos hbb] at hend;obtain ⟨bn,rfl⟩:=Int.eq_ofNat_of_zero_le hbb;have hgf:=hide (fun W=>qj1 (774+((bn:Int)%8).toNat) (by omega) W);have ex:Hid (IntKind.u64.wrap (774+(bn:Int)%8)=((774+((bn:Int)%8).toNat:Nat):Int)):=hide (by rw [IntKind.wrap_u64];omega);generalize gnB (774+((bn:Int)%8).toNat)=g4 at hgf hend;rw [<-xor_U,<-xor_U] at hend
        go_wp2_with (first
         | (go_at_call 119;refine Calls.mono (by exact qa hgw _) ?_;rintro e' w' ⟨rfl,hw⟩;have hw':=hw.symm;subst hw';clear hw)
         | (go_at_call 119;refine Calls.mono (by first|exact qa hgf _|(rw [qa ex];exact qa hgf _)) ?_;rintro e' w' ⟨rfl,hw⟩;have hw':=hw.symm;subst hw';clear hw))
        go_ret2;exact ⟨qa hend,qa hg4'⟩
       ·rw [if_neg hbb,<-xor_U] at hend;have eb:b=-1:=by omega
        subst eb;go_wp2_with (go_at_call 119;refine Calls.mono (by exact qa hgw _) ?_;rintro e' w' ⟨rfl,hw⟩;have hw':=hw.symm;subst hw';clear hw);go_ret2;exact ⟨qa hend,qa hg4'⟩
      ·have hW2:Hid (kyW true K2=K2):=hW;rw [qa hk1,qa hW2,qa (hF _)] at hend;clear hk1 hW hW2 hF hgw;by_cases hbb:0<=b
       ·rw [if_pos hbb] at hend;obtain ⟨bn,rfl⟩:=Int.eq_ofNat_of_zero_le hbb;have hgf:=hide (fun W=>qj1 (774+((bn:Int)%8).toNat) (by omega) W);have ex:Hid (IntKind.u64.wrap (774+(bn:Int)%8)=((774+((bn:Int)%8).toNat:Nat):Int)):=hide (by rw [IntKind.wrap_u64];omega);generalize gnB (774+((bn:Int)%8).toNat)=g4 at hgf hend;rw [<-xor_U] at hend;go_wp2_with (go_at_call 119;refine Calls.mono (by first|exact qa hgf _|(rw [qa ex];exact qa hgf _)) ?_;rintro e' w' ⟨rfl,hw⟩;have hw':=hw.symm;subst hw';clear hw);go_ret2;exact ⟨qa hend,qa hg4'⟩
       ·rw [if_neg hbb] at hend;have eb:b=-1:=by omega
        subst eb;go_wp2_with fail;go_ret2;exact ⟨qa hend,qa hg4'⟩
 ·have h2:Hid (∀ W,Calls Tryz.prog 38 #[.string s] W fun e w'=>e=.returned (.tuple #[.agg Tryz.zeroCells25,.int .i64 k])/\Gr W w'):=hide (fun W=>(qa h1 W).mono fun e w' h=>⟨hone e h.1,h.2⟩);have hend:Hid (KeyEnd s (.returned (.tuple #[.int .u64 0,.int .i64 k]))):=hide (.inl ⟨k,hbad,rfl⟩);have k2:(k != 0)=true:=by rw [bne_iff_ne];exact hk
  clear h1 hone hbad hk hs;go_enter Tryz.func55,Tryz.ntmps55
  go_upto_region 2 with (first
   | (go_at_call 38;refine (qa h2 _).mono ?_;rintro e w3 ⟨rfl,hg3⟩;have y1:=heap_alloc_new w3 (.cells Tryz.zeroCells25 25))
   | (refine wpList_store_row rfl 25 _ _ rfl w3.heap.size Tryz.zeroCells25 rfl rfl 25 Tryz.zeroCells25 (by with_reducible exact y1) (by rw [zeroP];exact infoP) rfl zeroP_ones ?_))
  have hg4:Gr w ((w3.alloc (.cells Tryz.zeroCells25 25)).setRow w3.heap.size Tryz.zeroCells25):=Gr.trans hg3 (((Gr.refl w3).alloc _ _).setRow _ (Nat.le_refl _) _);generalize (w3.alloc (.cells Tryz.zeroCells25 25)).setRow w3.heap.size Tryz.zeroCells25=w4 at hg4 ⊢;clear y1 hg3;go_wp2;go_ret2;exact ⟨qa hend,hg4⟩
theorem nums_lt {z:Nat->UInt8} {wh:Bool} {fc:Nat->Bool} {b:Int} {x:Nat} (h:x∈numsS z wh fc b):x<1000:=by
 rw [qvv,List.mem_append,List.mem_append,List.mem_append] at h;rcases h with ((h|h)|h)|h
 ·unfold nmU at h;obtain ⟨n,hn,e⟩:=List.mem_filterMap.1 h;have:=List.mem_range.1 hn;have:=(qxx (z n)).2;split at e
  ·injection e with e;omega
  ·cases e
 ·unfold cmU at h;obtain ⟨n,hn,e⟩:=List.mem_filterMap.1 h;have:=List.mem_range.1 hn;split at e
  ·injection e with e;omega
  ·cases e
 ·unfold whN at h;split at h
  ·cases h
  ·rw [List.mem_singleton.1 h];omega
 ·unfold bhN at h;split at h
  ·rw [List.mem_singleton.1 h];omega
  ·cases h
theorem numbers_mk (Bp:Nat) (w:World):Calls Tryz.prog 192 #[.pointer (some ⟨Bp,0,none⟩)] w fun e w'=>e=.returned (.func (.func 250) #[] #[.pointer (some ⟨w.heap.size,0,none⟩)])/\w'.heap[w.heap.size]?=some (.cells #[.pointer (some ⟨Bp,0,none⟩)] 250)/\Gr w w':=by
 go_enter Tryz.func192,Tryz.ntmps192;go_wp2_with fail;go_ret;exact ⟨rfl,heap_alloc_new w _,(Gr.refl w).alloc _ _⟩
theorem keyOf_any {z:Nat->UInt8} {wh:Bool} {fc:Nat->Bool} {b h g:Int} {PA:Array Value} (r:Row z wh fc b h g PA) (hok:layOk z=true) (hb0:-1<=b) (hb1:b<=63) (w:World) :
  Calls Tryz.prog 117 #[.agg PA] w fun e w'=>e=.returned (.int .u64 (U (keyS z wh fc b)))/\Gr w w':=by
 rw [key_nums];obtain ⟨x1,x2⟩:=heapTwo w (.cells PA 25) (.cells #[.int .u64 0] 64);have hg0:Gr w ((w.alloc (.cells PA 25)).alloc (.cells #[.int .u64 0] 64)):=((Gr.refl w).alloc _ _).alloc _ _;have hs0:((w.alloc (.cells PA 25)).alloc (.cells #[.int .u64 0] 64)).heap.size=w.heap.size+2:=by simp
 have hmk:=hide (fun W=>numbers_mk w.heap.size W);refine (callsIn_wide (n:=9)).1 ?_;refine callsIn_of_wp_marks Tryz.func117 rfl trivial ?_ rfl;simp only [Tryz.ntmps117,List.size_toArray,List.length_cons,List.length_nil,Nat.reduceAdd,Nat.reduceSub,Array.replicate_succ,Array.replicate_zero,List.push_toArray,List.append_toArray,List.nil_append,List.cons_append];refine wpIn_wide.2 ?_;go_upto_region 2 with fail;generalize ((w.alloc (.cells PA 25)).alloc (.cells #[.int .u64 0] 64))=w0 at x1 x2 hg0 hs0 ⊢;go_wp2_with (go_at_call 192;refine (qa hmk _).mono ?_;rintro e w2 ⟨rfl,hb,hg1⟩);have h1:=(Below.block hg1 _ (Array.getElem?_eq_some_iff.1 x1).1).trans x1;have h2:=(Below.block hg1 _ ((Array.getElem?_eq_some_iff.1 x2).1)).trans x2;have hg2:=Gr.trans hg0 hg1;have hs2:=Below.size hg1;have hbl:=(Array.getElem?_eq_some_iff.1 hb).1;have hit:=numbers_it hok hb0 hb1 w0.heap.size w.heap.size (fun _=>False) w2 (qe hb).1 (Ps.of r h1);rw [hs0] at hb hs2 hbl hit;clear hg0 hg1 x1 x2 hmk
 refine wpIn_wide.1 (xf (n:=9) (gf:=250) (lb:=#[.pointer (some ⟨w.heap.size+2,0,none⟩)]) rfl (enters_of Tryz.func250 (by kernel_rfl) rfl) hit (fun _ h=>h.elim) (by rintro k (rfl|rfl)<;>omega) (Fr.refl _ _) (fun _=>rfl)
  (fun pre V=>V.heap[w.heap.size+1]?=some (.cells #[.int .u64 (U (xorN 0#64 pre))] 64)/\Gr w V/\w2.heap.size<=V.heap.size)
  (fun _ _ _=>False)
  ?sI (fun _ _ _ _ h _=>h) ⟨h2,hg2,Nat.le_refl _⟩ ?rnd ?done (fun _ _ _ _ _ _ h _=>h.elim))
 case sI=>exact fun s A A' h f=>⟨f.same _ _ h.1 (.inl (by omega)),Below.trans h.2.1 (f.below (n:=w.heap.size) (Below.size h.2.1) (fun k o hk=>.inl (by omega))),Nat.le_trans h.2.2 f.size⟩
 case done =>
  rintro D V hD ⟨k2,hg,hsz⟩ hK;have c2:=(qe k2).1;go_wp2_with fail;refine ⟨by simp,.inl ⟨_,_,rfl,run_takeDeferred hK,?_⟩⟩;exact ⟨_,results_tmp rfl _ _ _,rfl,Below.trans hg (belowK_b (w:=w2) (n₀:=w.heap.size) (by omega) _ D _ _ hD hK rfl rfl)⟩
 case rnd =>
  rintro l1 pre x V hbl' hx ⟨k2,hg,hsz⟩ hl;have hl':l1<V.heap.size:=hl.elim fun r hr=>(Array.getElem?_eq_some_iff.1 hr).1
  gi_wp2;refine ⟨Fr.refl _ _,?_⟩;intro V2 f2 hI2 hl2;clear k2 hg hsz;obtain ⟨k2,hg,hsz⟩:=hI2;have hxl:x<1000:=nums_lt (hx.subset (by simp));have ew:IntKind.u64.wrap ((x:Nat):Int)=(x:Int):=by rw [IntKind.wrap_u64];omega
  have hnum:=hide (fun W=>num_nat x (by omega) W);have hsn:Hid (U (xorN 0#64 (pre++[x]))=bits .xor .u64 (U (xorN 0#64 pre)) (U (gnB x))):=hide (by rw [xor_U,xorN_app];rfl);generalize gnB x=gv at hnum hsn;obtain ⟨kn,hkn⟩:∃ q,q=xorN 0#64 (pre++[x]):=⟨_,rfl⟩;rw [<-hkn] at hsn;generalize xorN 0#64 pre=kv at k2 hsn;have d2:V2.drew.cell? ⟨w.heap.size+1,0,none⟩=some (.int .u64 (U kv)):=(qe k2).1;have d3:V2.drew.frozen? ⟨w.heap.size+1,0,none⟩=false:=(qe k2).2
  have fin:Hid (Fr (Rnd1 w2.heap.size (fun _=>False) (fun k=>k=w.heap.size+2\/k=w.heap.size)) V2 (V2.setCell ⟨w.heap.size+1,0,none⟩ (.int .u64 (bits .xor .u64 (U kv) (U gv)))).drew/\(V2.setCell ⟨w.heap.size+1,0,none⟩ (.int .u64 (bits .xor .u64 (U kv) (U gv)))).drew.heap[w.heap.size+1]?=some (.cells #[.int .u64 (U (xorN 0#64 (pre++[x])))] 64)/\Gr w (V2.setCell ⟨w.heap.size+1,0,none⟩ (.int .u64 (bits .xor .u64 (U kv) (U gv)))).drew/\w2.heap.size<=(V2.setCell ⟨w.heap.size+1,0,none⟩ (.int .u64 (bits .xor .u64 (U kv) (U gv)))).drew.heap.size):=hide (by
   have fs:Fr (fun k _=>k≠w.heap.size+1) V2 (V2.setCell ⟨w.heap.size+1,0,none⟩ (.int .u64 (bits .xor .u64 (U kv) (U gv)))):=(Fr.refl _ _).setCell _ (fun o _ q=>q rfl);refine ⟨Fr.drew (fs.mono ?_),?_,Gr.drew (Below.setCell hg (show w.heap.size<=w.heap.size+1 by omega) _),?_⟩
   ·rintro k o-(q|q)
    ·rcases q with q|q<;>omega
    ·have:=q.1;omega
   ·show (V2.setCell ⟨w.heap.size+1,0,none⟩ (.int .u64 (bits .xor .u64 (U kv) (U gv)))).heap[w.heap.size+1]?=_;have:=jl (v:=.int .u64 (bits .xor .u64 (U kv) (U gv))) k2;rw [this,<-hkn,qa hsn]
   ·exact Nat.le_trans hsz fs.size)
  gi_wp2;gi_region_with (refine ⟨trivial,?_⟩;gi_at_call 193;refine ((callsIn_wide.2 (qa hnum _)).inRound l1).mono ?_;rintro e wc ⟨rfl,rfl⟩)
  all_goals
   gi_wp2;exact qa fin
theorem rookKey_any (s:ByteArray) (hs:s.size<4294967281) (m:Int) (w:World) (hc:Ct m w):Calls Tryz.prog 54 #[.string s] w fun e w'=>KeyEnd s e/\Gr w w':=by
 have h1:Hid (Calls Tryz.prog 12 #[.string s] w fun e w'=>ParseEnd s e/\Gr w w'):=hide (qjp s hs m w hc.mx hc.ml hc.tab hc.homes);rcases xo s with ⟨p,hr,hcan,hone⟩|⟨k,hk,hbad,hone⟩
 ·have h2:Hid (Calls Tryz.prog 12 #[.string s] w fun e w'=>e=.returned (.tuple #[.agg (posV p),.int .i64 0])/\Gr w w'):=hide ((qa h1).mono fun e w' h=>⟨hone e h.1,h.2⟩);have hrow:=jn hr;have hz:=hrow.size;have ho:=hide (qz hrow);have hb:=qq1 hr;have hkey:=hide (fun W=>keyOf_any hrow (can_lay hcan) hb.1 hb.2 W);have hend:Hid (KeyEnd s (.returned (.tuple #[.int .u64 (U (keyS (posZ p) p.white p.castle p.behind)),.int .i64 0]))):=hide (.inr ⟨p,hr,hcan,rfl⟩);generalize U (keyS (posZ p) p.white p.castle p.behind)=KV at hkey hend;generalize posV p=A at h2 hz ho hkey;clear h1 hone hrow hr hcan hs hc hb;go_enter Tryz.func54,Tryz.ntmps54
  go_upto_region 2 with (first
   | (go_at_call 12;refine (qa h2).mono ?_;rintro e w3 ⟨rfl,hg3⟩)
   | (refine wpList_store_row rfl 25 _ _ rfl w3.heap.size A rfl rfl 25 _ (heap_alloc_new _ _) (by rw [hz];exact infoP) (by rw [hz];exact zeroP.symm) (qa ho) ?_))
  have hg4:Gr w ((w3.alloc (.cells Tryz.zeroCells25 25)).setRow w3.heap.size A):=Gr.trans hg3 (((Gr.refl w3).alloc _ _).setRow _ (Nat.le_refl _) _);have hb4:((w3.alloc (.cells Tryz.zeroCells25 25)).setRow w3.heap.size A).heap[w3.heap.size]?=some (.cells A 25):=setRow_heap _ _ _ _ _ _ (heap_alloc_new w3 _);generalize (w3.alloc (.cells Tryz.zeroCells25 25)).setRow w3.heap.size A=w4 at hg4 hb4 ⊢;generalize w3.heap.size=b1 at hb4 ⊢;have hrw:=hide (xr hb4);clear hg3 h2 ho
  go_wp2_with (first
   | (refine ql (by rfl) _ rfl b1 rfl hz (qa hrw) ?_)
   | (go_at_call 117;refine (qa hkey _).mono ?_;rintro e w5 ⟨rfl,hg5⟩))
  go_ret2;exact ⟨qa hend,Gr.trans hg4 hg5⟩
 ·have h2:Hid (Calls Tryz.prog 12 #[.string s] w fun e w'=>e=.returned (.tuple #[.agg Tryz.zeroCells25,.int .i64 k])/\Gr w w'):=hide ((qa h1).mono fun e w' h=>⟨hone e h.1,h.2⟩);have hend:Hid (KeyEnd s (.returned (.tuple #[.int .u64 0,.int .i64 k]))):=hide (.inl ⟨k,hbad,rfl⟩);have k2:(k != 0)=true:=by rw [bne_iff_ne];exact hk
  clear h1 hone hbad hk hs hc;go_enter Tryz.func54,Tryz.ntmps54
  go_upto_region 2 with (first
   | (go_at_call 12;refine (qa h2).mono ?_;rintro e w3 ⟨rfl,hg3⟩)
   | (refine wpList_store_row rfl 25 _ _ rfl w3.heap.size Tryz.zeroCells25 rfl rfl 25 _ (heap_alloc_new _ _) (by rw [zeroP];exact infoP) rfl zeroP_ones ?_))
  have hg4:Gr w ((w3.alloc (.cells Tryz.zeroCells25 25)).setRow w3.heap.size Tryz.zeroCells25):=Gr.trans hg3 (((Gr.refl w3).alloc _ _).setRow _ (Nat.le_refl _) _);generalize (w3.alloc (.cells Tryz.zeroCells25 25)).setRow w3.heap.size Tryz.zeroCells25=w4 at hg4 ⊢;clear hg3 h2;go_wp2_with fail;go_ret2;exact ⟨qa hend,hg4⟩
theorem key_one (s:ByteArray):∃ (v k:Int),∀ e,KeyEnd s e->e=.returned (.tuple #[.int .u64 v,.int .i64 k]):=by
 rcases xo s with ⟨p,hr,hcan,_⟩|⟨k,hk,hbad,_⟩
 ·refine ⟨U (keyS (posZ p) p.white p.castle p.behind),0,fun e h=>?_⟩;rcases h with ⟨k,a,_⟩|⟨q,a,b,rfl⟩
  ·exfalso
   rcases a with ⟨_,a⟩|⟨_,q,a,b⟩
   ·rw [hr] at a;cases a
   ·rw [hr] at a;rw [<-Option.some.inj a,hcan] at b;cases b
  ·rw [hr] at a;rw [<-Option.some.inj a]
 ·refine ⟨0,k,fun e h=>?_⟩;rcases h with ⟨k',a,rfl⟩|⟨q,a,b,rfl⟩
  ·rw [err_one (t:=⟨#[]⟩) (.inl hbad) (.inl a)]
  ·exfalso
   rcases hbad with ⟨_,c⟩|⟨_,r,c,d⟩
   ·rw [c] at a;cases a
   ·rw [c] at a;rw [<-Option.some.inj a,d] at b;cases b
theorem keysL_any (s:ByteArray) (hs:s.size<4294967281) (m:Int) (w:World) (hc:Ct m w):Calls Tryz.prog 30 #[.string s] w fun e w'=>e=.returned (.bool true)/\Gr w w':=by
 obtain ⟨v,k,hone⟩:=key_one s;have h1:Hid (Calls Tryz.prog 54 #[.string s] w fun e w'=>e=.returned (.tuple #[.int .u64 v,.int .i64 k])/\Gr w w'):=hide ((rookKey_any s hs m w hc).mono fun e w' h=>⟨hone e h.1,h.2⟩);have h2:Hid (∀ W,Calls Tryz.prog 55 #[.string s] W fun e w'=>e=.returned (.tuple #[.int .u64 v,.int .i64 k])/\Gr W w'):=hide (fun W=>(keyR_any s hs W).mono fun e w' h=>⟨hone e h.1,h.2⟩);clear hc hone hs;go_enter Tryz.func30,Tryz.ntmps30
 go_wp2_with (first
  | (go_at_call 54;refine (qa h1).mono ?_;rintro e w1 ⟨rfl,hg1⟩)
  | (go_at_call 55;refine (qa h2 _).mono ?_;rintro e w3 ⟨rfl,hg3⟩)
  | (go_at_call 16;refine (num_any _ _).mono ?_;rintro e w' ⟨rfl,hww⟩;have hww':=hww.symm;subst hww';clear hww))
 go_ret;exact ⟨rfl,Gr.trans hg1 hg3⟩
end Go.Proofs.YtnfakamfmkhlbaaGreatDoor.C
namespace Go.Proofs.YtnfakamfmkhlbaaGreatDoor.C
open Go.RowKit
open Go.Proofs.YtnfakamfmkhlbaaGreatDoor.P
def pathsN:Nat->(Nat->UInt8)->Bool->(Nat->Bool)->Int->Nat
 | 0,_,_,_,_=>1
 | d+1,z,wh,fc,b=>((movS z wh fc b).map fun x=>pathsN d (plZ z b x) (!wh) (cfA fc x.1 x.2.1 4) (behA z x.1 x.2.1)).sum
theorem sum_le {l:List Nat} {m n:Nat} (hl:l.length<=m) (h:∀ x∈l,x<=n):l.sum<=m*n:=by
 have h1:∀ l:List Nat,(∀ x∈l,x<=n)->l.sum<=l.length*n:=by
  intro l;induction l with
  | nil=>intro _;simp
  | cons a r ih =>
   intro h;rw [List.sum_cons,List.length_cons,Nat.add_mul,Nat.one_mul];have:=ih (fun x hx=>h x (List.mem_cons_of_mem _ hx));have:=h a (List.mem_cons_self ..);omega
 exact Nat.le_trans (h1 l h) (Nat.mul_le_mul_right n hl)
theorem paths_le (d:Nat):∀ z wh fc b,pathsN d z wh fc b<=1000000 ^ d:=by
 induction d with
 | zero=>intros;exact Nat.le_refl _
 | succ d ih =>
  intro z wh fc b;rw [Nat.pow_succ,Nat.mul_comm];refine sum_le (by rw [List.length_map];exact qqp z wh fc b) fun x hx=>?_
  obtain ⟨y,_,rfl⟩:=List.mem_map.1 hx;exact ih _ _ _ _
theorem paths_lt {d:Nat} (hd:d<=3) (z:Nat->UInt8) (wh:Bool) (fc:Nat->Bool) (b:Int):pathsN d z wh fc b<=1000000000000000000:=by
 refine Nat.le_trans (paths_le d z wh fc b) (Nat.le_trans (Nat.pow_le_pow_right (by decide) hd) (by decide))
theorem paths_one (z:Nat->UInt8) (wh:Bool) (fc:Nat->Bool) (b:Int):pathsN 1 z wh fc b=(movS z wh fc b).length:=by
 unfold pathsN;generalize movS z wh fc b=l;induction l with
 | nil=>rfl
 | cons a r ih=>rw [List.map_cons,List.sum_cons,ih,List.length_cons];show 1+_=_;omega
structure Ok (z:Nat->UInt8) (wh:Bool) (fc:Nat->Bool) (b h g:Int):Prop where
 can:canS z wh fc b h g=true
 b0:-1<=b
 b1:b<=63
 nz:∀ n,64<=n->z n=0
 nf:∀ n,4<=n->fc n=false
variable {z:Nat->UInt8} {wh:Bool} {fc:Nat->Bool} {b h g:Int}
theorem Ok.good (o:Ok z wh fc b h g):Can z wh fc b:=qv9 o.can
theorem Ok.clk (o:Ok z wh fc b h g):0<=h/\h<=65535/\0<=g/\g<=65535:=by
 obtain ⟨_,_,a,c⟩:=can_gives o.can;omega
theorem Ok.lay (o:Ok z wh fc b h g):layOk z=true:=o.good.ok
theorem Ok.next (o:Ok z wh fc b h g) {f t:Nat} {u:UInt8} (hx:(f,t,u)∈movS z wh fc b):Ok (plZ z b (f,t,u)) (!wh) (cfA fc f t 4) (behA z f t) (halA z f t h) (fulA wh g):=by
 have hok:=qxv _ _ _ _ _ hx;obtain ⟨c0,c1,c2,c3⟩:=o.clk;obtain ⟨hb,_⟩:=aft_bounds z f t hok.1 hok.2 c0 (wh:=wh) c2 c3;exact ⟨can_after o.can o.b0 o.b1 hx,by omega,by omega,fun n hn=>by rw [(mvd_of o.good o.b0 o.b1 hx).far n hn];exact o.nz n hn,fun n hn=>by unfold cfA;rw [o.nf n hn];rfl⟩
theorem Ok.mv (o:Ok z wh fc b h g) {f t:Nat} {u:UInt8} (hx:(f,t,u)∈movS z wh fc b):f<64/\t<64/\u∈U5/\(kingB (z f)=true->t=f+2->f+3<64)/\(kingB (z f)=true->t+2=f->4<=f):=by
 have hok:=qxv _ _ _ _ _ hx;have hL:=qqq o.good o.b0 o.b1;have hxl:=(List.mem_filter.1 ((zc o.good o.b0 o.b1 _).2 hx)).1;exact ⟨hok.1,hok.2,mov_u5 o.good o.b0 o.b1 hx,fun a c=>hL.k1 f t u hxl a c,fun a c=>hL.k2 f t u hxl a c⟩
def fcN (fc:Nat->Bool) (n:Nat):Bool:=decide (n<4)&&fc n
theorem fcN_at (fc:Nat->Bool) {n:Nat} (h:n<4):fcN fc n=fc n:=by unfold fcN;rw [decide_eq_true h];rfl
theorem Ok.of {s:ByteArray} {p:Pos} (hr:readS s=some p) (hc:posCan p=true):Ok (posZ p) p.white (fcN p.castle) p.behind p.half p.full:=by
 obtain ⟨b0,b1⟩:=qq1 hr;refine ⟨?_,b0,b1,pos_far hr,fun n hn=>by unfold fcN;rw [decide_eq_false (by omega)];rfl⟩;rw [canS_congr _ _ _ _ _ (fun i hi=>fcN_at p.castle hi)];exact hc
theorem row_fcN {PA:Array Value} (r:Row z wh fc b h g PA):Row z wh (fcN fc) b h g PA:=⟨r.size,r.sq,r.wh,fun i hi=>by rw [fcN_at fc hi];exact r.c i hi,r.b,r.h,r.g⟩
theorem qxt {l:List Mv} (hl:l.Perm (movS z wh fc b)) (d:Nat):(l.map fun x=>pathsN d (plZ z b x) (!wh) (cfA fc x.1 x.2.1 4) (behA z x.1 x.2.1)).sum=pathsN (d+1) z wh fc b:=(hl.map _).sum_nat
theorem let_perm (hC:Can z wh fc b) (h0:-1<=b) (h1:b<=63):(letL z wh fc b).Perm (movS z wh fc b):=(List.perm_ext_iff_of_nodup (qz2 hC) (qz1 z wh fc b)).2 (zc hC h0 h1)
theorem all_perm (hC:Can z wh fc b) (h0:-1<=b) (h1:b<=63):(allR z wh fc b).Perm (movS z wh fc b):=by
 rw [all_same hC h0 h1];exact xp _
theorem sum_pre {f:Mv->Nat} {pre:List Mv} {x:Mv} {xs:List Mv} (h:pre++[x] <+: xs):(pre.map f).sum+f x<=(xs.map f).sum:=by
 obtain ⟨r,rfl⟩:=h;simp only [List.map_append,List.sum_append,List.map_cons,List.map_nil,List.sum_cons,List.sum_nil];omega
end Go.Proofs.YtnfakamfmkhlbaaGreatDoor.C
