import Derived.Test.YtnfakamfmkhlbabGreatDoorKb4
import Derived.Deep.RegionHeld3
import Derived.Deep.MidRow
import Derived.Test.YtnfakamfmkhlbabGreatDoorKb3
import Derived.Test.YtnfakamfmkhlbabGreatDoorKz2
set_option maxRecDepth 100000
set_option maxHeartbeats 4000000
set_option linter.unusedSimpArgs false
namespace Go.Proofs.YtnfakamfmkhlbabGreatDoor.C
open Go.ChangeShapes Go.WideShapes Go.ChangeAt Go.RowKit
open Go.Proofs.YtnfakamfmkhlbabGreatDoor.P
def IsMen (m:Nat->BitVec 64) (M:Array Value):Prop:=M.size=12/\∀ i,i<12->M[i]?=some (.int .u64 (U (m i)))
def bg (b:Bool):Nat:=if b then 0 else 6
theorem begin_any (b:Bool) (w:World):Calls Tryz.prog 131 #[.bool b] w fun e w'=>e=.returned (.int .i64 (bg b))/\w'=w:=by
 cases b
 ·go_enter Tryz.func131,Tryz.ntmps131;go_wp2;go_ret;exact ⟨rfl,rfl⟩
 ·go_enter Tryz.func131,Tryz.ntmps131;go_wp2;go_ret;exact ⟨rfl,rfl⟩
theorem bg_le (b:Bool):bg b<=6:=by cases b<;>decide
theorem kings_any (m:Nat->BitVec 64) (M:Array Value) (hM:IsMen m M) (b:Bool) (w:World):Calls Tryz.prog 213 #[.agg M,.bool b] w fun e w'=>e=.returned (.int .u64 (U (m (bg b+5))))/\Gr w w':=by
 have hb:=bg_le b;have hc:(w.alloc (.cells M 197)).cell? ⟨w.heap.size,bg b+5,none⟩=some (.int .u64 (U (m (bg b+5)))):=by rw [World.cell?_alloc_at _ _ _ _ rfl];exact hM.2 _ (by omega)
 clear hM;have hbe:=hide (begin_any b);generalize bg b=k at hb hc hbe ⊢;go_enter Tryz.func213,Tryz.ntmps213;go_wp2_with (go_at_call 131;refine (unhide hbe _).mono ?_;rintro e w' ⟨rfl,rfl⟩);go_ret;exact ⟨rfl,(Gr.refl _).alloc _ _⟩
theorem pawns_any (m:Nat->BitVec 64) (M:Array Value) (hM:IsMen m M) (b:Bool) (w:World):Calls Tryz.prog 219 #[.agg M,.bool b] w fun e w'=>e=.returned (.int .u64 (U (m (bg b))))/\Gr w w':=by
 have hb:=bg_le b;have hc:(w.alloc (.cells M 197)).cell? ⟨w.heap.size,bg b,none⟩=some (.int .u64 (U (m (bg b)))):=by rw [World.cell?_alloc_at _ _ _ _ rfl];exact hM.2 _ (by omega)
 clear hM;have hbe:=hide (begin_any b);generalize bg b=k at hb hc hbe ⊢;go_enter Tryz.func219,Tryz.ntmps219;go_wp2_with (go_at_call 131;refine (unhide hbe _).mono ?_;rintro e w' ⟨rfl,rfl⟩);go_ret;exact ⟨rfl,(Gr.refl _).alloc _ _⟩
def orB (m:Nat->BitVec 64) (base:Nat):Nat->BitVec 64
 | 0=>0#64
 | k+1=>orB m base k ||| m (base+k)
def sideB (m:Nat->BitVec 64) (b:Bool):BitVec 64:=orB m (bg b) 6
theorem mside_any (m:Nat->BitVec 64) (M:Array Value) (hM:IsMen m M) (b:Bool) (w:World):Calls Tryz.prog 205 #[.agg M,.bool b] w fun e w'=>e=.returned (.int .u64 (U (sideB m b)))/\Gr w w':=by
 have hb:=bg_le b;unfold sideB;have hbe:=hide (begin_any b);generalize bg b=q at hb hbe ⊢;have hM':=hide hM;clear hM;have hU0:U 0#64=0:=by decide +kernel
 go_enter Tryz.func205,Tryz.ntmps205;go_wp2;go_loopg [5,7] 6 (fun g a n wr=>∃ k:Nat,k+g=6/\n=.int .i64 k/\a=.int .u64 (U (orB m q k))/\wr=w.alloc (.cells M 197))
 case atStart=>exact ⟨0,rfl,rfl,by rw [show orB m q 0=0#64 from rfl,hU0],rfl⟩
 case round =>
  obtain ⟨k,k1,rfl,rfl,rfl⟩:=hrel;by_cases hlt:k<6
  ·have hc:(w.alloc (.cells M 197)).cell? ⟨w.heap.size,q+k,none⟩=some (.int .u64 (U (m (q+k)))):=by rw [World.cell?_alloc_at _ _ _ _ rfl];exact (unhide hM').2 _ (by omega)
   have hor:bits .or .u64 (U (orB m q k)) (U (m (q+k)))=U (orB m q (k+1)):=or_U _ _;go_wp2_with (go_at_call 131;refine (unhide hbe _).mono ?_;rintro e w' ⟨rfl,rfl⟩);go_roundg (gk-1)
   case measure=>omega
   case rel=>exact ⟨k+1,by omega,by go_num,by first|rfl|rw [hor],rfl⟩
  ·have ek:k=6:=by omega
   subst ek;go_wp2;go_ret;exact ⟨rfl,(Gr.refl _).alloc _ _⟩
def takenB (m:Nat->BitVec 64):BitVec 64:=sideB m true ||| sideB m false
def kindI (bw:Bool) (i:Nat):Int:=if i=0 then (if bw then 2 else 1) else (i:Int)+2
def seesI (m:Nat->BitVec 64) (sq:Int) (bw:Bool) (i:Nat):Bool:=bits .and .u64 (reachI (kindI bw i) sq (U (takenB m))) (U (m (bg bw+i))) != 0
def attackedS (m:Nat->BitVec 64) (sq:Int) (bw:Bool):Bool:=(List.range 6).any (seesI m sq bw)
theorem info12:(Tryz.prog.info? 197).map (·.size)=some 12:=by kernel_rfl
theorem kind_ok (bw:Bool) (k:Nat) (h:k<6):1<=kindI bw k/\kindI bw k<=7:=by
 unfold kindI;by_cases hk:k=0
 ·rw [if_pos hk];cases bw<;>decide
 ·rw [if_neg hk];omega
def kindsA (bw:Bool):Array Value:=#[.int .i64 (kindI bw 0),.int .i64 3,.int .i64 4,.int .i64 5,.int .i64 6,.int .i64 7]
theorem info6:(Tryz.prog.info? 204).map (·.size)=some 6:=by kernel_rfl
theorem kinds_any (bw:Bool) (w:World):Calls Tryz.prog 130 #[.bool (!bw)] w fun e w'=>e=.returned (.agg (kindsA bw))/\Gr w w':=by
 cases bw
 ·go_enter Tryz.func130,Tryz.ntmps130;go_wp2;exact bodyPost_ret (v:=.agg (kindsA false)) (results_cell_row Tryz.results130 _ _ w.heap.size 204 _ (0,0) _ rfl (heap_alloc_new _ _) Tryz.underlying204 rfl info6) rfl ⟨rfl,(Gr.refl w).alloc _ _⟩
 ·go_enter Tryz.func130,Tryz.ntmps130;go_wp2;exact bodyPost_ret (v:=.agg (kindsA true)) (results_cell_row Tryz.results130 _ _ w.heap.size 204 _ (0,0) _ rfl (heap_alloc_new _ _) Tryz.underlying204 rfl info6) rfl ⟨rfl,(Gr.refl w).alloc _ _⟩
theorem ix_t0 (w:World):(Instr.index 204 (.agg (kindsA true)) (.int .i64 0)).run Tryz.prog w=.ok (.int .i64 (kindI true 0)) w:=by kernel_rfl
theorem ix_t1 (w:World):(Instr.index 204 (.agg (kindsA true)) (.int .i64 1)).run Tryz.prog w=.ok (.int .i64 (kindI true 1)) w:=by kernel_rfl
theorem ix_t2 (w:World):(Instr.index 204 (.agg (kindsA true)) (.int .i64 2)).run Tryz.prog w=.ok (.int .i64 (kindI true 2)) w:=by kernel_rfl
theorem ix_t3 (w:World):(Instr.index 204 (.agg (kindsA true)) (.int .i64 3)).run Tryz.prog w=.ok (.int .i64 (kindI true 3)) w:=by kernel_rfl
theorem ix_t4 (w:World):(Instr.index 204 (.agg (kindsA true)) (.int .i64 4)).run Tryz.prog w=.ok (.int .i64 (kindI true 4)) w:=by kernel_rfl
theorem ix_t5 (w:World):(Instr.index 204 (.agg (kindsA true)) (.int .i64 5)).run Tryz.prog w=.ok (.int .i64 (kindI true 5)) w:=by kernel_rfl
theorem ix_f0 (w:World):(Instr.index 204 (.agg (kindsA false)) (.int .i64 0)).run Tryz.prog w=.ok (.int .i64 (kindI false 0)) w:=by kernel_rfl
theorem ix_f1 (w:World):(Instr.index 204 (.agg (kindsA false)) (.int .i64 1)).run Tryz.prog w=.ok (.int .i64 (kindI false 1)) w:=by kernel_rfl
theorem ix_f2 (w:World):(Instr.index 204 (.agg (kindsA false)) (.int .i64 2)).run Tryz.prog w=.ok (.int .i64 (kindI false 2)) w:=by kernel_rfl
theorem ix_f3 (w:World):(Instr.index 204 (.agg (kindsA false)) (.int .i64 3)).run Tryz.prog w=.ok (.int .i64 (kindI false 3)) w:=by kernel_rfl
theorem ix_f4 (w:World):(Instr.index 204 (.agg (kindsA false)) (.int .i64 4)).run Tryz.prog w=.ok (.int .i64 (kindI false 4)) w:=by kernel_rfl
theorem ix_f5 (w:World):(Instr.index 204 (.agg (kindsA false)) (.int .i64 5)).run Tryz.prog w=.ok (.int .i64 (kindI false 5)) w:=by kernel_rfl
theorem ix_one (bw:Bool):∀ k:Nat,k<6->∀ w:World,(Instr.index 204 (.agg (kindsA bw)) (.int .i64 (k:Nat))).run Tryz.prog w=.ok (.int .i64 (kindI bw k)) w:=by
 intro k hk w;have:k=0\/k=1\/k=2\/k=3\/k=4\/k=5:=by omega
 cases bw
 ·rcases this with rfl|rfl|rfl|rfl|rfl|rfl
  ·exact ix_f0 w
  ·exact ix_f1 w
  ·exact ix_f2 w
  ·exact ix_f3 w
  ·exact ix_f4 w
  ·exact ix_f5 w
 ·rcases this with rfl|rfl|rfl|rfl|rfl|rfl
  ·exact ix_t0 w
  ·exact ix_t1 w
  ·exact ix_t2 w
  ·exact ix_t3 w
  ·exact ix_t4 w
  ·exact ix_t5 w
def HeldAt (b:Nat) (M:Array Value) (w:World):Prop:=b<w.heap.size/\w.rangeAt b 0 M.toList/\M.size=12
theorem HeldAt.gr {b:Nat} {M:Array Value} {w w':World} (h:HeldAt b M w) (g:Gr w w'):HeldAt b M w' :=
 ⟨Nat.lt_of_lt_of_le h.1 (Below.size g),fun j v hv=>(Below.cell g (p:=⟨b,0+j,none⟩) h.1).trans (h.2.1 j v hv),h.2.2⟩
def St (w1:World) (b:Nat) (M:Array Value) (w:World):Prop:=HeldAt b M w/\Gr w1 w
theorem St.gr {w1 w w':World} {b:Nat} {M:Array Value} (h:St w1 b M w) (g:Gr w w'):St w1 b M w':=⟨h.1.gr g,Gr.trans h.2 g⟩
theorem y_men {ops:Array Oper} {op:Oper} {a:Act} {M:Array Value} (hz:M.size=12) {S:World->Prop} (hw:Region.wanted op (yielded ops a.tmps)=true) (x:Operand) (ho:op.op=.load 197 x) (b:Nat) (hx:a.eval x=.pointer (some ⟨b,0,none⟩)) (hS:∀ w,S w->HeldAt b M w):YieldsIf Tryz.prog ops S op (.agg M) a:=by
 have:=yieldsIf_load_mid (P:=Tryz.prog) hw 197 x ho b 0 hx M.toList _ (fun w h=>(hS w h).2.1) Tryz.underlying197 rfl (by rw [info12];simp [hz])
 rwa [Array.toArray_toList] at this
theorem any_hit {f:Nat->Bool} {k:Nat} (hk:k<6) (h:f k=true):(List.range 6).any f=true:=List.any_eq_true.2 ⟨k,List.mem_range.2 hk,h⟩
theorem any_none {f:Nat->Bool} (h:∀ j,j<6->f j=false):(List.range 6).any f=false:=by
 rw [List.any_eq_false];intro j hj;rw [h j (List.mem_range.1 hj)];decide
theorem St.cell {w1 w:World} {b:Nat} {M:Array Value} {m:Nat->BitVec 64} (h:St w1 b M w) (hM:IsMen m M) (k:Nat) (hk:k<12):w.cell? ⟨b,k,none⟩=some (.int .u64 (U (m k))):=by
 have h3:=h.1.2.1 k _ (by rw [Array.getElem?_toList];exact hM.2 k hk)
 rwa [Nat.zero_add] at h3
theorem attacked_any (m:Nat->BitVec 64) (M:Array Value) (hM:IsMen m M) (sq:Int) (h0:0<=sq) (h1:sq<=63) (bw:Bool) (w:World):Calls Tryz.prog 127 #[.agg M,.int .i64 sq,.bool bw] w fun e w'=>e=.returned (.bool (attackedS m sq bw))/\Gr w w':=by
 have hM':=hide hM;have hz:=hide hM.1
 have hh1:HeldAt w.heap.size M (w.alloc (.cells M 197)):=⟨by rw [World.size_alloc];omega,(by
  intro j v hv;rw [World.cell?_alloc_at _ _ _ _ rfl,Nat.zero_add,<-Array.getElem?_toList];exact hv),hM.1⟩
 have hg1:Hid (Gr w (w.alloc (.cells M 197))):=hide ((Gr.refl w).alloc _ _);have hbe:=hide (begin_any bw);have hkd:=hide (kinds_any bw);have hix':=hide (ix_one bw);have hq:=bg_le bw;obtain ⟨f,hf⟩:∃ f,Hid (f=seesI m sq bw):=⟨_,hide rfl⟩;have hsee:Hid (∀ k,f k=(bits .and .u64 (reachI (kindI bw k) sq (U (takenB m))) (U (m (bg bw+k))) != 0)):=hide (by rw [unhide hf];intro k;rfl);have hgoal:attackedS m sq bw=(List.range 6).any f:=by rw [unhide hf];rfl
 rw [hgoal];clear hgoal hf;generalize bg bw=q at hbe hq hsee;generalize kindsA bw=KA at hkd hix';clear hM;go_enter Tryz.func127,Tryz.ntmps127;go_wp2;generalize w.alloc (.cells M 197)=w1 at hh1 hg1 ⊢;have hst:St w1 w.heap.size M w1.drew:=⟨hh1.gr (Gr.refl _).drew,(Gr.refl _).drew⟩;clear hh1;refine wp_region_held_drew (S:=St w1 w.heap.size M) (by kernel_rfl) hst (fun hHeld=>?_);refine C.ty 0 (.agg M) rfl (y_men (unhide hz) (by rfl) _ rfl w.heap.size rfl (fun _ h=>h.1)) hHeld ?_;refine C.ty 2 (.agg M) rfl (y_men (unhide hz) (by rfl) _ rfl w.heap.size rfl (fun _ h=>h.1)) hHeld ?_;refine C.rd 1 fun K hK=>?_
 go_simp;refine (mside_any m M (unhide hM') true _).mono ?_;rintro e wa ⟨rfl,hga⟩;refine hK.out _ _ (hHeld.gr hga) (fun hHeld=>?_);clear hK K hst hga;refine C.rd 3 fun K hK=>?_
 go_simp;refine (mside_any m M (unhide hM') false _).mono ?_;rintro e wb ⟨rfl,hgb⟩;refine hK.out _ _ (hHeld.gr hgb) (fun hHeld=>?_);clear hK K hgb;have hor:∀ x y:BitVec 64,bits .or .u64 (U x) (U y)=U (x ||| y):=or_U;refine C.ty 4 (.int .u64 (U (takenB m))) rfl (Or.inl ⟨by rfl,fun w _=>?_⟩) hHeld ?_
 ·go_simp;rfl
 refine C.rd 5 fun K hK=>?_
 go_simp;refine hK.out _ _ hHeld (fun hHeld=>?_);clear hK K hor;refine wpAnyH_done (by kernel_rfl) ?_ _;have hc:=hide (fun k hk=>St.cell hHeld (unhide hM') k hk);have hgb:Hid (Gr w wb):=hide (Gr.trans (unhide hg1) hHeld.2);clear hHeld hg1 hz hM';generalize U (takenB m)=tk at hsee ⊢;go_wp2_with (go_at_call 130;refine (unhide hkd _).mono ?_;rintro e wk ⟨rfl,hgk⟩);replace hc:Hid (∀ k,k<12->wk.cell? ⟨w.heap.size,k,none⟩=some (.int .u64 (U (m k)))):=hide fun k hk=>(Below.cell hgk (p:=⟨w.heap.size,k,none⟩) (World.block_lt_of_cell? wb _ (unhide hc k hk))).trans (unhide hc k hk)
 replace hgb:Hid (Gr w wk):=hide (Gr.trans (unhide hgb) hgk);clear hgk;go_loopg [18] 6 (fun g n wr=>∃ k:Nat,k+g=6/\n=.int .i64 k/\(∀ j,j<k->f j=false)/\wr=wk)
 case atStart=>exact ⟨0,rfl,rfl,fun j hj=>absurd hj (Nat.not_lt_zero j),rfl⟩
 case round =>
  obtain ⟨k,k1,rfl,k3,rfl⟩:=hrel;have k3':=hide k3;clear k3;by_cases hlt:k<6
  ·have hcell:=unhide hc (q+k) (by omega);have hix:=unhide hix' k hlt;have hki:=kind_ok bw k hlt;have hse:=unhide hsee k;generalize kindI bw k=kd at hix hki hse;have hk0:(0:Int)<=(k:Int):=by omega
   have hk6:(k:Int)<6:=by omega
   obtain ⟨hki0,hki1⟩:=hki;by_cases hbz:bits .and .u64 (reachI kd sq tk) (U (m (q+k)))=0
   ·have hfk:f k=false:=by rw [hse,hbz];rfl
    clear hse;have hfk':=hide hfk;clear hfk;go_wp2_with (first|(go_at_call 131;refine (unhide hbe _).mono ?_;rintro e w' ⟨rfl,rfl⟩)|(go_at_call 206;refine (reach9_any kd sq tk hki0 hki1 h0 h1 _).mono ?_;rintro e w' ⟨rfl,rfl⟩));go_roundg (gk-1)
    case measure=>omega
    case rel=>exact ⟨k+1,by omega,by go_num,(by
     intro j hj;by_cases hjk:j=k
     ·subst hjk;exact unhide hfk'
     ·exact unhide k3' j (by omega)),rfl⟩
   ·have hfk:f k=true:=by rw [hse];exact bne_iff_ne.2 hbz
    clear hse;have hfk':=hide hfk;clear hfk;go_wp2_with (first|(go_at_call 131;refine (unhide hbe _).mono ?_;rintro e w' ⟨rfl,rfl⟩)|(go_at_call 206;refine (reach9_any kd sq tk hki0 hki1 h0 h1 _).mono ?_;rintro e w' ⟨rfl,rfl⟩));go_ret;exact ⟨by rw [any_hit hlt (unhide hfk')];rfl,unhide hgb⟩
  ·have ek:k=6:=by omega
   subst ek;go_wp2;go_ret;exact ⟨by rw [any_none (unhide k3')];rfl,unhide hgb⟩
end Go.Proofs.YtnfakamfmkhlbabGreatDoor.C
namespace Go.Proofs.YtnfakamfmkhlbabGreatDoor.C
open Go.ChangeShapes Go.WideShapes Go.ChangeAt Go.RowKit
open Go.Proofs.YtnfakamfmkhlbabGreatDoor.P
attribute [local go_sem] setCell_drewN alloc_drewN
theorem ix64 (B:Array Value) (k:Nat) (hk:k<64) (v:Int) (hB:B[k]?=some (.int .u8 v)) (w:World):(Instr.index 67 (.agg B) (.int .i64 (k:Nat))).run Tryz.prog w=.ok (.int .u8 v) w:=by
 have h64:(0:Int)<=(k:Int)/\(k:Int)<64:=by omega
 have hu:=Tryz.underlying67;simp [Instr.index,run_underlying hu,asIntOf,h64,go_sem,hB];intro h;omega
def layS (z:Nat->UInt8):Nat->Nat->BitVec 64
 | 0,_=>0#64
 | k+1,p=>layS z k p ||| (if Lib.indexByte lettersL (z k)=(p:Int) then 1#64 <<< k else 0#64)
def okY (c:UInt8):Bool:=c==46||decide (0<=Lib.indexByte lettersL c)
def layOk (z:Nat->UInt8):Bool:=(List.range 64).all fun i=>okY (z i)
def Z12:Array Value:=#[.int .u64 0,.int .u64 0,.int .u64 0,.int .u64 0,.int .u64 0,.int .u64 0,.int .u64 0,.int .u64 0,.int .u64 0,.int .u64 0,.int .u64 0,.int .u64 0]
theorem layS_skip {z:Nat->UInt8} {k p:Nat} (h:Lib.indexByte lettersL (z k)≠(p:Int)):layS z (k+1) p=layS z k p:=by
 show layS z k p ||| (if _ then _ else _)=_
 rw [if_neg h];simp
theorem layS_hit {z:Nat->UInt8} {k p:Nat} (h:Lib.indexByte lettersL (z k)=(p:Int)):layS z (k+1) p=layS z k p ||| 1#64 <<< k:=by
 show layS z k p ||| (if _ then _ else _)=_
 rw [if_pos h]
theorem isMen_skip {z:Nat->UInt8} {k:Nat} {M:Array Value} (h:Lib.indexByte lettersL (z k)<0) (hM:IsMen (layS z k) M):IsMen (layS z (k+1)) M :=
 ⟨hM.1,fun i hi=>by rw [layS_skip (by omega)];exact hM.2 i hi⟩
theorem isMen_put {z:Nat->UInt8} {k p:Nat} {M:Array Value} (hp:p<12) (h:Lib.indexByte lettersL (z k)=(p:Int)) (hM:IsMen (layS z k) M):IsMen (layS z (k+1)) (M.setIfInBounds p (.int .u64 (U (layS z (k+1) p)))):=by
 refine ⟨by simpa using hM.1,fun i hi=>?_⟩;rw [Array.getElem?_setIfInBounds];by_cases e:p=i
 ·subst e;rw [if_pos rfl,if_pos (by rw [hM.1];exact hp)]
 ·rw [if_neg e,layS_skip (by omega)];exact hM.2 i hi
theorem ib_dot:Lib.indexByte lettersL 46=-1:=by decide +kernel
theorem ib_lt:∀ c:UInt8,Lib.indexByte lettersL c<12:=by
 intro c;have:∀ n,n<256->Lib.indexByte lettersL (UInt8.ofNat n)<12:=by decide +kernel
 have h:=this c.toNat c.toNat_lt;simpa using h
theorem isMen_0 (z:Nat->UInt8):IsMen (layS z 0) Z12:=by
 refine ⟨rfl,fun i hi=>?_⟩;have:i=0\/i=1\/i=2\/i=3\/i=4\/i=5\/i=6\/i=7\/i=8\/i=9\/i=10\/i=11:=by omega
 rcases this with rfl|rfl|rfl|rfl|rfl|rfl|rfl|rfl|rfl|rfl|rfl|rfl<;>rfl
theorem IsMen.ones {m:Nat->BitVec 64} {M:Array Value} (h:IsMen m M):M.all (·.oneCell')=true:=by
 rw [Array.all_eq_true];intro i hi;have h2:=h.2 i (by rw [<-h.1];exact hi);rw [Array.getElem?_eq_getElem hi] at h2;rw [Option.some.inj h2];simp [Value.oneCell']
theorem IsMen.info {m:Nat->BitVec 64} {M:Array Value} (h:IsMen m M):(Tryz.prog.info? 197).map (·.size)=some M.size:=by rw [info12,h.1]
def LayEnd (z:Nat->UInt8) (e:Ending):Prop:=∃ M,e=.returned (.tuple #[.agg M,.bool (layOk z)])/\(∃ m,IsMen m M)/\(layOk z=true->IsMen (layS z 64) M)
theorem layOk_bad {z:Nat->UInt8} {k:Nat} (hk:k<64) (h:okY (z k)=false):layOk z=false:=by
 unfold layOk;rw [List.all_eq_false];exact ⟨k,List.mem_range.2 hk,by rw [h];decide⟩
theorem layOk_all {z:Nat->UInt8} (h:∀ j,j<64->okY (z j)=true):layOk z=true:=by
 unfold layOk;rw [List.all_eq_true];intro j hj;exact h j (List.mem_range.1 hj)
theorem lay_any (z:Nat->UInt8) (B:Array Value) (hs:B.size=64) (hB:∀ i,i<64->B[i]?=some (.int .u8 ((z i).toNat:Int))) (w:World):Calls Tryz.prog 126 #[.agg B] w fun e w'=>LayEnd z e/\Gr w w':=by
 have hs':=hide hs;have hB':=hide hB;clear hs hB;have hh:Hid (∀ o1 o2 o3,_):=hide (heap3 w);go_enter Tryz.func126,Tryz.ntmps126;go_wp2_with (refine wpList_load_row rfl 67 _ rfl w.heap.size rfl 67 B (0,0) _ (unhide hh _ _ _).1 Tryz.underlying67 rfl (by rw [unhide hs'];exact info64) ?_);go_loopg [9] 64 (fun g n wr=>∃ k:Nat,k+g=64/\n=.int .i64 k/\(∀ j,j<k->okY (z j)=true)/\∃ (M:Array Value) (d:Nat),IsMen (layS z k) M/\wr=(((w.alloc (.cells B 67)).alloc (.cells Z12 197)).alloc (.cells M 197)).drewN d)
 case atStart=>exact ⟨0,rfl,rfl,fun j hj=>absurd hj (Nat.not_lt_zero j),Z12,0,isMen_0 z,rfl⟩
 case round =>
  obtain ⟨k,k1,rfl,k3,M,d,hM,rfl⟩:=hrel;have k3':=hide k3;have hM':=hide hM;have hMs:=hM.1;clear k3 hM;by_cases hlt:k<64
  ·have hix:=ix64 B k hlt _ (unhide hB' k hlt);have hk0:(0:Int)<=(k:Int):=by omega
   have hk6:(k:Int)<64:=by omega
   by_cases hdot:z k=46
   ·have hz46:((z k).toNat:Int)=46:=by rw [hdot];rfl
    rw [hz46] at hix;go_wp2;go_roundg (gk-1)
    case measure=>omega
    case rel=>exact ⟨k+1,by omega,by go_num,(by
     intro j hj;by_cases hjk:j=k
     ·subst hjk;unfold okY;rw [hdot];rfl
     ·exact unhide k3' j (by omega)),M,d,isMen_skip (by rw [hdot,ib_dot];decide) (unhide hM'),rfl⟩
   ·have hz46:(((z k).toNat:Int)==46)=false:=by
     rw [beq_eq_false_iff_ne];intro h;apply hdot;apply UInt8.toNat_inj.1;have:(z k).toNat=46:=by omega
     rw [this];rfl
    have hdot':=hide hdot;clear hdot;have hu:((z k).toNat:Int).toNat.toUInt8=z k:=by simp
    have hl0:Hid (okY (z k)=decide (0<=Lib.indexByte lettersL (z k))):=hide (by unfold okY;rw [beq_eq_false_iff_ne.2 (unhide hdot'),Bool.false_or]);have h12:=ib_lt (z k);have hie:Hid (Lib.indexByte lettersL (z k)=Lib.indexByte lettersL (z k)):=hide rfl;generalize hix2:Lib.indexByte lettersL (z k)=ix at hl0 h12;have hixe:=hide hix2;have hix':Lib.indexByte [80,78,66,82,81,75,112,110,98,114,113,107] (z k)=ix:=hix2;clear hix2 hie;by_cases hneg:ix<0
    ·have hbad:Hid (layOk z=false):=hide (layOk_bad hlt (by rw [unhide hl0];exact decide_eq_false (by omega)));go_wp2_with (first|(go_at_call 200;refine (Tryz.strings_IndexByte _ _ _).mono ?_;rintro e w' ⟨rfl,rfl⟩)|(refine wpList_store_row rfl 197 _ _ rfl (w.heap.size+1) Z12 rfl rfl 197 Z12 (unhide hh _ _ _).2.1 info12 rfl (isMen_0 z).ones ?_));exact bodyPost_ret (v:=.tuple #[.agg Z12,.bool false]) (results_cell_tmp Tryz.results126 _ _ (w.heap.size+1) 197 Z12 (0,0) _ rfl (setRow_heap _ _ _ _ _ _ (unhide hh _ _ _).2.1) Tryz.underlying197 rfl info12) rfl ⟨⟨Z12,by rw [unhide hbad],⟨_,isMen_0 z⟩,fun h=>by rw [unhide hbad] at h;cases h⟩,(Gr.drewN ((((Gr.refl w).alloc _ _).alloc _ _).alloc _ _) _).setRow _ (by omega) _⟩
    ·obtain ⟨p,rfl⟩:∃ p:Nat,ix=p:=⟨ix.toNat,by omega⟩;have hp:p<12:=by omega
     have hp0:(0:Int)<=(p:Int):=by omega
     have hp12:(p:Int)<12:=by omega
     have hcell:(((w.alloc (.cells B 67)).alloc (.cells Z12 197)).alloc (.cells M 197)).cell? ⟨w.heap.size+1+1,p,none⟩=some (.int .u64 (U (layS z k p))):=by
      rw [cell_of_row _ _ _ _ _ _ (unhide hh _ _ _).2.2];exact (unhide hM').2 p hp
     have hor:bits .or .u64 (U (layS z k p)) (oneI (k:Int))=U (layS z (k+1) p):=by rw [one_U k hlt,or_U,layS_hit (unhide hixe)]
     go_wp2_with (go_at_call 200;refine (Tryz.strings_IndexByte _ _ _).mono ?_;rintro e w' ⟨rfl,rfl⟩);have hone:=hide (one_any (k:Int) hk0 (by omega));go_region_with (go_at_call 204;refine (unhide hone _).mono ?_;rintro e w' ⟨rfl,rfl⟩)
     all_goals
      go_wp2;go_roundg (gk-1)
      case measure=>omega
      case rel=>exact ⟨k+1,by omega,by go_num,(by
       intro j hj;by_cases hjk:j=k
       ·subst hjk;rw [unhide hl0];exact decide_eq_true (by omega)
       ·exact unhide k3' j (by omega)),_,_,isMen_put hp (unhide hixe) (unhide hM'),rfl⟩
  ·have ek:k=64:=by omega
   subst ek;have hall:=hide (layOk_all (unhide k3'));go_wp2_with (first|(refine wpList_load_row rfl 197 _ rfl (w.heap.size+2) rfl 197 M (0,0) _ (unhide hh _ _ _).2.2 Tryz.underlying197 rfl (unhide hM').info ?_)|(refine wpList_store_row rfl 197 _ _ rfl (w.heap.size+1) M rfl rfl 197 Z12 (unhide hh _ _ _).2.1 (unhide hM').info hMs.symm (unhide hM').ones ?_));exact bodyPost_ret (v:=.tuple #[.agg M,.bool true]) (results_cell_tmp Tryz.results126 _ _ (w.heap.size+1) 197 M (0,0) _ rfl (setRow_heap _ _ _ _ _ _ (unhide hh _ _ _).2.1) Tryz.underlying197 rfl (unhide hM').info) rfl ⟨⟨M,by rw [unhide hall],⟨_,unhide hM'⟩,fun _=>unhide hM'⟩,(Gr.drewN ((((Gr.refl w).alloc _ _).alloc _ _).alloc _ _) _).setRow _ (by omega) _⟩
structure Row (z:Nat->UInt8) (wh:Bool) (f:Nat->Bool) (b h g:Int) (PA:Array Value):Prop where
 size:PA.size=72
 sq:∀ i,i<64->PA[i]?=some (.int .u8 ((z i).toNat:Int))
 wh:PA[64]?=some (.bool wh)
 c:∀ i,i<4->PA[65+i]?=some (.bool (f i))
 b:PA[69]?=some (.int .i64 b)
 h:PA[70]?=some (.int .i64 h)
 g:PA[71]?=some (.int .i64 g)
def clkOk (h g:Int):Bool:=decide (0<=h)&&decide (h<=65535)&&decide (1<=g)&&decide (g<=65535)
theorem clocks_any {z:Nat->UInt8} {wh:Bool} {f:Nat->Bool} {b h g:Int} {PA:Array Value} (r:Row z wh f b h g PA) (w:World):Calls Tryz.prog 145 #[.agg PA] w fun e w'=>e=.returned (.bool (clkOk h g))/\Gr w w':=by
 have hc70:(w.alloc (.cells PA 70)).cell? ⟨w.heap.size,70,none⟩=some (.int .i64 h):=by rw [World.cell?_alloc_at _ _ _ _ rfl];exact r.h
 have hc71:(w.alloc (.cells PA 70)).cell? ⟨w.heap.size,71,none⟩=some (.int .i64 g):=by rw [World.cell?_alloc_at _ _ _ _ rfl];exact r.g
 clear r;obtain ⟨v,hv⟩:∃ v,Hid (clkOk h g=v):=⟨_,hide rfl⟩;rw [unhide hv];by_cases h0:0<=h
 ·by_cases h1:h<=65535
  ·by_cases g0:1<=g
   ·by_cases g1:g<=65535
    ·have e:true=v:=by rw [<-unhide hv];simp [clkOk,h0,h1,g0,g1]
     subst e;clear hv;go_enter Tryz.func145,Tryz.ntmps145;go_wp2;go_ret;exact ⟨rfl,(Gr.refl _).alloc _ _⟩
    ·have e:false=v:=by rw [<-unhide hv];simp [clkOk,g1]
     subst e;clear hv;go_enter Tryz.func145,Tryz.ntmps145;go_wp2;go_ret;exact ⟨rfl,(Gr.refl _).alloc _ _⟩
   ·have e:false=v:=by rw [<-unhide hv];simp [clkOk,g0]
    subst e;clear hv;go_enter Tryz.func145,Tryz.ntmps145;go_wp2;go_ret;exact ⟨rfl,(Gr.refl _).alloc _ _⟩
  ·have e:false=v:=by rw [<-unhide hv];simp [clkOk,h1]
   subst e;clear hv;go_enter Tryz.func145,Tryz.ntmps145;go_wp2;go_ret;exact ⟨rfl,(Gr.refl _).alloc _ _⟩
 ·have e:false=v:=by rw [<-unhide hv];simp [clkOk,h0]
  subst e;clear hv;go_enter Tryz.func145,Tryz.ntmps145;go_wp2;go_ret;exact ⟨rfl,(Gr.refl _).alloc _ _⟩
def behOk (z:Nat->UInt8) (wh:Bool) (b:Int):Bool :=
 decide (b=-1)||(if wh then decide (40<=b)&&decide (b<48)&&decide (((z b.toNat).toNat:Int)=46)&&decide (((z (b+8).toNat).toNat:Int)=46)&&decide (((z (b-8).toNat).toNat:Int)=112)
  else decide (16<=b)&&decide (b<24)&&decide (((z b.toNat).toNat:Int)=46)&&decide (((z (b-8).toNat).toNat:Int)=46)&&decide (((z (b+8).toNat).toNat:Int)=80))
theorem behok_t {z:Nat->UInt8} {f:Nat->Bool} {b h g:Int} {PA:Array Value} (r:Row z true f b h g PA) (hb1:b≠-1) (w:World):Calls Tryz.prog 144 #[.agg PA] w fun e w'=>e=.returned (.bool (behOk z true b))/\Gr w w':=by
 have hc:∀ o,(w.alloc (.cells PA 70)).cell? ⟨w.heap.size,o,none⟩=PA[o]?:=fun o=>World.cell?_alloc_at _ _ _ _ rfl
 have hc64:(w.alloc (.cells PA 70)).cell? ⟨w.heap.size,64,none⟩=some (.bool true):=by rw [hc];exact r.wh
 have hc69:(w.alloc (.cells PA 70)).cell? ⟨w.heap.size,69,none⟩=some (.int .i64 b):=by rw [hc];exact r.b
 by_cases h0:40<=b
 ·by_cases h1:b<48
  ·obtain ⟨n,rfl⟩:∃ n:Nat,b=n:=⟨b.toNat,by omega⟩;have n0:40<=n:=by omega
   have hn8:((n:Int)+-8).toNat=n-8:=by omega
   have n1:n<48:=by omega
   have hx0:(w.alloc (.cells PA 70)).cell? ⟨w.heap.size,n,none⟩=some (.int .u8 ((z n).toNat:Int)):=by rw [hc];exact r.sq n (by omega)
   have hx1:(w.alloc (.cells PA 70)).cell? ⟨w.heap.size,n+8,none⟩=some (.int .u8 ((z (n+8)).toNat:Int)):=by rw [hc];exact r.sq _ (by omega)
   have hx2:(w.alloc (.cells PA 70)).cell? ⟨w.heap.size,n-8,none⟩=some (.int .u8 ((z (n-8)).toNat:Int)):=by rw [hc];exact r.sq _ (by omega)
   have hv0:behOk z true (n:Int)=(decide (((z n).toNat:Int)=46)&&decide (((z (n+8)).toNat:Int)=46)&&decide (((z (n-8)).toNat:Int)=112)):=by
    have e1:((n:Int)+8).toNat=n+8:=by omega
    have e2:((n:Int)-8).toNat=n-8:=by omega
    have d0:decide ((n:Int)=-1)=false:=decide_eq_false (by omega);have d1:decide ((40:Int)<=n)=true:=decide_eq_true (by omega);have d2:decide ((n:Int)<48)=true:=decide_eq_true (by omega);unfold behOk;rw [d0,d1,d2,e1,e2,Int.toNat_natCast];simp only [Bool.false_or,Bool.true_and,if_true,if_false,Bool.false_eq_true]
   rw [hv0];clear hv0 r hc;generalize ((z n).toNat:Int)=x0 at hx0 ⊢;generalize ((z (n+8)).toNat:Int)=x1 at hx1 ⊢;generalize ((z (n-8)).toNat:Int)=x2 at hx2 ⊢;obtain ⟨v,hv⟩:∃ v,Hid ((decide (x0=46)&&decide (x1=46)&&decide (x2=112))=v):=⟨_,hide rfl⟩;rw [unhide hv];by_cases k0:x0=46
   ·by_cases k1:x1=46
    ·by_cases k2:x2=112
     ·have e:true=v:=by rw [<-unhide hv];simp [k0,k1,k2]
      subst e;clear hv;go_enter Tryz.func144,Tryz.ntmps144;go_wp2;go_ret;exact ⟨rfl,(Gr.refl _).alloc _ _⟩
     ·have e:false=v:=by rw [<-unhide hv];simp [k2]
      subst e;clear hv;have k2b:=beq_eq_false_iff_ne.2 k2;go_enter Tryz.func144,Tryz.ntmps144;go_wp2;go_ret;exact ⟨rfl,(Gr.refl _).alloc _ _⟩
    ·have e:false=v:=by rw [<-unhide hv];simp [k1]
     subst e;clear hv;go_enter Tryz.func144,Tryz.ntmps144;go_wp2;go_ret;exact ⟨rfl,(Gr.refl _).alloc _ _⟩
   ·have e:false=v:=by rw [<-unhide hv];simp [k0]
    subst e;clear hv;go_enter Tryz.func144,Tryz.ntmps144;go_wp2;go_ret;exact ⟨rfl,(Gr.refl _).alloc _ _⟩
  ·obtain ⟨v,hv⟩:∃ v,Hid (behOk z true b=v):=⟨_,hide rfl⟩;rw [unhide hv];clear r hc;have e:false=v:=by rw [<-unhide hv];simp [behOk,hb1];omega
   subst e;clear hv;go_enter Tryz.func144,Tryz.ntmps144;go_wp2;go_ret;exact ⟨rfl,(Gr.refl _).alloc _ _⟩
 ·obtain ⟨v,hv⟩:∃ v,Hid (behOk z true b=v):=⟨_,hide rfl⟩;rw [unhide hv];clear r hc;have e:false=v:=by rw [<-unhide hv];simp [behOk,hb1];omega
  subst e;clear hv;go_enter Tryz.func144,Tryz.ntmps144;go_wp2;go_ret;exact ⟨rfl,(Gr.refl _).alloc _ _⟩
theorem behok_f {z:Nat->UInt8} {f:Nat->Bool} {b h g:Int} {PA:Array Value} (r:Row z false f b h g PA) (hb1:b≠-1) (w:World):Calls Tryz.prog 144 #[.agg PA] w fun e w'=>e=.returned (.bool (behOk z false b))/\Gr w w':=by
 have hc:∀ o,(w.alloc (.cells PA 70)).cell? ⟨w.heap.size,o,none⟩=PA[o]?:=fun o=>World.cell?_alloc_at _ _ _ _ rfl
 have hc64:(w.alloc (.cells PA 70)).cell? ⟨w.heap.size,64,none⟩=some (.bool false):=by rw [hc];exact r.wh
 have hc69:(w.alloc (.cells PA 70)).cell? ⟨w.heap.size,69,none⟩=some (.int .i64 b):=by rw [hc];exact r.b
 by_cases h0:16<=b
 ·by_cases h1:b<24
  ·obtain ⟨n,rfl⟩:∃ n:Nat,b=n:=⟨b.toNat,by omega⟩;have n0:16<=n:=by omega
   have n1:n<24:=by omega
   have hx0:(w.alloc (.cells PA 70)).cell? ⟨w.heap.size,n,none⟩=some (.int .u8 ((z n).toNat:Int)):=by rw [hc];exact r.sq n (by omega)
   have hx1:(w.alloc (.cells PA 70)).cell? ⟨w.heap.size,n-8,none⟩=some (.int .u8 ((z (n-8)).toNat:Int)):=by rw [hc];exact r.sq _ (by omega)
   have hx2:(w.alloc (.cells PA 70)).cell? ⟨w.heap.size,n+8,none⟩=some (.int .u8 ((z (n+8)).toNat:Int)):=by rw [hc];exact r.sq _ (by omega)
   have hv0:behOk z false (n:Int)=(decide (((z n).toNat:Int)=46)&&decide (((z (n-8)).toNat:Int)=46)&&decide (((z (n+8)).toNat:Int)=80)):=by
    have e1:((n:Int)+8).toNat=n+8:=by omega
    have e2:((n:Int)-8).toNat=n-8:=by omega
    have d0:decide ((n:Int)=-1)=false:=decide_eq_false (by omega);have d1:decide ((16:Int)<=n)=true:=decide_eq_true (by omega);have d2:decide ((n:Int)<24)=true:=decide_eq_true (by omega);unfold behOk;rw [d0,d1,d2,e1,e2,Int.toNat_natCast];simp only [Bool.false_or,Bool.true_and,if_true,if_false,Bool.false_eq_true]
   rw [hv0];clear hv0 r hc;generalize ((z n).toNat:Int)=x0 at hx0 ⊢;generalize ((z (n-8)).toNat:Int)=x1 at hx1 ⊢;generalize ((z (n+8)).toNat:Int)=x2 at hx2 ⊢;obtain ⟨v,hv⟩:∃ v,Hid ((decide (x0=46)&&decide (x1=46)&&decide (x2=80))=v):=⟨_,hide rfl⟩;rw [unhide hv];by_cases k0:x0=46
   ·by_cases k1:x1=46
    ·by_cases k2:x2=80
     ·have e:true=v:=by rw [<-unhide hv];simp [k0,k1,k2]
      subst e;clear hv;go_enter Tryz.func144,Tryz.ntmps144;go_wp2;go_ret;exact ⟨rfl,(Gr.refl _).alloc _ _⟩
     ·have e:false=v:=by rw [<-unhide hv];simp [k2]
      subst e;clear hv;have k2b:=beq_eq_false_iff_ne.2 k2;go_enter Tryz.func144,Tryz.ntmps144;go_wp2;go_ret;exact ⟨rfl,(Gr.refl _).alloc _ _⟩
    ·have e:false=v:=by rw [<-unhide hv];simp [k1]
     subst e;clear hv;go_enter Tryz.func144,Tryz.ntmps144;go_wp2;go_ret;exact ⟨rfl,(Gr.refl _).alloc _ _⟩
   ·have e:false=v:=by rw [<-unhide hv];simp [k0]
    subst e;clear hv;go_enter Tryz.func144,Tryz.ntmps144;go_wp2;go_ret;exact ⟨rfl,(Gr.refl _).alloc _ _⟩
  ·obtain ⟨v,hv⟩:∃ v,Hid (behOk z false b=v):=⟨_,hide rfl⟩;rw [unhide hv];clear r hc;have e:false=v:=by rw [<-unhide hv];simp [behOk,hb1];omega
   subst e;clear hv;go_enter Tryz.func144,Tryz.ntmps144;go_wp2;go_ret;exact ⟨rfl,(Gr.refl _).alloc _ _⟩
 ·obtain ⟨v,hv⟩:∃ v,Hid (behOk z false b=v):=⟨_,hide rfl⟩;rw [unhide hv];clear r hc;have e:false=v:=by rw [<-unhide hv];simp [behOk,hb1];omega
  subst e;clear hv;go_enter Tryz.func144,Tryz.ntmps144;go_wp2;go_ret;exact ⟨rfl,(Gr.refl _).alloc _ _⟩
theorem behok_m {z:Nat->UInt8} {wh:Bool} {f:Nat->Bool} {h g:Int} {PA:Array Value} (r:Row z wh f (-1) h g PA) (w:World):Calls Tryz.prog 144 #[.agg PA] w fun e w'=>e=.returned (.bool (behOk z wh (-1)))/\Gr w w':=by
 have hc69:(w.alloc (.cells PA 70)).cell? ⟨w.heap.size,69,none⟩=some (.int .i64 (-1)):=by rw [World.cell?_alloc_at _ _ _ _ rfl];exact r.b
 clear r;have e:behOk z wh (-1)=true:=by simp [behOk]
 rw [e];clear e;go_enter Tryz.func144,Tryz.ntmps144;go_wp2;go_ret;exact ⟨rfl,(Gr.refl _).alloc _ _⟩
theorem behok_any {z:Nat->UInt8} {wh:Bool} {f:Nat->Bool} {b h g:Int} {PA:Array Value} (r:Row z wh f b h g PA) (w:World):Calls Tryz.prog 144 #[.agg PA] w fun e w'=>e=.returned (.bool (behOk z wh b))/\Gr w w':=by
 by_cases hb:b=-1
 ·subst hb;exact behok_m r w
 ·cases wh
  ·exact behok_f r hb w
  ·exact behok_t r hb w
def TabIn (w:World):Prop:=BTab w/\2<w.heap.size
theorem TabIn.gr {w w':World} (h:TabIn w) (g:Gr w w'):TabIn w':=⟨h.1.below g.below h.2,Nat.lt_of_lt_of_le h.2 (Below.size g)⟩
def Sx (w1:World) (b:Nat) (M:Array Value) (w:World):Prop:=St w1 b M w/\TabIn w
theorem Sx.gr {w1 w w':World} {b:Nat} {M:Array Value} (h:Sx w1 b M w) (g:Gr w w'):Sx w1 b M w':=⟨h.1.gr g,h.2.gr g⟩
theorem Sx.held {w1 w:World} {b:Nat} {M:Array Value} (h:Sx w1 b M w):HeldAt b M w:=h.1.1
theorem Sx.tab {w1 w:World} {b:Nat} {M:Array Value} (h:Sx w1 b M w):TabIn w:=h.2
theorem Sx.grow {w1 w:World} {b:Nat} {M:Array Value} (h:Sx w1 b M w):Gr w1 w:=h.1.2
theorem wpList_load_men {ops:Array Oper} {rest:List Oper} {o:Oper} {a:Act} {w:World} {M:Array Value} {Q:Exit->Act->World->Prop} (hw:Region.wanted o (yielded ops a.tmps)=true) (x:Operand) (ho:o.op=.load 197 x) (b:Nat) (hx:a.eval x=.pointer (some ⟨b,0,none⟩)) (hh:HeldAt b M w)
  (h:wpList Tryz.prog ops Q rest (a.put o.dst (.agg M)) w):wpList Tryz.prog ops Q (o :: rest) a w :=
 wpList_step fun K hK=>by
  rw [if_pos hw];refine wp_load_mid (P:=Tryz.prog) 197 x ho b 0 hx M.toList _ hh.2.1 Tryz.underlying197 rfl (by rw [info12];simp [hh.2.2]) ?_;rw [Array.toArray_toList];exact hK _ _ h
theorem count_new (s:BitVec 64) (w:World) (hT:TabIn w) :
  Calls Tryz.prog 218 #[.func (.func 207) #[] #[.pointer (some ⟨w.heap.size,0,none⟩)]] (w.alloc (.cells #[.int .u64 (U s)] 195)) fun e w'=>e=.returned (.int .i64 (sqs s).length)/\Gr w w':=by
 have g:Gr w (w.alloc (.cells #[.int .u64 (U s)] 195)):=(Gr.refl w).alloc _ _;refine (count_any s w.heap.size _ (by rw [World.size_alloc];omega) (hT.gr g).2 (by rw [World.cell?_alloc_at _ _ _ _ rfl];rfl) (hT.gr g).1).mono ?_;rintro e w' ⟨h1,h2⟩;exact ⟨h1,Gr.trans g h2⟩
def sideOk (m:Nat->BitVec 64) (b:Bool):Bool:=decide (((sqs (m (bg b+5))).length:Int)=1)&&decide (((sqs (sideB m b)).length:Int)<=16)&&decide (bits .and .u64 (U (m (bg b))) 18374686479671623935=0)
theorem sidecan_any (m:Nat->BitVec 64) (M:Array Value) (hM:IsMen m M) (b:Bool) (w:World) (hT:TabIn w):Calls Tryz.prog 142 #[.agg M,.bool b] w fun e w'=>e=.returned (.bool (sideOk m b))/\Gr w w':=by
 have hM':=hide hM;have hg1:Hid (Gr w (w.alloc (.cells M 197))):=hide ((Gr.refl w).alloc _ _)
 have hst:Sx w w.heap.size M (w.alloc (.cells M 197)):=⟨⟨⟨by rw [World.size_alloc];omega,(by
  intro j v hv;rw [World.cell?_alloc_at _ _ _ _ rfl,Nat.zero_add,<-Array.getElem?_toList];exact hv),hM.1⟩,unhide hg1⟩,hT.gr (unhide hg1)⟩
 clear hM hT;obtain ⟨v,hv⟩:∃ v,Hid (sideOk m b=v):=⟨_,hide rfl⟩;rw [unhide hv];by_cases h0:((sqs (m (bg b+5))).length:Int)=1
 ·by_cases h1:((sqs (sideB m b)).length:Int)<=16
  ·by_cases h2:bits .and .u64 (U (m (bg b))) 18374686479671623935=0
   ·have e:true=v:=by rw [<-unhide hv];simp only [sideOk,decide_eq_true h0,decide_eq_true h1,decide_eq_true h2];rfl
    subst e;clear hv;go_enter Tryz.func142,Tryz.ntmps142
    go_wp2_with (first
     | (refine wpList_load_men (by rfl) _ rfl w.heap.size rfl (Sx.held (w1:=w) (by assumption)) ?_)
     | (go_at_call 213;refine (kings_any m M (unhide hM') _ _).mono ?_;rintro e w' ⟨rfl,hg⟩;have hst:=Sx.gr (by assumption) hg)
     | (go_at_call 205;refine (mside_any m M (unhide hM') _ _).mono ?_;rintro e w' ⟨rfl,hg⟩;have hst:=Sx.gr (by assumption) hg)
     | (go_at_call 219;refine (pawns_any m M (unhide hM') _ _).mono ?_;rintro e w' ⟨rfl,hg⟩;have hst:=Sx.gr (by assumption) hg)
     | (go_at_call 132;refine (squares_any _ _).mono ?_;rintro e w' ⟨rfl,rfl⟩)
     | (go_at_call 218;refine (count_new _ _ (Sx.tab (w1:=w) (b:=w.heap.size) (M:=M) (by assumption))).mono ?_;rintro e w' ⟨rfl,hg⟩;have hst:=Sx.gr (by assumption) hg))
    go_ret;exact ⟨rfl,hst.grow⟩
   ·have e:false=v:=by rw [<-unhide hv];simp only [sideOk,decide_eq_false h2,Bool.and_false]
    subst e;clear hv;have h2b:=beq_eq_false_iff_ne.2 h2;go_enter Tryz.func142,Tryz.ntmps142
    go_wp2_with (first
     | (refine wpList_load_men (by rfl) _ rfl w.heap.size rfl (Sx.held (w1:=w) (by assumption)) ?_)
     | (go_at_call 213;refine (kings_any m M (unhide hM') _ _).mono ?_;rintro e w' ⟨rfl,hg⟩;have hst:=Sx.gr (by assumption) hg)
     | (go_at_call 205;refine (mside_any m M (unhide hM') _ _).mono ?_;rintro e w' ⟨rfl,hg⟩;have hst:=Sx.gr (by assumption) hg)
     | (go_at_call 219;refine (pawns_any m M (unhide hM') _ _).mono ?_;rintro e w' ⟨rfl,hg⟩;have hst:=Sx.gr (by assumption) hg)
     | (go_at_call 132;refine (squares_any _ _).mono ?_;rintro e w' ⟨rfl,rfl⟩)
     | (go_at_call 218;refine (count_new _ _ (Sx.tab (w1:=w) (b:=w.heap.size) (M:=M) (by assumption))).mono ?_;rintro e w' ⟨rfl,hg⟩;have hst:=Sx.gr (by assumption) hg))
    go_ret;exact ⟨rfl,hst.grow⟩
  ·have e:false=v:=by rw [<-unhide hv];simp only [sideOk,decide_eq_false h1,Bool.and_false,Bool.false_and]
   subst e;clear hv;go_enter Tryz.func142,Tryz.ntmps142
   go_wp2_with (first
    | (refine wpList_load_men (by rfl) _ rfl w.heap.size rfl (Sx.held (w1:=w) (by assumption)) ?_)
    | (go_at_call 213;refine (kings_any m M (unhide hM') _ _).mono ?_;rintro e w' ⟨rfl,hg⟩;have hst:=Sx.gr (by assumption) hg)
    | (go_at_call 205;refine (mside_any m M (unhide hM') _ _).mono ?_;rintro e w' ⟨rfl,hg⟩;have hst:=Sx.gr (by assumption) hg)
    | (go_at_call 219;refine (pawns_any m M (unhide hM') _ _).mono ?_;rintro e w' ⟨rfl,hg⟩;have hst:=Sx.gr (by assumption) hg)
    | (go_at_call 132;refine (squares_any _ _).mono ?_;rintro e w' ⟨rfl,rfl⟩)
    | (go_at_call 218;refine (count_new _ _ (Sx.tab (w1:=w) (b:=w.heap.size) (M:=M) (by assumption))).mono ?_;rintro e w' ⟨rfl,hg⟩;have hst:=Sx.gr (by assumption) hg))
   go_ret;exact ⟨rfl,hst.grow⟩
 ·have e:false=v:=by rw [<-unhide hv];simp only [sideOk,decide_eq_false h0,Bool.false_and]
  subst e;clear hv;have h0b:=beq_eq_false_iff_ne.2 h0;go_enter Tryz.func142,Tryz.ntmps142
  go_wp2_with (first
   | (refine wpList_load_men (by rfl) _ rfl w.heap.size rfl (Sx.held (w1:=w) (by assumption)) ?_)
   | (go_at_call 213;refine (kings_any m M (unhide hM') _ _).mono ?_;rintro e w' ⟨rfl,hg⟩;have hst:=Sx.gr (by assumption) hg)
   | (go_at_call 205;refine (mside_any m M (unhide hM') _ _).mono ?_;rintro e w' ⟨rfl,hg⟩;have hst:=Sx.gr (by assumption) hg)
   | (go_at_call 219;refine (pawns_any m M (unhide hM') _ _).mono ?_;rintro e w' ⟨rfl,hg⟩;have hst:=Sx.gr (by assumption) hg)
   | (go_at_call 132;refine (squares_any _ _).mono ?_;rintro e w' ⟨rfl,rfl⟩)
   | (go_at_call 218;refine (count_new _ _ (Sx.tab (w1:=w) (b:=w.heap.size) (M:=M) (by assumption))).mono ?_;rintro e w' ⟨rfl,hg⟩;have hst:=Sx.gr (by assumption) hg))
  go_ret;exact ⟨rfl,hst.grow⟩
end Go.Proofs.YtnfakamfmkhlbabGreatDoor.C
