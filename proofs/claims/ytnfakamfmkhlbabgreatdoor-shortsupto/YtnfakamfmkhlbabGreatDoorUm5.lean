import Derived.Test.YtnfakamfmkhlbabGreatDoorUm4
import Derived.Deep.RegionHeld3
import Derived.Deep.MidRow
import Derived.Test.YtnfakamfmkhlbabGreatDoorUm3
import Derived.Test.YtnfakamfmkhlbabGreatDoorKz2
set_option maxRecDepth 100000
set_option maxHeartbeats 4000000
set_option linter.unusedSimpArgs false
namespace Go.Proofs.YtnfakamfmkhlbabGreatDoor.C
open Go.ChangeShapes Go.WideShapes Go.ChangeAt Go.RowKit Go.Proofs.YtnfakamfmkhlbabGreatDoor.P
def jS(m:Nat->BitVec 64)(M:Array Value):Prop:=M.size=12/\∀i,i<12->M[i]?=some (.int .u64 (U (m i)))
def bg(b:Bool):Nat:=if b then 0 else 6
theorem FJ(b:Bool)(w:World):Calls Tryz.prog 131 #[.bool b] w fun e w'=>e=.returned (.int .i64 (bg b))/\w'=w:=by
 cases b
 ·go_enter Tryz.func131,Tryz.ntmps131;go_wp2;go_ret;exact⟨rfl,rfl⟩
 ·go_enter Tryz.func131,Tryz.ntmps131;go_wp2;go_ret;exact⟨rfl,rfl⟩
theorem io(b:Bool):bg b<=6:=by cases b<;>decide
theorem FL(m:Nat->BitVec 64)(M:Array Value)(hM:jS m M)(b:Bool)(w:World):Calls Tryz.prog 213 #[.agg M,.bool b] w fun e w'=>e=.returned (.int .u64 (U (m (bg b+5))))/\Gr w w':=by
 have hb:=io b;have hc:(w.alloc (.cells M 197)).cell? ⟨w.heap.size,bg b+5,none⟩=some (.int .u64 (U (m (bg b+5)))):=by rw[World.cell?_alloc_at _ _ _ _ rfl];exact hM.2 _ (by omega)
 clear hM;have hbe:=qC (FJ b);generalize bg b=k at hb hc hbe ⊢;go_enter Tryz.func213,Tryz.ntmps213;go_wp2_with(go_at_call 131;refine(qa hbe _).mono ?_;rintro e w' ⟨rfl,rfl⟩);go_ret;exact⟨rfl,(Gr.refl _).alloc _ _⟩
theorem qxm(m:Nat->BitVec 64)(M:Array Value)(hM:jS m M)(b:Bool)(w:World):Calls Tryz.prog 219 #[.agg M,.bool b] w fun e w'=>e=.returned (.int .u64 (U (m (bg b))))/\Gr w w':=by
 have hb:=io b;have hc:(w.alloc (.cells M 197)).cell? ⟨w.heap.size,bg b,none⟩=some (.int .u64 (U (m (bg b)))):=by rw[World.cell?_alloc_at _ _ _ _ rfl];exact hM.2 _ (by omega)
 clear hM;have hbe:=qC (FJ b);generalize bg b=k at hb hc hbe ⊢;go_enter Tryz.func219,Tryz.ntmps219;go_wp2_with(go_at_call 131;refine(qa hbe _).mono ?_;rintro e w' ⟨rfl,rfl⟩);go_ret;exact⟨rfl,(Gr.refl _).alloc _ _⟩
def wZ(m:Nat->BitVec 64)(base:Nat):Nat->BitVec 64
 | 0=>0#64
 | k+1=>wZ m base k ||| m (base+k)
def xZ(m:Nat->BitVec 64)(b:Bool):BitVec 64:=wZ m (bg b) 6
theorem jp(m:Nat->BitVec 64)(M:Array Value)(hM:jS m M)(b:Bool)(w:World):Calls Tryz.prog 205 #[.agg M,.bool b] w fun e w'=>e=.returned (.int .u64 (U (xZ m b)))/\Gr w w':=by
 have hb:=io b;unfold xZ;have hbe:=qC (FJ b);generalize bg b=q at hb hbe ⊢;have hM':=qC hM;clear hM;have hU0:U 0#64=0:=by decide +kernel
 go_enter Tryz.func205,Tryz.ntmps205;go_wp2;go_loopg [5,7] 6 (fun g a n wr=>∃k:Nat,k+g=6/\n=.int .i64 k/\a=.int .u64 (U (wZ m q k))/\wr=w.alloc (.cells M 197))
 case atStart=>exact⟨0,rfl,rfl,by rw[show wZ m q 0=0#64 from rfl,hU0],rfl⟩
 case round =>
  obtain⟨k,k1,rfl,rfl,rfl⟩:=hrel;by_cases hlt:k<6
  ·have hc:(w.alloc (.cells M 197)).cell? ⟨w.heap.size,q+k,none⟩=some (.int .u64 (U (m (q+k)))):=by rw[World.cell?_alloc_at _ _ _ _ rfl];exact(qa hM').2 _ (by omega)
   have hor:bits .or .u64 (U (wZ m q k)) (U (m (q+k)))=U (wZ m q (k+1)):=uQ _ _;go_wp2_with(go_at_call 131;refine(qa hbe _).mono ?_;rintro e w' ⟨rfl,rfl⟩);go_roundg (gk-1)
   case measure=>omega
   case rel=>exact⟨k+1,by omega,by go_num,by first|rfl|rw[hor],rfl⟩
  ·have ek:k=6:=by omega
   subst ek;go_wp2;go_ret;exact⟨rfl,(Gr.refl _).alloc _ _⟩
def j0(m:Nat->BitVec 64):BitVec 64:=xZ m true ||| xZ m false
def vA(bw:Bool)(i:Nat):Int:=if i=0 then(if bw then 2 else 1)else(i:Int)+2
def uk(m:Nat->BitVec 64)(sq:Int)(bw:Bool)(i:Nat):Bool:=bits .and .u64 (yL (vA bw i) sq (U (j0 m))) (U (m (bg bw+i))) != 0
def xV(m:Nat->BitVec 64)(sq:Int)(bw:Bool):Bool:=(List.range 6).any (uk m sq bw)
theorem uF:(Tryz.prog.info? 197).map (·.size)=some 12:=by kernel_rfl
theorem BX(bw:Bool)(k:Nat)(h:k<6):1<=vA bw k/\vA bw k<=7:=by
 unfold vA;by_cases hk:k=0
 ·rw[qI hk];cases bw<;>decide
 ·rw[qF hk];omega
def zR(bw:Bool):Array Value:=#[.int .i64 (vA bw 0),.int .i64 3,.int .i64 4,.int .i64 5,.int .i64 6,.int .i64 7]
theorem DI:(Tryz.prog.info? 204).map (·.size)=some 6:=by kernel_rfl
theorem gQ(bw:Bool)(w:World):Calls Tryz.prog 130 #[.bool (!bw)] w fun e w'=>e=.returned (.agg (zR bw))/\Gr w w':=by
 cases bw
 ·go_enter Tryz.func130,Tryz.ntmps130;go_wp2;exact bodyPost_ret (v:=.agg (zR false)) (results_cell_row Tryz.results130 _ _ w.heap.size 204 _ (0,0) _ rfl (heap_alloc_new _ _) Tryz.underlying204 rfl DI) rfl ⟨rfl,(Gr.refl w).alloc _ _⟩
 ·go_enter Tryz.func130,Tryz.ntmps130;go_wp2;exact bodyPost_ret (v:=.agg (zR true)) (results_cell_row Tryz.results130 _ _ w.heap.size 204 _ (0,0) _ rfl (heap_alloc_new _ _) Tryz.underlying204 rfl DI) rfl ⟨rfl,(Gr.refl w).alloc _ _⟩
theorem Gt(w:World):(Instr.index 204 (.agg (zR true)) (.int .i64 0)).run Tryz.prog w=.ok (.int .i64 (vA true 0)) w:=by kernel_rfl
theorem Gs(w:World):(Instr.index 204 (.agg (zR true)) (.int .i64 1)).run Tryz.prog w=.ok (.int .i64 (vA true 1)) w:=by kernel_rfl
theorem Gq(w:World):(Instr.index 204 (.agg (zR true)) (.int .i64 2)).run Tryz.prog w=.ok (.int .i64 (vA true 2)) w:=by kernel_rfl
theorem Gp(w:World):(Instr.index 204 (.agg (zR true)) (.int .i64 3)).run Tryz.prog w=.ok (.int .i64 (vA true 3)) w:=by kernel_rfl
theorem Gn(w:World):(Instr.index 204 (.agg (zR true)) (.int .i64 4)).run Tryz.prog w=.ok (.int .i64 (vA true 4)) w:=by kernel_rfl
theorem Gm(w:World):(Instr.index 204 (.agg (zR true)) (.int .i64 5)).run Tryz.prog w=.ok (.int .i64 (vA true 5)) w:=by kernel_rfl
theorem Gz(w:World):(Instr.index 204 (.agg (zR false)) (.int .i64 0)).run Tryz.prog w=.ok (.int .i64 (vA false 0)) w:=by kernel_rfl
theorem Gy(w:World):(Instr.index 204 (.agg (zR false)) (.int .i64 1)).run Tryz.prog w=.ok (.int .i64 (vA false 1)) w:=by kernel_rfl
theorem Gx(w:World):(Instr.index 204 (.agg (zR false)) (.int .i64 2)).run Tryz.prog w=.ok (.int .i64 (vA false 2)) w:=by kernel_rfl
theorem Gw(w:World):(Instr.index 204 (.agg (zR false)) (.int .i64 3)).run Tryz.prog w=.ok (.int .i64 (vA false 3)) w:=by kernel_rfl
theorem Gv(w:World):(Instr.index 204 (.agg (zR false)) (.int .i64 4)).run Tryz.prog w=.ok (.int .i64 (vA false 4)) w:=by kernel_rfl
theorem Gu(w:World):(Instr.index 204 (.agg (zR false)) (.int .i64 5)).run Tryz.prog w=.ok (.int .i64 (vA false 5)) w:=by kernel_rfl
theorem sn(bw:Bool):∀k:Nat,k<6->∀w:World,(Instr.index 204 (.agg (zR bw)) (.int .i64 (k:Nat))).run Tryz.prog w=.ok (.int .i64 (vA bw k)) w:=by
 intro k hk w;have:k=0\/k=1\/k=2\/k=3\/k=4\/k=5:=by omega
 cases bw
 ·rcases this with rfl|rfl|rfl|rfl|rfl|rfl
  ·exact Gz w
  ·exact Gy w
  ·exact Gx w
  ·exact Gw w
  ·exact Gv w
  ·exact Gu w
 ·rcases this with rfl|rfl|rfl|rfl|rfl|rfl
  ·exact Gt w
  ·exact Gs w
  ·exact Gq w
  ·exact Gp w
  ·exact Gn w
  ·exact Gm w
def vh(b:Nat)(M:Array Value)(w:World):Prop:=b<w.heap.size/\w.rangeAt b 0 M.toList/\M.size=12
theorem vh.gr{b:Nat}{M:Array Value}{w w':World}(h:vh b M w)(g:Gr w w'):vh b M w' :=
 ⟨qN h.1 (Below.size g),fun j v hv=>(Below.cell g (p:=⟨b,0+j,none⟩) h.1).trans (h.2.1 j v hv),h.2.2⟩
def St(w1:World)(b:Nat)(M:Array Value)(w:World):Prop:=vh b M w/\Gr w1 w
theorem St.gr{w1 w w':World}{b:Nat}{M:Array Value}(h:St w1 b M w)(g:Gr w w'):St w1 b M w':=⟨h.1.gr g,Gr.trans h.2 g⟩
theorem pd{ops:Array Oper}{op:Oper}{a:Act}{M:Array Value}(hz:M.size=12){S:World->Prop}(hw:Region.wanted op (yielded ops a.tmps)=true)(x:Operand)(ho:op.op=.load 197 x)(b:Nat)(hx:a.eval x=.pointer (some ⟨b,0,none⟩))(hS:∀w,S w->vh b M w):YieldsIf Tryz.prog ops S op (.agg M) a:=by
 have:=yieldsIf_load_mid (P:=Tryz.prog) hw 197 x ho b 0 hx M.toList _ (fun w h=>(hS w h).2.1) Tryz.underlying197 rfl (by rw[uF];simp[hz])
 rwa[Array.toArray_toList]at this
theorem Co{f:Nat->Bool}{k:Nat}(hk:k<6)(h:f k=true):(List.range 6).any f=true:=qY.2 ⟨k,qK.2 hk,h⟩
theorem wP{f:Nat->Bool}(h:∀j,j<6->f j=false):(List.range 6).any f=false:=by
 rw[List.any_eq_false];intro j hj;rw[h j (qK.1 hj)];decide
theorem St.cell{w1 w:World}{b:Nat}{M:Array Value}{m:Nat->BitVec 64}(h:St w1 b M w)(hM:jS m M)(k:Nat)(hk:k<12):w.cell? ⟨b,k,none⟩=some (.int .u64 (U (m k))):=by
 have h3:=h.1.2.1 k _ (by rw[qO];exact hM.2 k hk)
 rwa[Nat.zero_add]at h3
theorem qq0(m:Nat->BitVec 64)(M:Array Value)(hM:jS m M)(sq:Int)(h0:0<=sq)(h1:sq<=63)(bw:Bool)(w:World):Calls Tryz.prog 127 #[.agg M,.int .i64 sq,.bool bw] w fun e w'=>e=.returned (.bool (xV m sq bw))/\Gr w w':=by
 have hM':=qC hM;have hz:=qC hM.1
 have hh1:vh w.heap.size M (w.alloc (.cells M 197)):=⟨by rw[World.size_alloc];omega,(by
  intro j v hv;rw[World.cell?_alloc_at _ _ _ _ rfl,Nat.zero_add,<-qO];exact hv),hM.1⟩
 have hg1:Hid (Gr w (w.alloc (.cells M 197))):=qC ((Gr.refl w).alloc _ _);have hbe:=qC (FJ bw);have hkd:=qC (gQ bw);have hix':=qC (sn bw);have hq:=io bw;obtain⟨f,hf⟩:∃f,Hid (f=uk m sq bw):=⟨_,qC rfl⟩;have hsee:Hid (∀k,f k=(bits .and .u64 (yL (vA bw k) sq (U (j0 m))) (U (m (bg bw+k))) != 0)):=qC (by rw[qa hf];intro k;rfl);have hgoal:xV m sq bw=(List.range 6).any f:=by rw[qa hf];rfl
 rw[hgoal];clear hgoal hf;generalize bg bw=q at hbe hq hsee;generalize zR bw=KA at hkd hix';clear hM;go_enter Tryz.func127,Tryz.ntmps127;go_wp2;generalize w.alloc (.cells M 197)=w1 at hh1 hg1 ⊢;have hst:St w1 w.heap.size M w1.drew:=⟨hh1.gr (Gr.refl _).drew,(Gr.refl _).drew⟩;clear hh1;refine wp_region_held_drew (S:=St w1 w.heap.size M) (by kernel_rfl) hst (fun qD=>?_);refine C.ty 0 (.agg M) rfl (pd (qa hz) (by rfl) _ rfl w.heap.size rfl (fun _ h=>h.1)) qD ?_;refine C.ty 2 (.agg M) rfl (pd (qa hz) (by rfl) _ rfl w.heap.size rfl (fun _ h=>h.1)) qD ?_;refine C.rd 1 fun K hK=>?_
 go_simp;refine(jp m M (qa hM') true _).mono ?_;rintro e wa ⟨rfl,hga⟩;refine hK.out _ _ (qD.gr hga) (fun qD=>?_);clear hK K hst hga;refine C.rd 3 fun K hK=>?_
 go_simp;refine(jp m M (qa hM') false _).mono ?_;rintro e wb ⟨rfl,hgb⟩;refine hK.out _ _ (qD.gr hgb) (fun qD=>?_);clear hK K hgb;have hor:∀x y:BitVec 64,bits .or .u64 (U x) (U y)=U (x ||| y):=uQ;refine C.ty 4 (.int .u64 (U (j0 m))) rfl (Or.inl ⟨by rfl,fun w _=>?_⟩) qD ?_
 ·go_simp;rfl
 refine C.rd 5 fun K hK=>?_
 go_simp;refine hK.out _ _ qD (fun qD=>?_);clear hK K hor;refine wpAnyH_done (by kernel_rfl) ?_ _;have hc:=qC (fun k hk=>St.cell qD (qa hM') k hk);have hgb:Hid (Gr w wb):=qC (Gr.trans (qa hg1) qD.2);clear qD hg1 hz hM';generalize U (j0 m)=tk at hsee ⊢;go_wp2_with(go_at_call 130;refine(qa hkd _).mono ?_;rintro e wk ⟨rfl,hgk⟩);replace hc:Hid (∀k,k<12->wk.cell? ⟨w.heap.size,k,none⟩=some (.int .u64 (U (m k)))):=qC fun k hk=>(Below.cell hgk (p:=⟨w.heap.size,k,none⟩) (World.block_lt_of_cell? wb _ (qa hc k hk))).trans (qa hc k hk)
 replace hgb:Hid (Gr w wk):=qC (Gr.trans (qa hgb) hgk);clear hgk;go_loopg [18] 6 (fun g n wr=>∃k:Nat,k+g=6/\n=.int .i64 k/\(∀j,j<k->f j=false)/\wr=wk)
 case atStart=>exact⟨0,rfl,rfl,fun j hj=>absurd hj (Nat.not_lt_zero j),rfl⟩
 case round =>
  obtain⟨k,k1,rfl,k3,rfl⟩:=hrel;have k3':=qC k3;clear k3;by_cases hlt:k<6
  ·have hcell:=qa hc (q+k) (by omega);have hix:=qa hix' k hlt;have hki:=BX bw k hlt;have hse:=qa hsee k;generalize vA bw k=kd at hix hki hse;have hk0:(0:Int)<=(k:Int):=by omega
   have hk6:(k:Int)<6:=by omega
   obtain⟨hki0,hki1⟩:=hki;by_cases hbz:bits .and .u64 (yL kd sq tk) (U (m (q+k)))=0
   ·have hfk:f k=false:=by rw[hse,hbz];rfl
    clear hse;have hfk':=qC hfk;clear hfk;go_wp2_with(first|(go_at_call 131;refine(qa hbe _).mono ?_;rintro e w' ⟨rfl,rfl⟩)|(go_at_call 206;refine(qjg kd sq tk hki0 hki1 h0 h1 _).mono ?_;rintro e w' ⟨rfl,rfl⟩));go_roundg (gk-1)
    case measure=>omega
    case rel=>exact⟨k+1,by omega,by go_num,(by
     intro j hj;by_cases hjk:j=k
     ·subst hjk;exact qa hfk'
     ·exact qa k3' j (by omega)),rfl⟩
   ·have hfk:f k=true:=by rw[hse];exact qU.2 hbz
    clear hse;have hfk':=qC hfk;clear hfk;go_wp2_with(first|(go_at_call 131;refine(qa hbe _).mono ?_;rintro e w' ⟨rfl,rfl⟩)|(go_at_call 206;refine(qjg kd sq tk hki0 hki1 h0 h1 _).mono ?_;rintro e w' ⟨rfl,rfl⟩));go_ret;exact⟨by rw[Co hlt (qa hfk')];rfl,qa hgb⟩
  ·have ek:k=6:=by omega
   subst ek;go_wp2;go_ret;exact⟨by rw[wP (qa k3')];rfl,qa hgb⟩
section
attribute [local go_sem] qd qe
theorem G1(B:Array Value)(k:Nat)(hk:k<64)(v:Int)(hB:B[k]?=some (.int .u8 v))(w:World):(Instr.index 67 (.agg B) (.int .i64 (k:Nat))).run Tryz.prog w=.ok (.int .u8 v) w:=by
 have h64:(0:Int)<=(k:Int)/\(k:Int)<64:=by omega
 have hu:=Tryz.underlying67;simp[Instr.index,run_underlying hu,asIntOf,h64,go_sem,hB];intro h;omega
def xD(z:Nat->UInt8):Nat->Nat->BitVec 64
 | 0,_=>0#64
 | k+1,p=>xD z k p ||| (if Lib.indexByte xU (z k)=(p:Int)then 1#64 <<< k else 0#64)
def ew(c:UInt8):Bool:=c==46||decide (0<=Lib.indexByte xU c)
def xO(z:Nat->UInt8):Bool:=(List.range 64).all fun i=>ew (z i)
def yI:Array Value:=#[.int .u64 0,.int .u64 0,.int .u64 0,.int .u64 0,.int .u64 0,.int .u64 0,.int .u64 0,.int .u64 0,.int .u64 0,.int .u64 0,.int .u64 0,.int .u64 0]
theorem gM{z:Nat->UInt8}{k p:Nat}(h:Lib.indexByte xU (z k)≠(p:Int)):xD z (k+1) p=xD z k p:=by
 show xD z k p ||| (if _ then _ else _)=_
 rw[qF h];simp
theorem sc{z:Nat->UInt8}{k p:Nat}(h:Lib.indexByte xU (z k)=(p:Int)):xD z (k+1) p=xD z k p ||| 1#64 <<< k:=by
 show xD z k p ||| (if _ then _ else _)=_
 rw[qI h]
theorem fM{z:Nat->UInt8}{k:Nat}{M:Array Value}(h:Lib.indexByte xU (z k)<0)(hM:jS (xD z k) M):jS (xD z (k+1)) M :=
 ⟨hM.1,fun i hi=>by rw[gM (by omega)];exact hM.2 i hi⟩
theorem mw{z:Nat->UInt8}{k p:Nat}{M:Array Value}(hp:p<12)(h:Lib.indexByte xU (z k)=(p:Int))(hM:jS (xD z k) M):jS (xD z (k+1)) (M.setIfInBounds p (.int .u64 (U (xD z (k+1) p)))):=by
 refine⟨by simpa using hM.1,fun i hi=>?_⟩;rw[Array.getElem?_setIfInBounds];by_cases e:p=i
 ·subst e;rw[qI rfl,qI (by rw[hM.1];exact hp)]
 ·rw[qF e,gM (by omega)];exact hM.2 i hi
theorem uo:Lib.indexByte xU 46=-1:=by decide +kernel
theorem G4:∀c:UInt8,Lib.indexByte xU c<12:=by
 intro c;have:∀n,n<256->Lib.indexByte xU (UInt8.ofNat n)<12:=by decide +kernel
 have h:=this c.toNat c.toNat_lt;simpa using h
theorem dj(z:Nat->UInt8):jS (xD z 0) yI:=by
 refine⟨rfl,fun i hi=>?_⟩;have:i=0\/i=1\/i=2\/i=3\/i=4\/i=5\/i=6\/i=7\/i=8\/i=9\/i=10\/i=11:=by omega
 rcases this with rfl|rfl|rfl|rfl|rfl|rfl|rfl|rfl|rfl|rfl|rfl|rfl<;>rfl
theorem jS.ones{m:Nat->BitVec 64}{M:Array Value}(h:jS m M):M.all (·.oneCell')=true:=by
 rw[Array.all_eq_true];intro i hi;have h2:=h.2 i (by rw[<-h.1];exact hi);rw[qQ hi]at h2;rw[qP h2];simp[Value.oneCell']
theorem jS.info{m:Nat->BitVec 64}{M:Array Value}(h:jS m M):(Tryz.prog.info? 197).map (·.size)=some M.size:=by rw[uF,h.1]
def E2(z:Nat->UInt8)(e:Ending):Prop:=∃M,e=.returned (.tuple #[.agg M,.bool (xO z)])/\(∃m,jS m M)/\(xO z=true->jS (xD z 64) M)
theorem mg{z:Nat->UInt8}{k:Nat}(hk:k<64)(h:ew (z k)=false):xO z=false:=by
 unfold xO;rw[List.all_eq_false];exact⟨k,qK.2 hk,by rw[h];decide⟩
theorem Fy{z:Nat->UInt8}(h:∀j,j<64->ew (z j)=true):xO z=true:=by
 unfold xO;rw[qW];intro j hj;exact h j (qK.1 hj)
theorem lE(z:Nat->UInt8)(B:Array Value)(hs:B.size=64)(hB:∀i,i<64->B[i]?=some (.int .u8 ((z i).toNat:Int)))(w:World):Calls Tryz.prog 126 #[.agg B] w fun e w'=>E2 z e/\Gr w w':=by
 have hs':=qC hs;have hB':=qC hB;clear hs hB;have hh:Hid (∀o1 o2 o3,_):=qC (lM w);go_enter Tryz.func126,Tryz.ntmps126;go_wp2_with(refine wpList_load_row rfl 67 _ rfl w.heap.size rfl 67 B (0,0) _ (qa hh _ _ _).1 Tryz.underlying67 rfl (by rw[qa hs'];exact x7) ?_);go_loopg [9] 64 (fun g n wr=>∃k:Nat,k+g=64/\n=.int .i64 k/\(∀j,j<k->ew (z j)=true)/\∃(M:Array Value)(d:Nat),jS (xD z k) M/\wr=(((w.alloc (.cells B 67)).alloc (.cells yI 197)).alloc (.cells M 197)).drewN d)
 case atStart=>exact⟨0,rfl,rfl,fun j hj=>absurd hj (Nat.not_lt_zero j),yI,0,dj z,rfl⟩
 case round =>
  obtain⟨k,k1,rfl,k3,M,d,hM,rfl⟩:=hrel;have k3':=qC k3;have hM':=qC hM;have hMs:=hM.1;clear k3 hM;by_cases hlt:k<64
  ·have hix:=G1 B k hlt _ (qa hB' k hlt);have hk0:(0:Int)<=(k:Int):=by omega
   have hk6:(k:Int)<64:=by omega
   by_cases hdot:z k=46
   ·have hz46:((z k).toNat:Int)=46:=by rw[hdot];rfl
    rw[hz46]at hix;go_wp2;go_roundg (gk-1)
    case measure=>omega
    case rel=>exact⟨k+1,by omega,by go_num,(by
     intro j hj;by_cases hjk:j=k
     ·subst hjk;unfold ew;rw[hdot];rfl
     ·exact qa k3' j (by omega)),M,d,fM (by rw[hdot,uo];decide) (qa hM'),rfl⟩
   ·have hz46:(((z k).toNat:Int)==46)=false:=by
     rw[qM];intro h;apply hdot;apply q6.1;have:(z k).toNat=46:=by omega
     rw[this];rfl
    have hdot':=qC hdot;clear hdot;have hu:((z k).toNat:Int).toNat.toUInt8=z k:=by simp
    have hl0:Hid (ew (z k)=decide (0<=Lib.indexByte xU (z k))):=qC (by unfold ew;rw[qM.2 (qa hdot'),Bool.false_or]);have h12:=G4 (z k);have hie:Hid (Lib.indexByte xU (z k)=Lib.indexByte xU (z k)):=qC rfl;generalize hix2:Lib.indexByte xU (z k)=ix at hl0 h12;have hixe:=qC hix2;have hix':Lib.indexByte [80,78,66,82,81,75,112,110,98,114,113,107] (z k)=ix:=hix2;clear hix2 hie;by_cases hneg:ix<0
    ·have hbad:Hid (xO z=false):=qC (mg hlt (by rw[qa hl0];exact qE (by omega)));go_wp2_with(first|(go_at_call 200;refine(Tryz.strings_IndexByte _ _ _).mono ?_;rintro e w' ⟨rfl,rfl⟩)|(refine wpList_store_row rfl 197 _ _ rfl (w.heap.size+1) yI rfl rfl 197 yI (qa hh _ _ _).2.1 uF rfl (dj z).ones ?_));exact bodyPost_ret (v:=.tuple #[.agg yI,.bool false]) (qj Tryz.results126 _ _ (w.heap.size+1) 197 yI (0,0) _ rfl (setRow_heap _ _ _ _ _ _ (qa hh _ _ _).2.1) Tryz.underlying197 rfl uF) rfl ⟨⟨yI,by rw[qa hbad],⟨_,dj z⟩,fun h=>by rw[qa hbad]at h;cases h⟩,(Gr.drewN ((((Gr.refl w).alloc _ _).alloc _ _).alloc _ _) _).setRow _ (by omega) _⟩
    ·obtain⟨p,rfl⟩:∃p:Nat,ix=p:=⟨ix.toNat,by omega⟩;have hp:p<12:=by omega
     have hp0:(0:Int)<=(p:Int):=by omega
     have hp12:(p:Int)<12:=by omega
     have hcell:(((w.alloc (.cells B 67)).alloc (.cells yI 197)).alloc (.cells M 197)).cell? ⟨w.heap.size+1+1,p,none⟩=some (.int .u64 (U (xD z k p))):=by
      rw[cell_of_row _ _ _ _ _ _ (qa hh _ _ _).2.2];exact(qa hM').2 p hp
     have hor:bits .or .u64 (U (xD z k p)) (v6 (k:Int))=U (xD z (k+1) p):=by rw[rp k hlt,uQ,sc (qa hixe)]
     go_wp2_with(go_at_call 200;refine(Tryz.strings_IndexByte _ _ _).mono ?_;rintro e w' ⟨rfl,rfl⟩);have hone:=qC (A9 (k:Int) hk0 (by omega));go_region_with (go_at_call 204;refine(qa hone _).mono ?_;rintro e w' ⟨rfl,rfl⟩)
     all_goals
      go_wp2;go_roundg (gk-1)
      case measure=>omega
      case rel=>exact⟨k+1,by omega,by go_num,(by
       intro j hj;by_cases hjk:j=k
       ·subst hjk;rw[qa hl0];exact qJ (by omega)
       ·exact qa k3' j (by omega)),_,_,mw hp (qa hixe) (qa hM'),rfl⟩
  ·have ek:k=64:=by omega
   subst ek;have hall:=qC (Fy (qa k3'));go_wp2_with(first|(refine wpList_load_row rfl 197 _ rfl (w.heap.size+2) rfl 197 M (0,0) _ (qa hh _ _ _).2.2 Tryz.underlying197 rfl (qa hM').info ?_)|(refine wpList_store_row rfl 197 _ _ rfl (w.heap.size+1) M rfl rfl 197 yI (qa hh _ _ _).2.1 (qa hM').info hMs.symm (qa hM').ones ?_));exact bodyPost_ret (v:=.tuple #[.agg M,.bool true]) (qj Tryz.results126 _ _ (w.heap.size+1) 197 M (0,0) _ rfl (setRow_heap _ _ _ _ _ _ (qa hh _ _ _).2.1) Tryz.underlying197 rfl (qa hM').info) rfl ⟨⟨M,by rw[qa hall],⟨_,qa hM'⟩,fun _=>qa hM'⟩,(Gr.drewN ((((Gr.refl w).alloc _ _).alloc _ _).alloc _ _) _).setRow _ (by omega) _⟩
structure jE(z:Nat->UInt8)(wh:Bool)(f:Nat->Bool)(b h g:Int)(PA:Array Value):Prop where
 size:PA.size=72
 sq:∀i,i<64->PA[i]?=some (.int .u8 ((z i).toNat:Int))
 wh:PA[64]?=some (.bool wh)
 c:∀i,i<4->PA[65+i]?=some (.bool (f i))
 b:PA[69]?=some (.int .i64 b)
 h:PA[70]?=some (.int .i64 h)
 g:PA[71]?=some (.int .i64 g)
def zP(h g:Int):Bool:=decide (0<=h)&&decide (h<=65535)&&decide (1<=g)&&decide (g<=65535)
theorem fh{z:Nat->UInt8}{wh:Bool}{f:Nat->Bool}{b h g:Int}{PA:Array Value}(r:jE z wh f b h g PA)(w:World):Calls Tryz.prog 145 #[.agg PA] w fun e w'=>e=.returned (.bool (zP h g))/\Gr w w':=by
 have hc70:(w.alloc (.cells PA 70)).cell? ⟨w.heap.size,70,none⟩=some (.int .i64 h):=by rw[World.cell?_alloc_at _ _ _ _ rfl];exact r.h
 have hc71:(w.alloc (.cells PA 70)).cell? ⟨w.heap.size,71,none⟩=some (.int .i64 g):=by rw[World.cell?_alloc_at _ _ _ _ rfl];exact r.g
 clear r;obtain⟨v,hv⟩:∃v,Hid (zP h g=v):=⟨_,qC rfl⟩;rw[qa hv];by_cases h0:0<=h
 ·by_cases h1:h<=65535
  ·by_cases g0:1<=g
   ·by_cases g1:g<=65535
    ·have e:true=v:=by rw[<-qa hv];simp[zP,h0,h1,g0,g1]
     subst e;clear hv;go_enter Tryz.func145,Tryz.ntmps145;go_wp2;go_ret;exact⟨rfl,(Gr.refl _).alloc _ _⟩
    ·have e:false=v:=by rw[<-qa hv];simp[zP,g1]
     subst e;clear hv;go_enter Tryz.func145,Tryz.ntmps145;go_wp2;go_ret;exact⟨rfl,(Gr.refl _).alloc _ _⟩
   ·have e:false=v:=by rw[<-qa hv];simp[zP,g0]
    subst e;clear hv;go_enter Tryz.func145,Tryz.ntmps145;go_wp2;go_ret;exact⟨rfl,(Gr.refl _).alloc _ _⟩
  ·have e:false=v:=by rw[<-qa hv];simp[zP,h1]
   subst e;clear hv;go_enter Tryz.func145,Tryz.ntmps145;go_wp2;go_ret;exact⟨rfl,(Gr.refl _).alloc _ _⟩
 ·have e:false=v:=by rw[<-qa hv];simp[zP,h0]
  subst e;clear hv;go_enter Tryz.func145,Tryz.ntmps145;go_wp2;go_ret;exact⟨rfl,(Gr.refl _).alloc _ _⟩
def xX(z:Nat->UInt8)(wh:Bool)(b:Int):Bool :=
 decide (b=-1)||(if wh then decide (40<=b)&&decide (b<48)&&decide (((z b.toNat).toNat:Int)=46)&&decide (((z (b+8).toNat).toNat:Int)=46)&&decide (((z (b-8).toNat).toNat:Int)=112)
  else decide (16<=b)&&decide (b<24)&&decide (((z b.toNat).toNat:Int)=46)&&decide (((z (b-8).toNat).toNat:Int)=46)&&decide (((z (b+8).toNat).toNat:Int)=80))
theorem Ci{z:Nat->UInt8}{f:Nat->Bool}{b h g:Int}{PA:Array Value}(r:jE z true f b h g PA)(hb1:b≠-1)(w:World):Calls Tryz.prog 144 #[.agg PA] w fun e w'=>e=.returned (.bool (xX z true b))/\Gr w w':=by
 have hc:∀o,(w.alloc (.cells PA 70)).cell? ⟨w.heap.size,o,none⟩=PA[o]?:=fun o=>World.cell?_alloc_at _ _ _ _ rfl
 have hc64:(w.alloc (.cells PA 70)).cell? ⟨w.heap.size,64,none⟩=some (.bool true):=by rw[hc];exact r.wh
 have hc69:(w.alloc (.cells PA 70)).cell? ⟨w.heap.size,69,none⟩=some (.int .i64 b):=by rw[hc];exact r.b
 by_cases h0:40<=b
 ·by_cases h1:b<48
  ·obtain⟨n,rfl⟩:∃n:Nat,b=n:=⟨b.toNat,by omega⟩;have n0:40<=n:=by omega
   have hn8:((n:Int)+-8).toNat=n-8:=by omega
   have n1:n<48:=by omega
   have hx0:(w.alloc (.cells PA 70)).cell? ⟨w.heap.size,n,none⟩=some (.int .u8 ((z n).toNat:Int)):=by rw[hc];exact r.sq n (by omega)
   have hx1:(w.alloc (.cells PA 70)).cell? ⟨w.heap.size,n+8,none⟩=some (.int .u8 ((z (n+8)).toNat:Int)):=by rw[hc];exact r.sq _ (by omega)
   have hx2:(w.alloc (.cells PA 70)).cell? ⟨w.heap.size,n-8,none⟩=some (.int .u8 ((z (n-8)).toNat:Int)):=by rw[hc];exact r.sq _ (by omega)
   have hv0:xX z true (n:Int)=(decide (((z n).toNat:Int)=46)&&decide (((z (n+8)).toNat:Int)=46)&&decide (((z (n-8)).toNat:Int)=112)):=by
    have e1:((n:Int)+8).toNat=n+8:=by omega
    have e2:((n:Int)-8).toNat=n-8:=by omega
    have d0:decide ((n:Int)=-1)=false:=qE (by omega);have d1:decide ((40:Int)<=n)=true:=qJ (by omega);have d2:decide ((n:Int)<48)=true:=qJ (by omega);unfold xX;rw[d0,d1,d2,e1,e2,Int.toNat_natCast];simp only[Bool.false_or,Bool.true_and,if_true,if_false,qR]
   rw[hv0];clear hv0 r hc;generalize ((z n).toNat:Int)=x0 at hx0 ⊢;generalize ((z (n+8)).toNat:Int)=x1 at hx1 ⊢;generalize ((z (n-8)).toNat:Int)=x2 at hx2 ⊢;obtain⟨v,hv⟩:∃v,Hid ((decide (x0=46)&&decide (x1=46)&&decide (x2=112))=v):=⟨_,qC rfl⟩;rw[qa hv];by_cases k0:x0=46
   ·by_cases k1:x1=46
    ·by_cases k2:x2=112
     ·have e:true=v:=by rw[<-qa hv];simp[k0,k1,k2]
      subst e;clear hv;go_enter Tryz.func144,Tryz.ntmps144;go_wp2;go_ret;exact⟨rfl,(Gr.refl _).alloc _ _⟩
     ·have e:false=v:=by rw[<-qa hv];simp[k2]
      subst e;clear hv;have k2b:=qM.2 k2;go_enter Tryz.func144,Tryz.ntmps144;go_wp2;go_ret;exact⟨rfl,(Gr.refl _).alloc _ _⟩
    ·have e:false=v:=by rw[<-qa hv];simp[k1]
     subst e;clear hv;go_enter Tryz.func144,Tryz.ntmps144;go_wp2;go_ret;exact⟨rfl,(Gr.refl _).alloc _ _⟩
   ·have e:false=v:=by rw[<-qa hv];simp[k0]
    subst e;clear hv;go_enter Tryz.func144,Tryz.ntmps144;go_wp2;go_ret;exact⟨rfl,(Gr.refl _).alloc _ _⟩
  ·obtain⟨v,hv⟩:∃v,Hid (xX z true b=v):=⟨_,qC rfl⟩;rw[qa hv];clear r hc;have e:false=v:=by rw[<-qa hv];simp[xX,hb1];omega
   subst e;clear hv;go_enter Tryz.func144,Tryz.ntmps144;go_wp2;go_ret;exact⟨rfl,(Gr.refl _).alloc _ _⟩
 ·obtain⟨v,hv⟩:∃v,Hid (xX z true b=v):=⟨_,qC rfl⟩;rw[qa hv];clear r hc;have e:false=v:=by rw[<-qa hv];simp[xX,hb1];omega
  subst e;clear hv;go_enter Tryz.func144,Tryz.ntmps144;go_wp2;go_ret;exact⟨rfl,(Gr.refl _).alloc _ _⟩
theorem Cl{z:Nat->UInt8}{f:Nat->Bool}{b h g:Int}{PA:Array Value}(r:jE z false f b h g PA)(hb1:b≠-1)(w:World):Calls Tryz.prog 144 #[.agg PA] w fun e w'=>e=.returned (.bool (xX z false b))/\Gr w w':=by
 have hc:∀o,(w.alloc (.cells PA 70)).cell? ⟨w.heap.size,o,none⟩=PA[o]?:=fun o=>World.cell?_alloc_at _ _ _ _ rfl
 have hc64:(w.alloc (.cells PA 70)).cell? ⟨w.heap.size,64,none⟩=some (.bool false):=by rw[hc];exact r.wh
 have hc69:(w.alloc (.cells PA 70)).cell? ⟨w.heap.size,69,none⟩=some (.int .i64 b):=by rw[hc];exact r.b
 by_cases h0:16<=b
 ·by_cases h1:b<24
  ·obtain⟨n,rfl⟩:∃n:Nat,b=n:=⟨b.toNat,by omega⟩;have n0:16<=n:=by omega
   have n1:n<24:=by omega
   have hx0:(w.alloc (.cells PA 70)).cell? ⟨w.heap.size,n,none⟩=some (.int .u8 ((z n).toNat:Int)):=by rw[hc];exact r.sq n (by omega)
   have hx1:(w.alloc (.cells PA 70)).cell? ⟨w.heap.size,n-8,none⟩=some (.int .u8 ((z (n-8)).toNat:Int)):=by rw[hc];exact r.sq _ (by omega)
   have hx2:(w.alloc (.cells PA 70)).cell? ⟨w.heap.size,n+8,none⟩=some (.int .u8 ((z (n+8)).toNat:Int)):=by rw[hc];exact r.sq _ (by omega)
   have hv0:xX z false (n:Int)=(decide (((z n).toNat:Int)=46)&&decide (((z (n-8)).toNat:Int)=46)&&decide (((z (n+8)).toNat:Int)=80)):=by
    have e1:((n:Int)+8).toNat=n+8:=by omega
    have e2:((n:Int)-8).toNat=n-8:=by omega
    have d0:decide ((n:Int)=-1)=false:=qE (by omega);have d1:decide ((16:Int)<=n)=true:=qJ (by omega);have d2:decide ((n:Int)<24)=true:=qJ (by omega);unfold xX;rw[d0,d1,d2,e1,e2,Int.toNat_natCast];simp only[Bool.false_or,Bool.true_and,if_true,if_false,qR]
   rw[hv0];clear hv0 r hc;generalize ((z n).toNat:Int)=x0 at hx0 ⊢;generalize ((z (n-8)).toNat:Int)=x1 at hx1 ⊢;generalize ((z (n+8)).toNat:Int)=x2 at hx2 ⊢;obtain⟨v,hv⟩:∃v,Hid ((decide (x0=46)&&decide (x1=46)&&decide (x2=80))=v):=⟨_,qC rfl⟩;rw[qa hv];by_cases k0:x0=46
   ·by_cases k1:x1=46
    ·by_cases k2:x2=80
     ·have e:true=v:=by rw[<-qa hv];simp[k0,k1,k2]
      subst e;clear hv;go_enter Tryz.func144,Tryz.ntmps144;go_wp2;go_ret;exact⟨rfl,(Gr.refl _).alloc _ _⟩
     ·have e:false=v:=by rw[<-qa hv];simp[k2]
      subst e;clear hv;have k2b:=qM.2 k2;go_enter Tryz.func144,Tryz.ntmps144;go_wp2;go_ret;exact⟨rfl,(Gr.refl _).alloc _ _⟩
    ·have e:false=v:=by rw[<-qa hv];simp[k1]
     subst e;clear hv;go_enter Tryz.func144,Tryz.ntmps144;go_wp2;go_ret;exact⟨rfl,(Gr.refl _).alloc _ _⟩
   ·have e:false=v:=by rw[<-qa hv];simp[k0]
    subst e;clear hv;go_enter Tryz.func144,Tryz.ntmps144;go_wp2;go_ret;exact⟨rfl,(Gr.refl _).alloc _ _⟩
  ·obtain⟨v,hv⟩:∃v,Hid (xX z false b=v):=⟨_,qC rfl⟩;rw[qa hv];clear r hc;have e:false=v:=by rw[<-qa hv];simp[xX,hb1];omega
   subst e;clear hv;go_enter Tryz.func144,Tryz.ntmps144;go_wp2;go_ret;exact⟨rfl,(Gr.refl _).alloc _ _⟩
 ·obtain⟨v,hv⟩:∃v,Hid (xX z false b=v):=⟨_,qC rfl⟩;rw[qa hv];clear r hc;have e:false=v:=by rw[<-qa hv];simp[xX,hb1];omega
  subst e;clear hv;go_enter Tryz.func144,Tryz.ntmps144;go_wp2;go_ret;exact⟨rfl,(Gr.refl _).alloc _ _⟩
theorem Cj{z:Nat->UInt8}{wh:Bool}{f:Nat->Bool}{h g:Int}{PA:Array Value}(r:jE z wh f (-1) h g PA)(w:World):Calls Tryz.prog 144 #[.agg PA] w fun e w'=>e=.returned (.bool (xX z wh (-1)))/\Gr w w':=by
 have hc69:(w.alloc (.cells PA 70)).cell? ⟨w.heap.size,69,none⟩=some (.int .i64 (-1)):=by rw[World.cell?_alloc_at _ _ _ _ rfl];exact r.b
 clear r;have e:xX z wh (-1)=true:=by simp[xX]
 rw[e];clear e;go_enter Tryz.func144,Tryz.ntmps144;go_wp2;go_ret;exact⟨rfl,(Gr.refl _).alloc _ _⟩
theorem nS{z:Nat->UInt8}{wh:Bool}{f:Nat->Bool}{b h g:Int}{PA:Array Value}(r:jE z wh f b h g PA)(w:World):Calls Tryz.prog 144 #[.agg PA] w fun e w'=>e=.returned (.bool (xX z wh b))/\Gr w w':=by
 by_cases hb:b=-1
 ·subst hb;exact Cj r w
 ·cases wh
  ·exact Cl r hb w
  ·exact Ci r hb w
def jF(w:World):Prop:=kL w/\2<w.heap.size
theorem jF.gr{w w':World}(h:jF w)(g:Gr w w'):jF w':=⟨h.1.below g.below h.2,qN h.2 (Below.size g)⟩
def Sx(w1:World)(b:Nat)(M:Array Value)(w:World):Prop:=St w1 b M w/\jF w
theorem Sx.gr{w1 w w':World}{b:Nat}{M:Array Value}(h:Sx w1 b M w)(g:Gr w w'):Sx w1 b M w':=⟨h.1.gr g,h.2.gr g⟩
theorem Sx.held{w1 w:World}{b:Nat}{M:Array Value}(h:Sx w1 b M w):vh b M w:=h.1.1
theorem Sx.tab{w1 w:World}{b:Nat}{M:Array Value}(h:Sx w1 b M w):jF w:=h.2
theorem Sx.grow{w1 w:World}{b:Nat}{M:Array Value}(h:Sx w1 b M w):Gr w1 w:=h.1.2
theorem qp{ops:Array Oper}{rest:List Oper}{o:Oper}{a:Act}{w:World}{M:Array Value}{Q:Exit->Act->World->Prop}(hw:Region.wanted o (yielded ops a.tmps)=true)(x:Operand)(ho:o.op=.load 197 x)(b:Nat)(hx:a.eval x=.pointer (some ⟨b,0,none⟩))(hh:vh b M w)
  (h:wpList Tryz.prog ops Q rest (a.put o.dst (.agg M)) w):wpList Tryz.prog ops Q (o :: rest) a w :=
 wpList_step fun K hK=>by
  rw[qI hw];refine wp_load_mid (P:=Tryz.prog) 197 x ho b 0 hx M.toList _ hh.2.1 Tryz.underlying197 rfl (by rw[uF];simp[hh.2.2]) ?_;rw[Array.toArray_toList];exact hK _ _ h
theorem qx2(s:BitVec 64)(w:World)(hT:jF w) :
  Calls Tryz.prog 218 #[.func (.func 207) #[] #[.pointer (some ⟨w.heap.size,0,none⟩)]] (w.alloc (.cells #[.int .u64 (U s)] 195)) fun e w'=>e=.returned (.int .i64 (vD s).length)/\Gr w w':=by
 have g:Gr w (w.alloc (.cells #[.int .u64 (U s)] 195)):=(Gr.refl w).alloc _ _;refine(m9 s w.heap.size _ (by rw[World.size_alloc];omega) (hT.gr g).2 (by rw[World.cell?_alloc_at _ _ _ _ rfl];rfl) (hT.gr g).1).mono ?_;rintro e w' ⟨h1,h2⟩;exact⟨h1,Gr.trans g h2⟩
def vM(m:Nat->BitVec 64)(b:Bool):Bool:=decide (((vD (m (bg b+5))).length:Int)=1)&&decide (((vD (xZ m b)).length:Int)<=16)&&decide (bits .and .u64 (U (m (bg b))) 18374686479671623935=0)
theorem bO(m:Nat->BitVec 64)(M:Array Value)(hM:jS m M)(b:Bool)(w:World)(hT:jF w):Calls Tryz.prog 142 #[.agg M,.bool b] w fun e w'=>e=.returned (.bool (vM m b))/\Gr w w':=by
 have hM':=qC hM;have hg1:Hid (Gr w (w.alloc (.cells M 197))):=qC ((Gr.refl w).alloc _ _)
 have hst:Sx w w.heap.size M (w.alloc (.cells M 197)):=⟨⟨⟨by rw[World.size_alloc];omega,(by
  intro j v hv;rw[World.cell?_alloc_at _ _ _ _ rfl,Nat.zero_add,<-qO];exact hv),hM.1⟩,qa hg1⟩,hT.gr (qa hg1)⟩
 clear hM hT;obtain⟨v,hv⟩:∃v,Hid (vM m b=v):=⟨_,qC rfl⟩;rw[qa hv];by_cases h0:((vD (m (bg b+5))).length:Int)=1
 ·by_cases h1:((vD (xZ m b)).length:Int)<=16
  ·by_cases h2:bits .and .u64 (U (m (bg b))) 18374686479671623935=0
   ·have e:true=v:=by rw[<-qa hv];simp only[vM,qJ h0,qJ h1,qJ h2];rfl
    subst e;clear hv;go_enter Tryz.func142,Tryz.ntmps142
    go_wp2_with(first
     | (refine qp (by rfl) _ rfl w.heap.size rfl (Sx.held (w1:=w) (by assumption)) ?_)
     | (go_at_call 213;refine(FL m M (qa hM') _ _).mono ?_;rintro e w' ⟨rfl,hg⟩;have hst:=Sx.gr (by assumption) hg)
     | (go_at_call 205;refine(jp m M (qa hM') _ _).mono ?_;rintro e w' ⟨rfl,hg⟩;have hst:=Sx.gr (by assumption) hg)
     | (go_at_call 219;refine(qxm m M (qa hM') _ _).mono ?_;rintro e w' ⟨rfl,hg⟩;have hst:=Sx.gr (by assumption) hg)
     | (go_at_call 132;refine(xn _ _).mono ?_;rintro e w' ⟨rfl,rfl⟩)
     | (go_at_call 218;refine(qx2 _ _ (Sx.tab (w1:=w) (b:=w.heap.size) (M:=M) (by assumption))).mono ?_;rintro e w' ⟨rfl,hg⟩;have hst:=Sx.gr (by assumption) hg))
    go_ret;exact⟨rfl,hst.grow⟩
   ·have e:false=v:=by rw[<-qa hv];simp only[vM,qE h2,Bool.and_false]
    subst e;clear hv;have h2b:=qM.2 h2;go_enter Tryz.func142,Tryz.ntmps142
    go_wp2_with(first
     | (refine qp (by rfl) _ rfl w.heap.size rfl (Sx.held (w1:=w) (by assumption)) ?_)
     | (go_at_call 213;refine(FL m M (qa hM') _ _).mono ?_;rintro e w' ⟨rfl,hg⟩;have hst:=Sx.gr (by assumption) hg)
     | (go_at_call 205;refine(jp m M (qa hM') _ _).mono ?_;rintro e w' ⟨rfl,hg⟩;have hst:=Sx.gr (by assumption) hg)
     | (go_at_call 219;refine(qxm m M (qa hM') _ _).mono ?_;rintro e w' ⟨rfl,hg⟩;have hst:=Sx.gr (by assumption) hg)
     | (go_at_call 132;refine(xn _ _).mono ?_;rintro e w' ⟨rfl,rfl⟩)
     | (go_at_call 218;refine(qx2 _ _ (Sx.tab (w1:=w) (b:=w.heap.size) (M:=M) (by assumption))).mono ?_;rintro e w' ⟨rfl,hg⟩;have hst:=Sx.gr (by assumption) hg))
    go_ret;exact⟨rfl,hst.grow⟩
  ·have e:false=v:=by rw[<-qa hv];simp only[vM,qE h1,Bool.and_false,Bool.false_and]
   subst e;clear hv;go_enter Tryz.func142,Tryz.ntmps142
   go_wp2_with(first
    | (refine qp (by rfl) _ rfl w.heap.size rfl (Sx.held (w1:=w) (by assumption)) ?_)
    | (go_at_call 213;refine(FL m M (qa hM') _ _).mono ?_;rintro e w' ⟨rfl,hg⟩;have hst:=Sx.gr (by assumption) hg)
    | (go_at_call 205;refine(jp m M (qa hM') _ _).mono ?_;rintro e w' ⟨rfl,hg⟩;have hst:=Sx.gr (by assumption) hg)
    | (go_at_call 219;refine(qxm m M (qa hM') _ _).mono ?_;rintro e w' ⟨rfl,hg⟩;have hst:=Sx.gr (by assumption) hg)
    | (go_at_call 132;refine(xn _ _).mono ?_;rintro e w' ⟨rfl,rfl⟩)
    | (go_at_call 218;refine(qx2 _ _ (Sx.tab (w1:=w) (b:=w.heap.size) (M:=M) (by assumption))).mono ?_;rintro e w' ⟨rfl,hg⟩;have hst:=Sx.gr (by assumption) hg))
   go_ret;exact⟨rfl,hst.grow⟩
 ·have e:false=v:=by rw[<-qa hv];simp only[vM,qE h0,Bool.false_and]
  subst e;clear hv;have h0b:=qM.2 h0;go_enter Tryz.func142,Tryz.ntmps142
  go_wp2_with(first
   | (refine qp (by rfl) _ rfl w.heap.size rfl (Sx.held (w1:=w) (by assumption)) ?_)
   | (go_at_call 213;refine(FL m M (qa hM') _ _).mono ?_;rintro e w' ⟨rfl,hg⟩;have hst:=Sx.gr (by assumption) hg)
   | (go_at_call 205;refine(jp m M (qa hM') _ _).mono ?_;rintro e w' ⟨rfl,hg⟩;have hst:=Sx.gr (by assumption) hg)
   | (go_at_call 219;refine(qxm m M (qa hM') _ _).mono ?_;rintro e w' ⟨rfl,hg⟩;have hst:=Sx.gr (by assumption) hg)
   | (go_at_call 132;refine(xn _ _).mono ?_;rintro e w' ⟨rfl,rfl⟩)
   | (go_at_call 218;refine(qx2 _ _ (Sx.tab (w1:=w) (b:=w.heap.size) (M:=M) (by assumption))).mono ?_;rintro e w' ⟨rfl,hg⟩;have hst:=Sx.gr (by assumption) hg))
  go_ret;exact⟨rfl,hst.grow⟩
end
end Go.Proofs.YtnfakamfmkhlbabGreatDoor.C
