import Derived.Test.YtnfakamfmkhlbabGreatDoorUm9
import Derived.Test.YtnfakamfmkhlbabGreatDoorUm8
import Derived.Sort.LoopGhostIn
import Derived.Test.YtnfakamfmkhlbabGreatDoorKz2
set_option maxRecDepth 100000
set_option maxHeartbeats 4000000
set_option linter.unusedSimpArgs false
namespace Go.Proofs.YtnfakamfmkhlbabGreatDoor.C
open Go.ChangeShapes Go.WideShapes Go.ChangeAt Go.RowKit Go.Shelf Go.Proofs.YtnfakamfmkhlbabGreatDoor.P
attribute [local go_sem] qd qe Oper.semAt_some
def v7(wh:Bool)(k:Nat):Nat:=if k=0 then(if wh then 1 else 2)else k+2
theorem GL(wh:Bool)(k:Nat):vA (!wh) k=((v7 wh k:Nat):Int):=by
 unfold vA v7;cases wh<;>split<;>simp_all
def bE(m:Nat->BitVec 64)(wh:Bool)(beh:BitVec 64)(k f t:Nat):List Mv:=if kE m wh beh k f t then xT (decide (k=0)) f t else[]
def kF(m:Nat->BitVec 64)(wh:Bool)(own oth beh:BitVec 64)(fc:Nat->Bool)(k f:Nat):List Mv:=(vD (kN m wh own oth beh fc k (v7 wh k) f)).flatMap (bE m wh beh k f)
def yN(m:Nat->BitVec 64)(wh:Bool)(own oth beh:BitVec 64)(fc:Nat->Bool)(k:Nat):List Mv:=(vD (m (bg wh+k))).flatMap (kF m wh own oth beh fc k)
def zH(m:Nat->BitVec 64)(wh:Bool)(own oth beh:BitVec 64)(fc:Nat->Bool)(k:Nat):List Mv:=(List.range k).flatMap (yN m wh own oth beh fc)
theorem aI{α β:Type}{pre xs:List α}(f:α->List β)(h:pre <+: xs):pre.flatMap f <+: xs.flatMap f:=by
 obtain⟨r,rfl⟩:=h;rw[List.flatMap_append];exact List.prefix_append _ _
theorem qx0{α β:Type}{pre xs:List α}{x:α}(f:α->List β)(h:pre++[x] <+: xs):pre.flatMap f++f x <+: xs.flatMap f:=by
 have:=aI f h;simpa using this
theorem oP(m:Nat->BitVec 64)(wh:Bool)(own oth beh:BitVec 64)(fc:Nat->Bool){k:Nat}(hk:k<6):zH m wh own oth beh fc k++yN m wh own oth beh fc k <+: zH m wh own oth beh fc 6:=by
 have:List.range k++[k] <+: List.range 6:=by
  refine⟨(List.range 6).drop (k+1),?_⟩;have:k=0\/k=1\/k=2\/k=3\/k=4\/k=5:=by omega
  rcases this with rfl|rfl|rfl|rfl|rfl|rfl<;>decide
 exact qx0 (yN m wh own oth beh fc) this
def uK(D:Nat):Deferred:={ target:=.collected D,args:=#[] }
def zY(B:Nat)(Ds:List Nat)(w:World):Prop:=Ds.Nodup/\∀D∈Ds,B<=D/\w.heap[D]?=some (.deferred (some []))
theorem zY.fr{B:Nat}{Ds:List Nat}{w w':World}{Q:Nat->Obj->Prop}(h:zY B Ds w)(f:Fr Q w w')(hq:∀k o,B<=k->o.isCells=false->w.heap[k]?=some o->k∈Ds->Q k o):zY B Ds w' :=
 ⟨h.1,fun D hD=>⟨(h.2 D hD).1,f.same _ _ (h.2 D hD).2 (hq _ _ (h.2 D hD).1 rfl (h.2 D hD).2 hD)⟩⟩
theorem xc{n:Nat}{fn:Func}(hfn:fn.results=#[]){tmps:Array Value}{R:Ending->World->Prop}{T:Obj->Prop}(hT:∀o,T o->o.isCells=true){B:Nat}:∀(Ds:List Nat)(w:World),zY B Ds w →
  (∀v w',Fr (yv B T) w w'->R (.returned v) w')->LeavesInM Fence.wide n Tryz.prog fn tmps R (Ds.map uK) .returning w:=by
 intro Ds;induction Ds with
 | nil =>
  intro w _ hR;exact⟨_,results_none hfn _ _ _,hR _ _ (Fr.refl _ _)⟩
 | cons D Ds ih =>
  intro w hM hR;obtain⟨hB,hD⟩:=hM.2 D (by simp)
  have f:Fr (yv B T) w (w.putObj D (.deferred none)):=(Fr.refl _ _).putObj _ (fun o e q=>by
   rw[hD]at e;cases e;rcases q with q|q
   ·omega
   ·have:=hT _ q;cases this)
  refine⟨by simp,.inl ⟨D,_,rfl,run_takeDeferred hD,ih _ ⟨(List.nodup_cons.1 hM.1).2,fun D' hD'=>⟨(hM.2 D' (List.mem_cons_of_mem _ hD')).1,?_⟩⟩ (fun v w' f'=>hR v w' (f.trans f'))⟩⟩;have hne:D'≠D:=fun e=>(List.nodup_cons.1 hM.1).1 (e▸hD')
  exact(World.putObj_heap_other hne).trans (hM.2 D' (List.mem_cons_of_mem _ hD')).2
theorem jl{F:Fence}{n:Nat}{ops:Array Oper}{rest:List Oper}{o:Oper}{a:Act}{w:World}{FA:Array Value}{Q:Exit->Act->World->Prop}(hg:o.guard=none)(x:Operand)(ho:o.op=.load 202 x)(b:Nat)(hx:a.eval x=.pointer (some ⟨b,0,none⟩))(hz:FA.size=20)(hh:yk b FA w)
  (h:wpListIn F n Tryz.prog ops Q rest (a.put o.dst (.agg FA)) w):wpListIn F n Tryz.prog ops Q (o :: rest) a w :=
 wpListIn_plain hg fun K hK=>by
  refine⟨fun f hf=>?_,?_⟩
  ·simp[Oper.about,ho]at hf
  ·rw[Oper.semAt_eq _ _ _ (by rw[ho];intro c e;cases e)]
   have hr:(execOp a.eval o).run Tryz.prog w=.ok (.value (.agg FA)) w:=by
    have:=run_loadVar_mid (P:=Tryz.prog) w b 0 202 FA.toList _ hh.2 Tryz.underlying202 rfl (by rw[ky];simp[hz]);rw[Array.toArray_toList]at this;unfold execOp;simp only[ho,hx,Instr.loadAt,Instr.sureAddr,Sem.run_bind,Sem.run_pure,Result.andThen_ok,this]
   rw[hr,Oper.uponIn_value];exact hK _ _ h
theorem pO.ones{m:Nat->BitVec 64}{wh:Bool}{own oth beh:BitVec 64}{fc:Nat->Bool}{FA:Array Value}(r:pO m wh own oth beh fc FA):FA.all (·.oneCell')=true:=by
 rw[Array.all_eq_true];intro i hi;have hz:=r.size;by_cases h12:i<12
 ·have:=r.men i h12;rw[qQ hi]at this;rw[qP this];rfl
 ·have hcase:i=12\/i=13\/i=14\/i=15\/i=16+0\/i=16+1\/i=16+2\/i=16+3:=by omega
  rcases hcase with rfl|rfl|rfl|rfl|rfl|rfl|rfl|rfl
  ·have:=r.wh;rw[qQ hi]at this;rw[qP this];rfl
  ·have:=r.own;rw[qQ hi]at this;rw[qP this];rfl
  ·have:=r.oth;rw[qQ hi]at this;rw[qP this];rfl
  ·have:=r.beh;rw[qQ hi]at this;rw[qP this];rfl
  ·have:=r.c 0 (by omega);rw[qQ hi]at this;rw[qP this];rfl
  ·have:=r.c 1 (by omega);rw[qQ hi]at this;rw[qP this];rfl
  ·have:=r.c 2 (by omega);rw[qQ hi]at this;rw[qP this];rfl
  ·have:=r.c 3 (by omega);rw[qQ hi]at this;rw[qP this];rfl
structure Mk(l B Wb Bf:Nat)(FA:Array Value)(Ds:List Nat)(W:World):Prop where
 yb:W.heap[Wb]?=some (.cells #[.func (.yield l) #[] #[]] 143)
 fb:W.heap[Bf]?=some (.cells FA 202)
 ms:zY B Ds W
 tb:jF W
 ct:jQ W
theorem jF.fr{Q:Nat->Obj->Prop}{w w':World}(h:jF w)(f:Fr Q w w')(hq:∀o,Q 2 o):jF w':=⟨h.1.fr f hq,qN h.2 f.size⟩
theorem jQ.fr{Q:Nat->Obj->Prop}{w w':World}(h:jQ w)(f:Fr Q w w')(hq:∀o,Q 3 o):jQ w' :=
 ⟨fun j v hv=>f.cell (h.1 j v hv) (fun o _=>hq o),qN h.2 f.size⟩
theorem Mk.fr{l B Wb Bf:Nat}{FA:Array Value}{Ds:List Nat}{W W':World}{Q:Nat->Obj->Prop}(h:Mk l B Wb Bf FA Ds W)(f:Fr Q W W')(hq:∀k o,(k=Wb\/k=Bf\/k∈Ds\/k=2\/k=3)->Q k o):Mk l B Wb Bf FA Ds W' :=
 ⟨f.same _ _ h.yb (hq _ _ (.inl rfl)),f.same _ _ h.fb (hq _ _ (.inr (.inl rfl))),h.ms.fr f (fun k o _ _ _ hk=>hq k o (.inr (.inr (.inl hk)))),h.tb.fr f (fun o=>hq _ o (.inr (.inr (.inr (.inl rfl))))),h.ct.fr f (fun o=>hq _ o (.inr (.inr (.inr (.inr rfl)))))⟩
theorem Fr.ext{Q R:Nat->Obj->Prop}{a b c:World}(h:Fr Q a b)(f:Fr R b c)(i:∀k o,a.heap[k]?=some o->Q k o->R k o):Fr Q a c :=
 ⟨f.os.trans h.os,f.tape.trans h.tape,f.output.trans h.output,q7 h.size f.size,fun k o e q=>f.same k o (h.same k o e q) (i k o e q)⟩
theorem pj(f t k:Nat)(hk:k<4):(List.range (k+1)).map (fun i=>((f,t,uA i):Mv)) <+: [(f,t,113),(f,t,114),(f,t,98),(f,t,110)]:=by
 have:k=0\/k=1\/k=2\/k=3:=by omega
 rcases this with rfl|rfl|rfl|rfl
 ·exact⟨[(f,t,114),(f,t,98),(f,t,110)],rfl⟩
 ·exact⟨[(f,t,98),(f,t,110)],rfl⟩
 ·exact⟨[(f,t,110)],rfl⟩
 ·exact⟨[],rfl⟩
theorem AM(place f t:Nat)(hp:place<6)(ht:t<64)(l B:Nat)(T:Obj->Prop)(C:Nat->Prop)(hTu:∀c fr,¬ T (.cells c 5 fr))(J Jx:List Mv->World->Prop)(hJ:vu B T J)(xs dn:List Mv)(hpre:dn++xT (decide (place=0)) f t <+: xs)
  (hY:∀pre x W1,pre++[x] <+: xs->J pre W1->YieldAt Fence.wide 0 Tryz.prog l (vr x) W1 fun e W'=>Fr (jM B T C) W1 W'/\((e=.returned (.bool true)/\J (pre++[x]) W')\/(e=.returned (.bool false)/\Jx (pre++[x]) W')))
  (W:World) (hB:B<=W.heap.size) (h0:J dn W) :
  Calls Tryz.prog 135 #[.int .i64 (place:Int),.int .i64 (f:Int),.int .i64 (t:Int),.func (.yield l) #[] #[]] W fun e W'=>Fr (jM B T C) W W'/\((e=.returned (.bool true)/\J (dn++xT (decide (place=0)) f t) W')\/(e=.returned (.bool false)/\∃q,q <+: xs/\Jx q W')):=by
 by_cases hn:(decide (place=0)&&kP.getLsbD t)=true
 ·have hn2:=hn;rw[qH]at hn2;have h00:place=0:=q8 hn2.1;have hlt:kP.getLsbD t=true:=hn2.2;clear hn2;subst h00;have e4:xT (decide (0=0)) f t=(List.range 4).map fun i=>((f,t,uA i):Mv):=by unfold xT;rw[hn,qI rfl];rfl
  rw[e4]at hpre ⊢;have hp4:∀k,k<4->dn++(List.range (k+1)).map (fun i=>((f,t,uA i):Mv)) <+: xs:=fun k hk=>(List.prefix_append_right_inj dn).2 (pj f t k hk) |>.trans hpre
  refine(oC f t ht hlt l B T C hTu J Jx hJ dn W hB (fun k W1 hk hj=>?_) h0).mono ?_
  ·have:=hY (dn++(List.range k).map fun i=>(f,t,uA i)) (f,t,uA k) W1 (by
    have:=hp4 k hk
    rwa[List.range_succ,List.map_append,<-qS]at this) hj
   rw[List.range_succ,List.map_append,<-qS];exact this
  ·rintro e W' ⟨f1,⟨h1,h2⟩|⟨h1,k,hk,h2⟩⟩
   ·exact⟨f1,.inl ⟨h1,h2⟩⟩
   ·exact⟨f1,.inr ⟨h1,_,hp4 k hk,h2⟩⟩
 ·have hn':(decide (place=0)&&kP.getLsbD t)=false:=by simpa using hn
  have e1:xT (decide (place=0)) f t=[(f,t,0)]:=by unfold xT;rw[hn'];rfl
  rw[e1]at hpre ⊢;refine(AL place f t hp ht hn' l B T C J Jx dn W (hY dn _ W hpre h0)).mono ?_;rintro e W' ⟨f1,⟨h1,h2⟩|⟨h1,h2⟩⟩
  ·exact⟨f1,.inl ⟨h1,h2⟩⟩
  ·exact⟨f1,.inr ⟨h1,_,hpre,h2⟩⟩
theorem EL(wh:Bool)(k:Nat)(h:k<6):1<=v7 wh k/\v7 wh k<=7:=by
 unfold v7;cases wh<;>split<;>simp<;>omega
def RetQ(X:Act->World->Prop):Exit->Act->World->Prop
 | .ret,a,w=>X a w
 | _,_,_=>False
def S5(Bf:Nat)(FA:Array Value)(S k:Nat)(W:World):Prop:=yk Bf FA W/\W.cell? ⟨S,0,none⟩=some (.int .i64 (k:Int))
theorem S5.alloc{Bf:Nat}{FA:Array Value}{S k:Nat}{W:World}(h:S5 Bf FA S k W)(A:Array Value)(t:TypeId):S5 Bf FA S k (W.alloc (.cells A t)) :=
 ⟨h.1.gr ((Gr.refl _).alloc _ _),(Below.cell ((Gr.refl W).alloc A t) (World.block_lt_of_cell? W _ h.2)).trans h.2⟩
def MvI(m:Nat->BitVec 64)(wh:Bool)(own oth beh:BitVec 64)(fc:Nat->Bool)(l B Bp Wb Bf:Nat)(PA FA:Array Value)(J:List Mv->World->Prop)(gk:Nat)(a:Act)(wr:World):Prop :=
 ∃(k:Nat)(Ds:List Nat)(u4 u5 u6 u7 u14 u15 u16 u17 u18 u19 u20 u21 u22 u23 u24 u25 u26 u27 u28 u29 u30 u31 u32 u33 u34 u35 u36 u37 u38 u39 u40 u41 u42 u43 u44 u45 u46 u47:Value),k+gk=6/\a={ tmps:=#[.func (.yield l) #[] #[],.pointer (some ⟨Bp,0,none⟩),.pointer (some ⟨Wb,0,none⟩),.pointer (some ⟨Bf,0,none⟩),u4,u5,u6,u7,.agg PA,.agg FA,.pointer (some ⟨Bf,12,none⟩),.bool wh,.agg (zR (!wh)),.int .i64 (k:Int),u14,u15,u16,u17,u18,u19,u20,u21,u22,u23,u24,u25,u26,u27,u28,u29,u30,u31,u32,u33,u34,u35,u36,u37,u38,u39,u40,u41,u42,u43,u44,u45,u46,u47],defers:=Ds.map uK }/\Mk l B Wb Bf FA Ds wr/\J (zH m wh own oth beh fc k) wr
theorem mY{m:Nat->BitVec 64}{wh:Bool}{own oth beh:BitVec 64}{fc:Nat->Bool}{PA:Array Value}(hsz:PA.size=72)(hfo0:∀W:World,Calls Tryz.prog 129 #[.agg PA] W fun e w'=>∃FA,e=.returned (.agg FA)/\pO m wh own oth beh fc FA/\Gr W w')(Bp:Nat)(T:Obj->Prop)(hTm:∀o,T o->∃c fr,o=.cells c 87 fr)(w:World)
  (hp:w.heap[Bp]?=some (.cells PA 70)) (hT:jF w) (hC:jQ w) :
  It Tryz.prog 128 #[.pointer (some ⟨Bp,0,none⟩)] vr T (fun k=>k=Bp\/k=2\/k=3) (zH m wh own oth beh fc 6) w:=by
 intro l B J Jx W f0 hB hJ hJx hY h0;have hpW:=f0.same _ _ hp (.inl rfl);have hTW:=hT.fr f0 (fun _=>.inr (.inl rfl));have hCW:=hC.fr f0 (fun _=>.inr (.inr rfl));clear f0 hp hT hC;have hTc:∀o,T o->o.isCells=true:=fun o ho=>by obtain⟨c,fr,rfl⟩:=hTm o ho;rfl
 refine(callsIn_wide (n:=9)).1 ?_;refine callsIn_of_wp_marks Tryz.func128 rfl trivial ?_ rfl;simp only[Tryz.ntmps128,List.size_toArray,List.length_cons,List.length_nil,Nat.reduceAdd,Nat.reduceSub,Array.replicate_succ,Array.replicate_zero,List.push_toArray,List.append_toArray,List.nil_append,List.cons_append];refine wpIn_wide.2 ?_;have hfo:=qC hfo0;clear hfo0;have hi72:(Tryz.prog.info? 70).map (·.size)=some PA.size:=by rw[hsz];exact jJ
 have hkd:=qC (fun W=>gQ (!wh) W);rw[Bool.not_not]at hkd
 go_upto_region 2 with(first
  | (go_at_call 129;refine(qa hfo _).mono ?_;rintro e w3 ⟨FA,rfl,hF,hg3⟩)
  | (refine wpList_load_row rfl 70 _ rfl Bp rfl 70 PA (0,0) _ (Fr.same ((Fr.refl (fun _ _=>True) W).alloc _) _ _ hpW trivial) Tryz.underlying70 rfl hi72 ?_)
  | (refine wpList_store_row rfl 202 _ _ rfl _ FA rfl rfl 202 ZF (World.alloc_heap_new _ _) (by rw[hF.size];exact ky) (by rw[hF.size];rfl) (pO.ones hF) ?_))
 have hx1:((w3.alloc (.cells ZF 202)).setRow w3.heap.size FA).heap[w3.heap.size]?=some (.cells FA 202):=setRow_heap _ _ _ _ _ _ (World.alloc_heap_new _ _);have hg4:Gr w3 ((w3.alloc (.cells ZF 202)).setRow w3.heap.size FA):=((Gr.refl w3).alloc _ _).setRow _ (qL _) _;show Code.wp _ _ _ _ ((w3.alloc (.cells ZF 202)).setRow w3.heap.size FA);have hg1:Gr W (W.alloc (.cells #[.func (.yield l) #[] #[]] 143)):=(Gr.refl W).alloc _ _;have hgW:=Gr.trans hg1 (Gr.trans hg3 hg4)
 have hyb:((w3.alloc (.cells ZF 202)).setRow w3.heap.size FA).heap[W.heap.size]?=some (.cells #[.func (.yield l) #[] #[]] 143) :=
  (Below.block (Gr.trans hg3 hg4) W.heap.size (by rw[World.size_alloc];omega)).trans (World.alloc_heap_new W _)
 have hBf:B<=w3.heap.size:=q7 hB (q7 (Below.size hg1) (Below.size hg3));generalize (w3.alloc (.cells ZF 202)).setRow w3.heap.size FA=w4 at hx1 hyb hgW ⊢;generalize hWb:W.heap.size=Wb at hyb hB ⊢;generalize w3.heap.size=Bf at hx1 hBf ⊢;have h4:=hJ _ _ _ h0 (Fr.of_gr hgW);have hT4:=hTW.gr hgW;have hC4:=hCW.gr hgW;clear hg3 hg4 hg1 hpW hTW hCW h0 hgW hfo hWb hi72;have hF':=qC hF;have hz20:=qC hF.size;have c12:w4.cell? ⟨Bf,12,none⟩=some (.bool wh):=by rw[cell_of_row _ _ _ _ _ _ hx1];exact hF.wh
 clear hF;go_wp2_with(go_at_call 130;refine(qa hkd _).mono ?_;rintro e w5 ⟨rfl,hg5⟩);have hT5:=hT4.gr hg5;have hC5:=hC4.gr hg5;have hJ5:=hJ _ _ _ h4 (Fr.of_gr hg5);have hx5:=(Below.block hg5 _ (qB.1 hx1).1).trans hx1;have hy5:=(Below.block hg5 _ (qB.1 hyb).1).trans hyb;clear hT4 hC4 h4 hx1 hyb c12 hkd hg5;have hY':=qC hY;clear hY;refine wpIn_wide.1 (wpIn_loop_ghost (rm:=9) (MvI m wh own oth beh fc l B Bp Wb Bf PA FA J) 6 ?start ?round)
 case start=>exact⟨0,[],undef,undef,undef,undef,undef,undef,undef,undef,undef,undef,undef,undef,undef,undef,undef,undef,undef,undef,undef,undef,undef,undef,undef,undef,undef,undef,undef,undef,undef,undef,undef,undef,undef,undef,undef,undef,undef,undef,rfl,rfl,⟨hy5,hx5,⟨List.nodup_nil,fun D hD=>absurd hD List.not_mem_nil⟩,hT5,hC5⟩,hJ5⟩
 case round =>
  clear hJ5 hT5 hC5 hx5 hy5;rintro gk a wr ⟨k,Ds,u4,u5,u6,u7,u14,u15,u16,u17,u18,u19,u20,u21,u22,u23,u24,u25,u26,u27,u28,u29,u30,u31,u32,u33,u34,u35,u36,u37,u38,u39,u40,u41,u42,u43,u44,u45,u46,u47,hk,rfl,hM,hJk⟩;by_cases hlt:k<6
  ·refine Code.wpIn_mono (Q:=Exit.then (fun a' w'=>∃n',n'<gk/\MvI m wh own oth beh fc l B Bp Wb Bf PA FA J n' a' w') (RetQ fun a' w'=>LeavesInM Fence.wide 9 Tryz.prog Tryz.f128 a'.tmps (fun e W'=>(∃v,e=.returned v)/\(J (zH m wh own oth beh fc 6) W'\/∃pre,pre <+: zH m wh own oth beh fc 6/\Jx pre W')) a'.defers .returning w')) ?mono ?_
   case mono =>
    rintro e a' w' he;cases e with
    | normal=>exact he
    | ret=>exact he
    | exit id=>exact he.elim
    | goto t=>exact he.elim
    | panic c=>exact he.elim
    | outgrown=>exact he.elim
   refine wpIn_wide.2 ?_;obtain⟨K,hKd⟩:∃K:Act->World->Prop,K=(fun a' w'=>∃n',n'<gk/\MvI m wh own oth beh fc l B Bp Wb Bf PA FA J n' a' w'):=⟨_,rfl⟩;rw[<-hKd];have hKd':=qC hKd;clear hKd;have hix:=sn (!wh) k hlt;rw[GL]at hix;have hM':=qC hM;have hJk':=qC hJk;clear hM hJk;have hk0:(0:Int)<=(k:Int):=by omega
   have hk6:(k:Int)<6:=by omega
   obtain⟨RQ,hRQ⟩:∃RQ:Act->World->Prop,RQ=(fun a' w'=>LeavesInM Fence.wide 9 Tryz.prog Tryz.f128 a'.tmps (fun e W'=>(∃v,e=.returned v)/\(J (zH m wh own oth beh fc 6) W'\/∃pre,pre <+: zH m wh own oth beh fc 6/\Jx pre W')) a'.defers .returning w'):=⟨_,rfl⟩;rw[<-hRQ];have hRQ':=qC hRQ;clear hRQ;go_upto_region 5 with fail;have hbe:=qC (fun W=>FJ wh W);have hbl:=io wh;have hop0:(0:Int)<=(bg wh:Int)+(k:Int):=by omega
   have hop1:(bg wh:Int)+(k:Int)<12:=by omega
   have hwr:IntKind.i64.wrap ((bg wh:Int)+(k:Int))=(bg wh:Int)+(k:Int):=by rw[IntKind.wrap_i64];omega
   obtain⟨x1,x2⟩:=x6 wr (.cells #[.int .i64 (k:Int)] 3) (.cells #[.int .i64 (v7 wh k:Int)] 3);have hgA:Gr wr ((wr.alloc (.cells #[.int .i64 (k:Int)] 3)).alloc (.cells #[.int .i64 (v7 wh k:Int)] 3)):=((Gr.refl wr).alloc _ _).alloc _ _;have hsA:((wr.alloc (.cells #[.int .i64 (k:Int)] 3)).alloc (.cells #[.int .i64 (v7 wh k:Int)] 3)).heap.size=wr.heap.size+2:=by simp
   generalize ((wr.alloc (.cells #[.int .i64 (k:Int)] 3)).alloc (.cells #[.int .i64 (v7 wh k:Int)] 3))=wA at x1 x2 hgA hsA ⊢
   have hfA:yk Bf FA wA:=by
    have e:=(Below.block hgA _ (qB.1 (qa hM').fb).1).trans (qa hM').fb;exact⟨(qB.1 e).1,fun j v hv=>by rw[cell_of_row _ _ _ _ _ _ e,Nat.zero_add,<-qO];exact hv⟩
   have hH5:S5 Bf FA wr.heap.size k wA.drew:=⟨hfA.gr (Gr.refl _).drew,(qi x1).1⟩;refine wp_region_held_drew (S:=S5 Bf FA wr.heap.size k) (by kernel_rfl) hH5 (fun qD=>?_);refine C.ty 0 (.pointer (some ⟨Bf,12,none⟩)) rfl (Or.inl ⟨by rfl,fun w hw=>(by have c1:=hw.1.cell (qa hF').wh;have c2:=hw.2;have c3:=hw.1.cell ((qa hF').men (bg wh+k) (by have:=io wh;omega));go_simp)⟩) qD ?_;refine C.ty 1 (.bool wh) rfl (Or.inl ⟨by rfl,fun w hw=>(by have c1:=hw.1.cell (qa hF').wh;have c2:=hw.2;have c3:=hw.1.cell ((qa hF').men (bg wh+k) (by have:=io wh;omega));go_simp)⟩) qD ?_;refine C.ty 3 (.int .i64 (k:Int)) rfl (Or.inl ⟨by rfl,fun w hw=>(by have c1:=hw.1.cell (qa hF').wh;have c2:=hw.2;have c3:=hw.1.cell ((qa hF').men (bg wh+k) (by have:=io wh;omega));go_simp)⟩) qD ?_;refine C.ty 5 (.pointer (some ⟨Bf,0,none⟩)) rfl (Or.inl ⟨by rfl,fun w hw=>(by have c1:=hw.1.cell (qa hF').wh;have c2:=hw.2;have c3:=hw.1.cell ((qa hF').men (bg wh+k) (by have:=io wh;omega));go_simp)⟩) qD ?_;refine wpAnyH_ready (rs:=[2]) (by kernel_rfl) (by simp) ?_;refine AllReadyH.cons rfl (fun K2 hK=>?_) AllReadyH.nil;go_simp;refine(qa hbe _).mono ?_;rintro e wa ⟨rfl,hww⟩;have hww':=hww.symm;subst hww';clear hww;refine hK.out _ _ qD (fun qD=>?_);clear hK K2;refine C.ty 4 (.int .i64 ((bg wh:Int)+(k:Int))) rfl (Or.inl ⟨by rfl,fun w hw=>(by have c1:=hw.1.cell (qa hF').wh;have c2:=hw.2;have c3:=hw.1.cell ((qa hF').men (bg wh+k) (by have:=io wh;omega));go_simp)⟩) qD ?_;refine C.ty 6 (.pointer (some ⟨Bf,bg wh+k,none⟩)) rfl (Or.inl ⟨by rfl,fun w hw=>(by have c1:=hw.1.cell (qa hF').wh;have c2:=hw.2;have c3:=hw.1.cell ((qa hF').men (bg wh+k) (by have:=io wh;omega));go_simp)⟩) qD ?_;refine C.ty 7 (.int .u64 (U (m (bg wh+k)))) rfl (Or.inl ⟨by rfl,fun w hw=>(by have c1:=hw.1.cell (qa hF').wh;have c2:=hw.2;have c3:=hw.1.cell ((qa hF').men (bg wh+k) (by have:=io wh;omega));go_simp)⟩) qD ?_;refine wpAnyH_ready (rs:=[8]) (by kernel_rfl) (by simp) ?_;refine AllReadyH.cons rfl (fun K2 hK=>?_) AllReadyH.nil;go_simp;refine(xn _ _).mono ?_;rintro e w6 ⟨rfl,hw6⟩;refine hK.out _ _ (by rw[hw6];exact qD.alloc _ _) (fun qD=>?_);clear hK K2;refine wpAnyH_done (by kernel_rfl) ?_ _;clear qD hH5;go_wp2_with fail;have hg6:Gr wr w6:=by rw[hw6];exact Gr.trans hgA ((Gr.refl wA).drew.alloc _ _)
   have hs6:w6.heap.size=wr.heap.size+3:=by rw[hw6,World.size_alloc];show wA.heap.size+1=_;rw[hsA]
   have hgA6:Gr wA w6:=by rw[hw6];exact(Gr.refl wA).drew.alloc _ _
   have k1:=(Below.block hgA6 wr.heap.size (by omega)).trans x1;have k2:=(Below.block hgA6 (wr.heap.size+1) (by omega)).trans x2
   have hcs:w6.cell? ⟨wr.heap.size+2,0,none⟩=some (.int .u64 (U (m (bg wh+k)))):=by
    have:=(qq5 wA.drew (.int .u64 (U (m (bg wh+k)))) 195).1;rw[<-hw6]at this;rw[<-hsA];exact this
   have k3:w6.heap[wr.heap.size+2]?=some (.cells #[.int .u64 (U (m (bg wh+k)))] 195):=by
    have:=World.alloc_heap_new wA.drew (.cells #[.int .u64 (U (m (bg wh+k)))] 195);rw[<-hw6]at this;rw[<-hsA];exact this
   have hM6:Mk l B Wb Bf FA Ds w6:=(qa hM').fr (Q:=fun _ _=>True) (Fr.of_gr hg6) (fun _ _ _=>trivial);have hJ6:=hJ _ _ _ (qa hJk') (Fr.of_gr hg6);have hDs:∀D∈Ds,D<w6.heap.size:=fun D hD=>(qB.1 (hM6.ms.2 D hD).2).1
   have hBs:wA.drew.heap.size=wr.heap.size+2:=hsA;rw[hBs];have hszW:Wb<w6.heap.size:=(qB.1 hM6.yb).1;have hszF:Bf<w6.heap.size:=(qB.1 hM6.fb).1;have hB6:B<=w6.heap.size:=by omega
   have mst:∀{A A':World},Mk l B Wb Bf FA Ds A->Fr (yv w6.heap.size T) A A'->Mk l B Wb Bf FA Ds A':=fun h f=>h.fr f (fun k o hk=>by
    refine .inl ?_;rcases hk with rfl|rfl|hk|rfl|rfl
    ·exact hszW
    ·exact hszF
    ·exact hDs _ hk
    ·exact hM6.tb.2
    ·exact hM6.ct.2)
   refine wpIn_wide.1 (xj (n:=9) (gf:=207) (lb:=#[.pointer (some ⟨wr.heap.size+2,0,none⟩)]) rfl (enters_of Tryz.func207 (by kernel_rfl) rfl)
    (o0 (m (bg wh+k)) (wr.heap.size+2) T w6 hcs hM6.tb.1) hTc (by rintro j (rfl|rfl);exact(by omega);exact hM6.tb.2) (Fr.refl _ _) (fun _=>rfl)
    (fun pre W=>Mk l B Wb Bf FA Ds W/\W.heap[wr.heap.size]?=some (.cells #[.int .i64 (k:Int)] 3)/\W.heap[wr.heap.size+1]?=some (.cells #[.int .i64 (v7 wh k:Int)] 3)/\J (zH m wh own oth beh fc k++pre.flatMap (kF m wh own oth beh fc k)) W/\W.heap[wr.heap.size+2]?=some (.cells #[.int .u64 (U (m (bg wh+k)))] 195))
    (fun c _ W=>c=.ret/\zY B Ds W/\∃q,q <+: zH m wh own oth beh fc 6/\Jx q W)
    ?sI ?sX ⟨hM6,k1,k2,by simpa using hJ6,k3⟩ ?rnd ?done ?stop)
   case sI=>exact fun s A A' h f=>⟨mst h.1 f,f.same _ _ h.2.1 (.inl (by omega)),f.same _ _ h.2.2.1 (.inl (by omega)),qo hJ hB6 _ _ _ h.2.2.2.1 f,f.same _ _ h.2.2.2.2 (.inl (by omega))⟩
   case sX=>exact fun c s A A' h f=>⟨h.1,h.2.1.fr f (fun j o _ _ _ hj=>.inl (hDs _ hj)),h.2.2.elim fun q hq=>⟨q,hq.1,qo hJx hB6 _ _ _ hq.2 f⟩⟩
   case done =>
    rintro D W2 hD ⟨hM2,_,_,hJ2,_⟩ hK2;go_wp2_with fail;rw[qa hKd']
    have hms:zY B (D :: Ds) W2:=⟨List.nodup_cons.2 ⟨fun h=>by have:=hDs D h;omega,hM2.ms.1⟩,fun D' hD'=>by
      rcases List.mem_cons.1 hD' with rfl|hD'
      ·exact⟨by omega,hK2⟩
      ·exact hM2.ms.2 D' hD'⟩
    have e:zH m wh own oth beh fc (k+1)=zH m wh own oth beh fc k++(vD (m (bg wh+k))).flatMap (kF m wh own oth beh fc k):=by
      unfold zH;rw[List.range_succ,List.flatMap_append];simp[yN]
    exact⟨gk-1,by omega,k+1,D :: Ds,_,_,_,_,_,_,_,_,_,_,_,_,_,_,_,_,_,_,_,_,_,_,_,_,_,_,_,_,_,_,_,_,_,_,_,_,_,_,by omega,rfl,⟨hM2.yb,hM2.fb,hms,hM2.tb,hM2.ct⟩,by rw[e];exact hJ2⟩
   case stop =>
    rintro D c pre W2 hD hpre ⟨rfl,hM2,q,hq1,hq2⟩ hK2;refine wpIn_wide.2 ?_;go_wp2_with fail;show RQ _ _;rw[qa hRQ']
    exact xc (T:=T) Tryz.results128 hTc (D :: Ds) W2 ⟨List.nodup_cons.2 ⟨fun h=>by have:=hDs D h;omega,hM2.1⟩,fun D' hD'=>by
      rcases List.mem_cons.1 hD' with rfl|hD'
      ·exact⟨by omega,hK2⟩
      ·exact hM2.2 D' hD'⟩ (fun v w' f=>⟨⟨v,rfl⟩,.inr ⟨q,hq1,hJx _ _ _ hq2 f⟩⟩)
   case rnd =>
    intro l1 pre f W2 hbl hx hI2 hl2;obtain⟨hM2,kb2,kd2,hJ2,_⟩:=hI2;have hBx:B<=W2.heap.size:=by have:=(qB.1 hM2.yb).1;omega
    have hf:=ui (C9 hx);have hl2':l1<W2.heap.size:=hl2.elim fun r hr=>(qB.1 hr).1
    gi_wp2;refine⟨(Fr.refl _ _).alloc _,?_⟩;intro W3 f3 hI3 hl3;have kf3:W3.heap[W2.heap.size]?=some (.cells #[.int .i64 (f:Int)] 3):=f3.same _ _ (World.alloc_heap_new W2 _) (by omega);generalize W2.heap.size=Bx at kf3 hl2' hBx ⊢;clear f3 hM2 kb2 kd2 hJ2 hl2;obtain⟨hM3,kb3,kd3,hJ3,ks3⟩:=hI3;have hBW3:B<=W3.heap.size:=by have:=(qB.1 hM3.yb).1;omega
    have ck:=(qi kb3).1;have cd:=(qi kd3).1;have cf:=(qi kf3).1;have hfa3:yk Bf FA W3:=⟨(qB.1 hM3.fb).1,fun j v hv=>by rw[cell_of_row _ _ _ _ _ _ hM3.fb,Nat.zero_add,<-qO];exact hv⟩;have hkb:=EL wh k hlt;have htg:=qC (om (qa hF') k (v7 wh k) f hkb.1 hkb.2 hf W3 hM3.tb hM3.ct)
    gi_wp2_with (first
     | (refine jl rfl _ rfl Bf rfl (qa hz20) hfa3 ?_)
     | (refine⟨trivial,?_⟩;gi_at_call 133;refine(CallsIn.inRound l1 (callsIn_wide.2 (qa htg))).mono ?_;rintro e w7 ⟨rfl,hg7⟩)
     | (refine⟨trivial,?_⟩;gi_at_call 132;refine(CallsIn.inRound l1 (callsIn_wide.2 (xn _ _))).mono ?_;rintro e w8 ⟨rfl,hw8⟩))
    obtain⟨w9,hw9⟩:∃w9,w9=w7.alloc (.cells #[.int .u64 (U (kN m wh own oth beh fc k (v7 wh k) f))] 195):=⟨_,rfl⟩;rw[<-hw9];have hg9:Gr W3 w9:=by rw[hw9];exact hg7.alloc _ _
    have hs9:w9.heap.size=w7.heap.size+1:=by rw[hw9,World.size_alloc]
    have hq9:w9.heap[w7.heap.size]?=some (.cells #[.int .u64 (U (kN m wh own oth beh fc k (v7 wh k) f))] 195):=by rw[hw9];exact World.alloc_heap_new _ _
    have hB7:W3.heap.size<=w7.heap.size:=Below.size hg7;generalize w7.heap.size=B7 at hs9 hq9 hB7 ⊢;clear hw9 hg7 htg hfa3 ck cd cf;have hM9:Mk l B Wb Bf FA Ds w9:=hM3.fr (Q:=fun _ _=>True) (Fr.of_gr hg9) (fun _ _ _=>trivial);have lt3:∀{j:Nat}{o:Obj},W3.heap[j]?=some o->j<w9.heap.size:=fun h=>qN (qB.1 h).1 (by omega)
    have kb9:=(Below.block hg9 _ (qB.1 kb3).1).trans kb3;have kd9:=(Below.block hg9 _ (qB.1 kd3).1).trans kd3;have kf9:=(Below.block hg9 _ (qB.1 kf3).1).trans kf3;have hJ9:=hJ _ _ _ hJ3 (Fr.of_gr hg9);have hl9:∃r,w9.heap[l1]?=some (.loop r):=hl3.elim fun r hr=>⟨r,(Below.block hg9 _ (qB.1 hr).1).trans hr⟩
    have hfr9:Fr (jM w6.heap.size T (fun j=>j=wr.heap.size+2\/j=2)) W3 w9:=Fr.of_gr hg9;have hWb9:=lt3 hM3.yb;have hBf9:=lt3 hM3.fb;have hDs9:∀D∈Ds,D<w9.heap.size:=fun D hD=>lt3 (hM3.ms.2 D hD).2
    have hB9:B<=w9.heap.size:=by omega
    have h39:W3.heap.size<=w9.heap.size:=by omega
    have hbb:=lt3 kb3;have hbd:=lt3 kd3;have hbf:=lt3 kf3
    have mst9:∀{A A':World},Mk l B Wb Bf FA Ds A->Fr (yv w9.heap.size T) A A'->Mk l B Wb Bf FA Ds A':=fun h f=>h.fr f (fun k o hk=>by
     refine .inl ?_;rcases hk with rfl|rfl|hk|rfl|rfl
     ·exact hWb9
     ·exact hBf9
     ·exact hDs9 _ hk
     ·exact hM9.tb.2
     ·exact hM9.ct.2)
    generalize hTG:kN m wh own oth beh fc k (v7 wh k) f=tg at hq9 ⊢;have hfS:kF m wh own oth beh fc k f=(vD tg).flatMap (bE m wh beh k f):=by unfold kF;rw[hTG]
    clear hTG
    refine rj (l₀:=l1) (n:=9) hl9 (gf:=207) (lb:=#[.pointer (some ⟨B7,0,none⟩)]) rfl (enters_of Tryz.func207 (by kernel_rfl) rfl)
     (o0 tg B7 T w9 (qi hq9).1 hM9.tb.1) hTc (by rintro j (rfl|rfl);exact(by omega);exact hM9.tb.2) (Fr.refl _ _) (fun _=>rfl)
     (fun pre2 W=>(Mk l B Wb Bf FA Ds W/\W.heap[wr.heap.size]?=some (.cells #[.int .i64 (k:Int)] 3)/\W.heap[wr.heap.size+1]?=some (.cells #[.int .i64 (v7 wh k:Int)] 3)/\W.heap[Bx]?=some (.cells #[.int .i64 (f:Int)] 3)/\W.heap[B7]?=some (.cells #[.int .u64 (U tg)] 195))/\J (zH m wh own oth beh fc k++pre.flatMap (kF m wh own oth beh fc k)++pre2.flatMap (bE m wh beh k f)) W/\Fr (jM w6.heap.size T (fun j=>j=wr.heap.size+2\/j=2)) W3 W/\w9.heap.size<=W.heap.size)
     (fun c _ W=>c=.ret/\zY B Ds W/\(∃q,q <+: zH m wh own oth beh fc 6/\Jx q W)/\Fr (jM w6.heap.size T (fun j=>j=wr.heap.size+2\/j=2)) W3 W)
     ?sI2 ?sX2 ⟨⟨hM9,kb9,kd9,kf9,hq9⟩,by simpa using hJ9,hfr9,qL _⟩ ?rnd2 ?done2 ?stop2
    case sI2=>exact fun s A A' h f=>⟨⟨mst9 h.1.1 f,f.same _ _ h.1.2.1 (.inl hbb),f.same _ _ h.1.2.2.1 (.inl hbd),f.same _ _ h.1.2.2.2.1 (.inl hbf),f.same _ _ h.1.2.2.2.2 (.inl (by omega))⟩,qo hJ hB9 _ _ _ h.2.1 f,h.2.2.1.ext f (fun j o e _=>.inl (lt3 e)),q7 h.2.2.2 f.size⟩
    case sX2=>exact fun c s A A' h f=>⟨h.1,h.2.1.fr f (fun j o _ _ _ hj=>.inl (hDs9 _ hj)),h.2.2.1.elim fun q hq=>⟨q,hq.1,qo hJx hB9 _ _ _ hq.2 f⟩,h.2.2.2.ext f (fun j o e _=>.inl (lt3 e))⟩
    case done2 =>
     rintro WD ⟨⟨d1,d2,d3,_,_⟩,d4,d5,_⟩;refine⟨d5,d1,d2,d3,?_,d5.same _ _ ks3 (.inl (.inl rfl))⟩;rw[List.flatMap_append,<-qS];simpa[hfS]using d4
    case stop2 =>
     rintro c pre2 WD hp2 ⟨rfl,d1,d2,d3⟩;gi_wp2;exact⟨d3,rfl,d1,d2⟩
    case rnd2 =>
     intro l2 pre2 t W5 hbl2 hx2 hI5 hl5;have ht:=ui (C9 hx2);clear hI5 hl5;gi_wp2;refine⟨Fr.refl _ _,?_⟩;intro W6 _ hI6 hl6;obtain⟨⟨m6,kb6,kd6,kf6,kq6⟩,j6,fr6,sz6⟩:=hI6;have ck:=(qi kb6).1;have cf:=(qi kf6).1;have hfa6:yk Bf FA W6:=⟨(qB.1 m6.fb).1,fun j v hv=>by rw[cell_of_row _ _ _ _ _ _ m6.fb,Nat.zero_add,<-qO];exact hv⟩;have hlg:=qC (mf (qa hF') k f t hlt hf ht W6 m6.tb);have hts:bE m wh beh k f t=if kE m wh beh k f t then xT (decide (k=0)) f t else[]:=rfl
     have hpre:zH m wh own oth beh fc k++pre.flatMap (kF m wh own oth beh fc k)++pre2.flatMap (bE m wh beh k f)++bE m wh beh k f t <+: zH m wh own oth beh fc 6:=by
      have h1:=qx0 (bE m wh beh k f) hx2;rw[<-hfS]at h1;have h2:=qx0 (kF m wh own oth beh fc k) hx;have h3:=oP m wh own oth beh fc hlt;rw[qS,qS];refine((List.prefix_append_right_inj _).2 (((List.prefix_append_right_inj _).2 h1).trans h2)).trans h3
     have key:∀W',Gr W6 W'->(Mk l B Wb Bf FA Ds W'/\W'.heap[wr.heap.size]?=some (.cells #[.int .i64 (k:Int)] 3)/\W'.heap[wr.heap.size+1]?=some (.cells #[.int .i64 (v7 wh k:Int)] 3)/\W'.heap[Bx]?=some (.cells #[.int .i64 (f:Int)] 3)/\W'.heap[B7]?=some (.cells #[.int .u64 (U tg)] 195))/\J (zH m wh own oth beh fc k++pre.flatMap (kF m wh own oth beh fc k)++pre2.flatMap (bE m wh beh k f)) W'/\Fr (jM w6.heap.size T (fun j=>j=wr.heap.size+2\/j=2)) W3 W'/\w9.heap.size<=W'.heap.size:=fun W' hg=>by
      have f':Fr (fun _ _=>True) W6 W':=Fr.of_gr hg;exact⟨⟨m6.fr f' (fun _ _ _=>trivial),f'.same _ _ kb6 trivial,f'.same _ _ kd6 trivial,f'.same _ _ kf6 trivial,f'.same _ _ kq6 trivial⟩,hJ _ _ _ j6 (Fr.of_gr hg),fr6.ext f' (fun _ _ _ _=>trivial),q7 sz6 f'.size⟩
     have key':=qC key;have hpre':=qC hpre;clear key hpre;generalize hdn:zH m wh own oth beh fc k++pre.flatMap (kF m wh own oth beh fc k)++pre2.flatMap (bE m wh beh k f)=dn at key' hpre';have hdn':=qC hdn;clear hdn j6 fr6 kq6;cases hL:kE m wh beh k f t
     ·rw[hL]at hlg hts;have hts':=qC hts;clear hts
      gi_wp2_with (first
       | (refine jl rfl _ rfl Bf rfl (qa hz20) hfa6 ?_)
       | (refine⟨trivial,?_⟩;gi_at_call 134;refine(CallsIn.inRound l2 (callsIn_wide.2 (qa hlg))).mono ?_;rintro e wl ⟨rfl,hgl⟩)
       | (with_reducible refine And.intro (zw _) ?_))
      obtain⟨ys,y6,y7,y8⟩:=qa key' wl hgl;have hts2:bE m wh beh k f t=[]:=by rw[qa hts'];rfl
      refine⟨Fr.of_gr hgl,ys,?_,y7,y8⟩;rw[List.flatMap_append,<-qS,qa hdn'];simpa[hts2]using y6
     ·rw[hL]at hlg hts;have hts':=qC hts;clear hts
      gi_wp2_with (first
       | (refine jl rfl _ rfl Bf rfl (qa hz20) hfa6 ?_)
       | (refine⟨trivial,?_⟩;gi_at_call 134;refine(CallsIn.inRound l2 (callsIn_wide.2 (qa hlg))).mono ?_;rintro e wl ⟨rfl,hgl⟩;obtain⟨⟨y1,y2,y3,y4,y5⟩,y6,y7,y8⟩:=qa key' wl hgl;have c1:=(qi y2).1;have c2:=(qi y4).1;have c3:=(qi y1.yb).1))
      have nT:∀c ty fr,ty≠87->¬ T (.cells c ty fr):=fun c ty fr hne h=>by
       obtain⟨c',fr',e⟩:=hTm _ h;cases e;exact hne rfl
      have hts2:bE m wh beh k f t=xT (decide (k=0)) f t:=by rw[qa hts'];rfl
      have hpr2:=qa hpre';rw[hts2]at hpr2;have hBwr:B<=wr.heap.size:=by have:=(qB.1 (qa hM').yb).1;omega
      refine⟨trivial,CallsIn.inRound l2 (callsIn_wide.2 ((AM k f t hlt ht l B T (fun j=>j=Bp\/j=2\/j=3) (fun c fr=>nT _ _ _ (by decide)) J Jx hJ (zH m wh own oth beh fc 6) dn hpr2 (qa hY') wl (by omega) y6).mono ?_))⟩;intro e wy hyy;obtain⟨fy,hyy⟩:=hyy
      have fc1:Fr (jM w9.heap.size T (fun j=>j=B7\/j=2)) W6 wy:=(Fr.of_gr hgl:Fr _ W6 wl).trans (fy.mono fun j o ej hj=>by
       rcases hj with(rfl|rfl)|hj
       ·rw[y5]at ej;cases ej;exact .inr ⟨by omega,nT _ _ _ (by decide)⟩
       ·exact .inl (.inr (.inl rfl))
       ·exact .inr ⟨by omega,hj.2⟩)
      have fc2:Fr (jM w6.heap.size T (fun j=>j=wr.heap.size+2\/j=2)) W3 wy:=y7.ext fy (fun j o ej hj=>by
       rcases hj with(rfl|rfl)|hj
       ·rw[ks3]at ej;cases ej;exact .inr ⟨by omega,nT _ _ _ (by decide)⟩
       ·exact .inl (.inr (.inl rfl))
       ·exact .inr ⟨by omega,hj.2⟩)
      have my:zY B Ds wy:=y1.ms.fr fy (fun j o hj hc _ _=>.inr ⟨hj,fun h=>by rw[hTc _ h]at hc;cases hc⟩);rcases hyy with⟨rfl,hJy⟩|⟨rfl,q,hq1,hq2⟩
      ·gi_wp2;refine⟨fc1,⟨⟨fy.same _ _ y1.yb (.inr ⟨by omega,nT _ _ _ (by decide)⟩),fy.same _ _ y1.fb (.inr ⟨by omega,nT _ _ _ (by decide)⟩),my,y1.tb.fr fy (fun _=>.inl (.inr (.inl rfl))),y1.ct.fr fy (fun _=>.inl (.inr (.inr rfl)))⟩,fy.same _ _ y2 (.inr ⟨by omega,nT _ _ _ (by decide)⟩),fy.same _ _ y3 (.inr ⟨by omega,nT _ _ _ (by decide)⟩),fy.same _ _ y4 (.inr ⟨by omega,nT _ _ _ (by decide)⟩),fy.same _ _ y5 (.inr ⟨by omega,nT _ _ _ (by decide)⟩)⟩,?_,fc2,q7 y8 fy.size⟩;rw[List.flatMap_append,<-qS,qa hdn'];simpa[hts2]using hJy
      ·gi_wp2;exact⟨fc1,rfl,my,⟨q,hq1,hq2⟩,fc2⟩
  ·refine wpIn_wide.2 ?_;have hk6:k=6:=by omega
   subst hk6;have hge:Hid (LeavesInM Fence.wide 9 Tryz.prog Tryz.f128 #[.func (.yield l) #[] #[],.pointer (some ⟨Bp,0,none⟩),.pointer (some ⟨Wb,0,none⟩),.pointer (some ⟨Bf,0,none⟩),u4,u5,u6,u7,.agg PA,.agg FA,.pointer (some ⟨Bf,12,none⟩),.bool wh,.agg (zR (!wh)),.int .i64 6,.bool false,u15,u16,u17,u18,u19,u20,u21,u22,u23,u24,u25,u26,u27,u28,u29,u30,u31,u32,u33,u34,u35,u36,u37,u38,u39,u40,u41,u42,u43,u44,u45,u46,u47] (fun e W'=>(∃v,e=.returned v)/\(J (zH m wh own oth beh fc 6) W'\/∃pre,pre <+: zH m wh own oth beh fc 6/\Jx pre W')) (Ds.map uK) .returning wr):=qC (xc (T:=T) Tryz.results128 hTc Ds wr hM.ms (fun v w' f=>⟨⟨v,rfl⟩,.inl (hJ _ _ _ hJk f)⟩));go_wp2_with fail;exact qa hge
theorem It.mono{α:Type}{P:Program}{g:Nat}{lb:Array Value}{encs:α->Array Value}{T:Obj->Prop}{C C':Nat->Prop}{xs:List α}{w:World}(h:It P g lb encs T C xs w)(hC:∀k,C k->C' k):It P g lb encs T C' xs w :=
 fun l B J Jx W f0 hB hJ hJx hY h0=>h l B J Jx W (f0.mono fun k _ _ q=>hC k q) hB hJ hJx (fun pre x W1 hx hj=>(hY pre x W1 hx hj).mono fun _ _ r=>⟨r.1.mono fun k _ _ q=>q.elim (fun q=>.inl (hC k q)) .inr,r.2⟩) h0
theorem qm{V:World}{b:Nat}{x y z:Value}{t:TypeId}{fr:Nat × Nat}(h:V.heap[b]?=some (.cells #[x,y,z] t fr)):V.cell? ⟨b,0,none⟩=some x/\V.cell? ⟨b,1,none⟩=some y/\V.cell? ⟨b,2,none⟩=some z:=by
 refine⟨?_,?_,?_⟩<;>simp[World.cell?,h]
theorem qx1{α:Type}{pre xs:List α}{x:α}(p:α->Bool)(h:pre++[x] <+: xs)(hp:p x=true):pre.filter p++[x] <+: xs.filter p:=by
 obtain⟨r,rfl⟩:=h;rw[List.filter_append,List.filter_append];simp[hp]
theorem qkg{g gf:Nat}{lb lf:Array Value}{T:Obj->Prop}{C:Nat->Prop}{xs:List Mv}{w:World}(hit:It Tryz.prog g lb vr T C xs w)(heg:∀args w,(callFunc g args).run Tryz.prog w=.ok (.enter g args) w)(hef:∀args w,(callFunc gf args).run Tryz.prog w=.ok (.enter gf args) w)
  (hTc:∀o,T o->o.isCells=true) (hTy:∀c fr,¬ T (.cells c 143 fr)) (hCb:∀k,C k->k<w.heap.size) (Bt Bf:Nat) (p:Mv->Bool) (hth:w.heap[Bt]?=some (.cells #[.func (.func g) #[] lb] 141)) (hfi:w.heap[Bf]?=some (.cells #[.func (.func gf) #[] lf] 143))
  (hfit:∀x∈xs,∀W,Fr (fun k _=>C k) w W->Calls Tryz.prog gf (#[gJ x]++lf) W fun e W'=>e=.returned (.bool (p x))/\Gr W W') :
  It Tryz.prog 155 #[.pointer (some ⟨Bt,0,none⟩),.pointer (some ⟨Bf,0,none⟩)] vr T (fun k=>C k\/k=Bt\/k=Bf) (xs.filter p) w:=by
 intro l B J Jx W f0 hB hJ hJx hY h0;have hth':=f0.same _ _ hth (.inr (.inl rfl));have hfi':=f0.same _ _ hfi (.inr (.inr rfl));have hbt:=(qB.1 hth).1;have hbf:=(qB.1 hfi).1;refine(callsIn_wide (n:=9)).1 ?_;refine callsIn_of_wp_marks Tryz.func155 rfl trivial ?_ rfl;simp only[Tryz.ntmps155,List.size_toArray,List.length_cons,List.length_nil,Nat.reduceAdd,Nat.reduceSub,Array.replicate_succ,Array.replicate_zero,List.push_toArray,List.append_toArray,List.nil_append,List.cons_append];have cth:(W.alloc (.cells #[.func (.yield l) #[] #[]] 143)).cell? ⟨Bt,0,none⟩=some (.func (.func g) #[] lb):=(qi ((Below.heap_alloc W _ _ (qB.1 hth').1).trans hth')).1;gi_wp2;have hyb:=World.alloc_heap_new W (.cells #[.func (.yield l) #[] #[]] 143);have f1:∀Q:Nat->Obj->Prop,Fr Q W (W.alloc (.cells #[.func (.yield l) #[] #[]] 143)):=fun Q=>(Fr.refl _ _).alloc _
 have hs1:(W.alloc (.cells #[.func (.yield l) #[] #[]] 143)).heap.size=W.heap.size+1:=World.size_alloc _ _;generalize (W.alloc (.cells #[.func (.yield l) #[] #[]] 143))=w1 at cth hyb f1 hs1 ⊢;have hJ1:=hJ _ _ _ h0 (f1 _);have f01:=f0.trans (f1 _);have hww:=f0.size;clear cth hth' hfi' f1
 refine xj (n:=9) (gf:=g) (lb:=lb) rfl heg (hit.mono (C':=fun k=>C k\/k=Bt\/k=Bf) (fun k h=>.inl h)) hTc (by rintro k (hk|rfl|rfl);exact(by have:=hCb k hk;omega);exact(by omega);exact(by omega)) f01 (fun _=>rfl)
  (fun pre V=>V.heap[W.heap.size]?=some (.cells #[.func (.yield l) #[] #[]] 143)/\J (pre.filter p) V/\Fr (fun k _=>C k\/k=Bt\/k=Bf) w V)
  (fun c _ V=>c=.ret/\∃q,q <+: xs.filter p/\Jx q V)
  ?sI ?sX ⟨hyb,hJ1,f01⟩ ?rnd ?done ?stop
 case sI=>exact fun s A A' h f=>⟨f.same _ _ h.1 (.inl (by omega)),qo hJ (by omega) _ _ _ h.2.1 f,h.2.2.ext f (fun k o e _=>.inl (by have:=(qB.1 e).1;omega))⟩
 case sX=>exact fun c s A A' h f=>⟨h.1,h.2.elim fun q hq=>⟨q,hq.1,qo hJx (by omega) _ _ _ hq.2 f⟩⟩
 case done =>
  rintro D V hD ⟨_,hj,_⟩ hK;gi_wp2;exact xc (T:=T) Tryz.results155 hTc [D] V ⟨by simp,fun D' hD'=>by rw[qT]at hD';subst hD';exact⟨by omega,hK⟩⟩ (fun v w' f=>⟨⟨v,rfl⟩,.inl (hJ _ _ _ hj f)⟩)
 case stop =>
  rintro D c pre V hD _ ⟨rfl,q,hq1,hq2⟩ hK;gi_wp2;exact xc (T:=T) Tryz.results155 hTc [D] V ⟨by simp,fun D' hD'=>by rw[qT]at hD';subst hD';exact⟨by omega,hK⟩⟩ (fun v w' f=>⟨⟨v,rfl⟩,.inr ⟨q,hq1,hJx _ _ _ hq2 f⟩⟩)
 case rnd =>
  rintro l1 pre ⟨fr,tt,u⟩ V hbl hx ⟨hy,hj,hfw⟩ hl;have hl':l1<V.heap.size:=hl.elim fun r hr=>(qB.1 hr).1
  simp only[vr,gJ];gi_wp2;refine⟨(Fr.refl _ _).alloc _,?_⟩;intro V2 f2 hI2 hl2;obtain⟨hy2,hj2,hfw2⟩:=hI2;have kx:V2.heap[V.heap.size]?=some (.cells #[.int .i64 (fr:Int),.int .i64 (tt:Int),.int .u8 (u.toNat:Int)] 87):=f2.same _ _ (World.alloc_heap_new V _) (by omega);generalize V.heap.size=Bx at kx ⊢;obtain⟨x0,x1,x2⟩:=qm kx;have kfi:=hfw2.same _ _ hfi (.inr (.inr rfl));have cfi:=(qi kfi).1;have hc:=qC (hfit (fr,tt,u) (C9 hx) V2 (hfw2.mono fun k _ _ q=>.inl q));simp only[gJ]at hc;have keep:∀V3,Gr V2 V3->V3.heap[W.heap.size]?=some (.cells #[.func (.yield l) #[] #[]] 143)/\J (pre.filter p) V3/\Fr (fun k _=>C k\/k=Bt\/k=Bf) w V3:=fun V3 hg=>⟨(Below.block hg _ (qB.1 hy2).1).trans hy2,hJ _ _ _ hj2 (Fr.of_gr hg),hfw2.ext (Fr.of_gr (Q:=fun _ _=>True) hg) (fun _ _ _ _=>trivial)⟩
  cases hp:p (fr,tt,u)
  ·rw[hp]at hc;gi_wp2;refine⟨trivial,CallsIn.inRound l1 (callsIn_wide.2 ((qa hc).mono ?_))⟩;rintro e V3 ⟨rfl,hg⟩;gi_wp2;refine⟨fun _ h=>(by cases h),?_⟩;gi_wp2;obtain⟨z1,z2,z3⟩:=keep V3 hg;refine⟨Fr.of_gr hg,z1,?_,z3⟩;rw[List.filter_append];simpa[hp]using z2
  ·rw[hp]at hc;gi_wp2;refine⟨trivial,CallsIn.inRound l1 (callsIn_wide.2 ((qa hc).mono ?_))⟩;rintro e V3 ⟨rfl,hg⟩;obtain⟨z1,z2,z3⟩:=keep V3 hg;have c3:=(qi z1).1;obtain⟨q0,q1,q2⟩:=qm ((Below.block hg _ (qB.1 kx).1).trans kx);obtain⟨fn,tmps,assign,body,hyy,hR⟩:=jb (m':=8) (hY (pre.filter p) (fr,tt,u) V3 (qx1 p hx hp) z2);have hy':(Instr.yield l #[.agg #[.int .i64 (fr:Int),.int .i64 (tt:Int),.int .u8 (u.toNat:Int)]]).run Tryz.prog V3=.ok (.round l fn tmps assign body) V3:=hyy;clear hyy;gi_wp2;have hR':RoundIn (Fence.wide.inRound l1) 8 Tryz.prog l fn tmps assign body V3 (fun e W'=>Fr (jM B T (fun k=>C k\/k=Bt\/k=Bf)) V3 W'/\((e=.returned (.bool true)/\J (pre.filter p++[(fr,tt,u)]) W')\/(e=.returned (.bool false)/\Jx (pre.filter p++[(fr,tt,u)]) W'))):=hR;clear hR;refine hR'.mono ?_;intro e V4 h4;obtain⟨f4,h4⟩:=h4;have fc1:Fr (jM w1.heap.size T (fun k=>C k\/k=Bt\/k=Bf)) V2 V4:=(Fr.of_gr hg:Fr _ V2 V3).trans (f4.mono fun k o _ q=>q.elim .inl fun q=>.inr ⟨by omega,q.2⟩);rcases h4 with⟨rfl,hJ4⟩|⟨rfl,hx4⟩
   ·gi_wp2;refine⟨fc1,f4.same _ _ z1 (.inr ⟨hB,hTy _ _⟩),?_,z3.ext f4 (fun k o _ q=>.inl q)⟩;rw[List.filter_append];simpa[hp]using hJ4
   ·gi_wp2;exact⟨fc1,rfl,_,qx1 p hx hp,hx4⟩
end Go.Proofs.YtnfakamfmkhlbabGreatDoor.C
