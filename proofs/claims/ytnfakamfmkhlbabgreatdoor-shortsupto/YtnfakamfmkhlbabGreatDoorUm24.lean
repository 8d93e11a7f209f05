import Derived.Test.YtnfakamfmkhlbabGreatDoorUm23
import Derived.ChangeKeysEq
import Derived.Test.YtnfakamfmkhlbabGreatDoorKz2
set_option maxRecDepth 100000
set_option maxHeartbeats 4000000
set_option linter.unusedSimpArgs false
namespace Go.Proofs.YtnfakamfmkhlbabGreatDoor.C
open Go.ChangeShapes Go.WideShapes Go.ChangeAt Go.RowKit Go.Shelf Go.Proofs.YtnfakamfmkhlbabGreatDoor.P
section
attribute [local go_sem] qd qe Oper.semAt_some
theorem It.later{α:Type}{P:Program}{g:Nat}{lb:Array Value}{encs:α->Array Value}{T:Obj->Prop}{C:Nat->Prop}{xs:List α}{w w':World}(h:It P g lb encs T C xs w)(f:Fr (fun k _=>C k) w w'):It P g lb encs T C xs w' :=
 fun l B J Jx W f0 hB hJ hJx hY h0=>h l B J Jx W (f.trans f0) hB hJ hJx hY h0
theorem pu(tmps:Array Value)(w:World)(b:Nat)(x y z v:Value)(hp:tmps.getD 2 undef=.pointer (some ⟨b,0,none⟩))(hq:tmps.getD 3 undef=.pointer (some ⟨b+1,0,none⟩))(hc:w.heap[b]?=some (.cells #[x,y,z] 87))(hd:w.heap[b+1]?=some (.cells #[v] 4)):(results Tryz.f66 tmps).run Tryz.prog w=.ok (.tuple #[.agg #[x,y,z],v]) w:=by
 have hp':tmps[2]?.getD undef=.pointer (some ⟨b,0,none⟩):=by simpa using hp
 have hq':tmps[3]?.getD undef=.pointer (some ⟨b+1,0,none⟩):=by simpa using hq
 obtain⟨c0,c1,c2⟩:=qm hc;have c3:=(qi hd).1;simp[results,Tryz.results66,hp',hq',asAddr,go_sem,c0,c1,c2,c3]
theorem sr:(Tryz.prog.info? 87).map (·.size)=some 3:=by kernel_rfl
theorem qjb{F:Fence}{n:Nat}{ops:Array Oper}{rest:List Oper}{o:Oper}{a:Act}{w:World}{Q:Exit->Act->World->Prop}(hg:o.guard=none)(x y:Operand)(ho:o.op=.store 87 x y)(b:Nat)(cells:Array Value)(hx:a.eval x=.pointer (some ⟨b,0,none⟩))(hy:a.eval y=.agg cells)(old:Array Value)(hh:w.heap[b]?=some (.cells old 87))(hz:old.size=3)(hc:cells.size=3)(h1:cells.all (·.oneCell')=true)
  (h:wpListIn F n Tryz.prog ops Q rest (a.put o.dst undef) (w.setRow b cells)):wpListIn F n Tryz.prog ops Q (o :: rest) a w :=
 wpListIn_plain hg fun K hK=>by
  refine⟨fun f hf=>?_,?_⟩
  ·simp[Oper.about,ho]at hf
  ·rw[Oper.semAt_eq _ _ _ (by rw[ho];intro c e;cases e)]
   have hr:(execOp a.eval o).run Tryz.prog w=.ok .skip (w.setRow b cells):=by
    have:=run_storeVar_row (P:=Tryz.prog) w b 87 87 old cells hh (by rw[sr,hc]) (by omega) h1;unfold execOp;simp only[ho,hx,hy,Instr.storeAt,Instr.sureAddr,Sem.run_bind,Sem.run_pure,Result.andThen_ok,this]
   rw[hr];exact hK _ _ h
theorem qzv{g:Nat}{lb:Array Value}{C:Nat->Prop}{xs:List Mv}{w:World}(hit:It Tryz.prog g lb vr (fun _=>False) C xs w)(heg:∀args w,(callFunc g args).run Tryz.prog w=.ok (.enter g args) w)(hCb:∀k,C k->k<w.heap.size) :
  Calls Tryz.prog 66 #[.func (.func g) #[] lb] w fun e w'=>e=.returned (.tuple #[gJ (xs.headD (0,0,0)),.bool (!xs.isEmpty)])/\Gr w w':=by
 refine(callsIn_wide (n:=9)).1 ?_;refine callsIn_of_wp_marks Tryz.func66 rfl trivial ?_ rfl;simp only[Tryz.ntmps66,List.size_toArray,List.length_cons,List.length_nil,Nat.reduceAdd,Nat.reduceSub,Array.replicate_succ,Array.replicate_zero,List.push_toArray,List.append_toArray,List.nil_append,List.cons_append];refine wpIn_wide.2 ?_;go_wp2_with fail;obtain⟨h1,h2⟩:=x6 w (.cells #[.int .i64 0,.int .i64 0,.int .u8 0] 87) (.cells #[.bool false] 4);have hg2:Gr w ((w.alloc (.cells #[.int .i64 0,.int .i64 0,.int .u8 0] 87)).alloc (.cells #[.bool false] 4)):=((Gr.refl w).alloc _ _).alloc _ _;have hs2:((w.alloc (.cells #[.int .i64 0,.int .i64 0,.int .u8 0] 87)).alloc (.cells #[.bool false] 4)).heap.size=w.heap.size+2:=by simp
 generalize ((w.alloc (.cells #[.int .i64 0,.int .i64 0,.int .u8 0] 87)).alloc (.cells #[.bool false] 4))=w2 at h1 h2 hg2 hs2 ⊢
 refine wpIn_wide.1 (xj (n:=9) (gf:=g) (lb:=lb) rfl heg hit (fun _ h=>h.elim) (fun k hk=>by have:=hCb k hk;omega) (Fr.of_gr hg2) (fun _=>rfl)
  (fun pre V=>pre=[]/\V.heap[w.heap.size]?=some (.cells #[.int .i64 0,.int .i64 0,.int .u8 0] 87)/\V.heap[w.heap.size+1]?=some (.cells #[.bool false] 4)/\Gr w V/\w2.heap.size<=V.heap.size)
  (fun c pre V=>c=.ret/\∃x,pre=[x]/\V.heap[w.heap.size]?=some (.cells (pU x) 87)/\V.heap[w.heap.size+1]?=some (.cells #[.bool true] 4)/\Gr w V/\w2.heap.size<=V.heap.size)
  ?sI ?sX ⟨rfl,h1,h2,hg2,qL _⟩ ?rnd ?done ?stop)
 case sI=>exact fun s A A' h f=>⟨h.1,f.same _ _ h.2.1 (.inl (by omega)),f.same _ _ h.2.2.1 (.inl (by omega)),Below.trans h.2.2.2.1 (f.below (n:=w.heap.size) (Below.size h.2.2.2.1) (fun k o hk=>.inl (by omega))),q7 h.2.2.2.2 f.size⟩
 case sX=>exact fun c s A A' h f=>⟨h.1,h.2.elim fun x hx=>⟨x,hx.1,f.same _ _ hx.2.1 (.inl (by omega)),f.same _ _ hx.2.2.1 (.inl (by omega)),Below.trans hx.2.2.2.1 (f.below (n:=w.heap.size) (Below.size hx.2.2.2.1) (fun k o hk=>.inl (by omega))),q7 hx.2.2.2.2 f.size⟩⟩
 case done =>
  rintro D V hD ⟨hnil,k1,k2,hg,hsz⟩ hK;subst hnil;have ha:∀j o,V.heap[j]?=some o->(V.alloc (.cells #[.int .i64 0,.int .i64 0,.int .u8 0] 87)).heap[j]?=some o:=fun j o h=>(Below.heap_alloc V _ _ (qB.1 h).1).trans h
  have k1':=ha _ _ k1;have k2':=ha _ _ k2;have hK':=ha _ _ hK;have hgV:Gr w (V.alloc (.cells #[.int .i64 0,.int .i64 0,.int .u8 0] 87)):=hg.alloc _ _;have k1r:((V.alloc (.cells #[.int .i64 0,.int .i64 0,.int .u8 0] 87)).setRow w.heap.size #[.int .i64 0,.int .i64 0,.int .u8 0]).heap[w.heap.size]?=some (.cells #[.int .i64 0,.int .i64 0,.int .u8 0] 87):=setRow_heap _ _ _ _ _ _ k1';have k2r:((V.alloc (.cells #[.int .i64 0,.int .i64 0,.int .u8 0] 87)).setRow w.heap.size #[.int .i64 0,.int .i64 0,.int .u8 0]).heap[w.heap.size+1]?=some (.cells #[.bool false] 4):=by rw[setRow_other _ _ _ _ (by omega)];exact k2'
  have kDr:((V.alloc (.cells #[.int .i64 0,.int .i64 0,.int .u8 0] 87)).setRow w.heap.size #[.int .i64 0,.int .i64 0,.int .u8 0]).heap[D]?=some (.deferred (some [])):=by rw[setRow_other _ _ _ _ (by omega)];exact hK'
  have hgr:Gr w ((V.alloc (.cells #[.int .i64 0,.int .i64 0,.int .u8 0] 87)).setRow w.heap.size #[.int .i64 0,.int .i64 0,.int .u8 0]):=hgV.setRow _ (qL _) _;obtain⟨c3,c4⟩:=qi k2r;go_wp2_with(refine wpList_store_row rfl 87 _ _ rfl w.heap.size #[.int .i64 0,.int .i64 0,.int .u8 0] rfl rfl 87 _ k1' sr rfl (by simp[Value.oneCell']) ?_);generalize ((V.alloc (.cells #[.int .i64 0,.int .i64 0,.int .u8 0] 87)).setRow w.heap.size #[.int .i64 0,.int .i64 0,.int .u8 0])=X at k1r k2r kDr hgr ⊢;have kD2:(X.setCell ⟨w.heap.size+1,0,none⟩ (.bool false)).heap[D]?=some (.deferred (some [])):=(KeepsOthers.setCell X ⟨w.heap.size+1,0,none⟩ (.bool false)).same D _ kDr rfl;refine⟨by simp,.inl ⟨_,_,rfl,run_takeDeferred kD2,?_⟩⟩;exact⟨_,pu _ _ w.heap.size _ _ _ _ rfl rfl (DA (by rw[Below.heap_setCell _ _ _ _ (by simp)];exact k1r) (by omega)) (DA (jm k2r) (by omega)),rfl,Below.trans (Below.setCell hgr (show w.heap.size<=w.heap.size+1 by omega) _) (belowK_b (w:=w2) (n₀:=w.heap.size) (by omega) _ D _ _ hD kD2 rfl rfl)⟩
 case stop =>
  rintro D c pre V hD hpre ⟨rfl,x,rfl,k1,k2,hg,hsz⟩ hK;refine wpIn_wide.2 ?_;go_wp2_with fail
  have e1:xs.headD (0,0,0)=x/\xs.isEmpty=false:=by
   obtain⟨r,rfl⟩:=hpre;exact⟨rfl,rfl⟩
  refine⟨by simp,.inl ⟨_,_,rfl,run_takeDeferred hK,?_⟩⟩;exact⟨_,pu _ _ w.heap.size _ _ _ _ rfl rfl (DA k1 (by omega)) (DA k2 (by omega)),by rw[e1.1,e1.2];rfl,Below.trans hg (belowK_b (w:=w2) (n₀:=w.heap.size) (by omega) _ D _ _ hD hK rfl rfl)⟩
 case rnd =>
  rintro l1 pre ⟨fr,tt,u⟩ V hbl hx ⟨hnil,k1,k2,hg,hsz⟩ hl;subst hnil;have hl':l1<V.heap.size:=hl.elim fun r hr=>(qB.1 hr).1
  simp only[vr,gJ];gi_wp2;refine⟨(Fr.refl _ _).alloc _,?_⟩;intro V2 f2 hI2 hl2;obtain⟨_,k1,k2,hg,hsz⟩:=hI2;have kx:V2.heap[V.heap.size]?=some (.cells #[.int .i64 (fr:Int),.int .i64 (tt:Int),.int .u8 (u.toNat:Int)] 87):=f2.same _ _ (World.alloc_heap_new V _) (by omega);have hVs:w2.heap.size<=V.heap.size:=by omega
  generalize V.heap.size=Bx at kx hVs ⊢;obtain⟨x0,x1,x2⟩:=qm kx;have k2r:(V2.setRow w.heap.size #[.int .i64 (fr:Int),.int .i64 (tt:Int),.int .u8 (u.toNat:Int)]).heap[w.heap.size+1]?=some (.cells #[.bool false] 4):=by rw[setRow_other _ _ _ _ (by omega)];exact k2
  have k1r:(V2.setRow w.heap.size #[.int .i64 (fr:Int),.int .i64 (tt:Int),.int .u8 (u.toNat:Int)]).heap[w.heap.size]?=some (.cells #[.int .i64 (fr:Int),.int .i64 (tt:Int),.int .u8 (u.toNat:Int)] 87):=setRow_heap _ _ _ _ _ _ k1;obtain⟨c3,c4⟩:=qi k2r;have hgr:Gr w (V2.setRow w.heap.size #[.int .i64 (fr:Int),.int .i64 (tt:Int),.int .u8 (u.toNat:Int)]):=hg.setRow _ (qL _) _
  have frr:Fr (jM w2.heap.size (fun _=>False) C) V2 (V2.setRow w.heap.size #[.int .i64 (fr:Int),.int .i64 (tt:Int),.int .u8 (u.toNat:Int)]):=⟨rfl,rfl,rfl,by rw[size_setRow];exact qL _,fun k o e q=>by
   rw[setRow_other _ _ _ _ (by
    rintro rfl;rcases q with q|q
    ·have:=hCb _ q;omega
    ·omega)];exact e⟩
  gi_wp2_with (refine qjb rfl _ _ rfl w.heap.size #[.int .i64 (fr:Int),.int .i64 (tt:Int),.int .u8 (u.toNat:Int)] rfl rfl _ k1 rfl rfl (by simp[Value.oneCell']) ?_);generalize (V2.setRow w.heap.size #[.int .i64 (fr:Int),.int .i64 (tt:Int),.int .u8 (u.toNat:Int)])=X at k1r k2r hgr frr ⊢;refine⟨frr.setCell _ ?_,rfl,(fr,tt,u),rfl,?_,jm k2r,Below.setCell hgr (show w.heap.size<=w.heap.size+1 by omega) _,?_⟩
  ·rintro o-(q|q)
   ·have:=hCb _ q;simp at this;omega
   ·have:=q.1;simp at this;omega
  ·rw[Below.heap_setCell _ _ _ _ (by simp)];exact k1r
  ·have:=frr.size;simp[World.setCell];omega
end
section
attribute [local go_sem] qd qe
theorem tC(x y:Mv)(Bw:Nat)(w:World)(h:w.heap[Bw]?=some (.cells (pU y) 87)):Calls Tryz.prog 201 #[gJ x,.pointer (some ⟨Bw,0,none⟩)] w fun e w'=>e=.returned (.bool (x==y))/\Gr w w':=by
 obtain⟨f,t,u⟩:=x;obtain⟨f',t',u'⟩:=y;have h':(w.alloc (.cells #[.int .i64 (f:Int),.int .i64 (t:Int),.int .u8 (u.toNat:Int)] 87)).heap[Bw]?=some (.cells #[.int .i64 (f':Int),.int .i64 (t':Int),.int .u8 (u'.toNat:Int)] 87):=(Below.heap_alloc w _ _ (qB.1 h).1).trans h;obtain⟨c0,c1,c2⟩:=qm h';simp only[gJ];by_cases hf:f=f'
 ·subst hf;by_cases ht:t=t'
  ·subst ht;by_cases hu:u=u'
   ·subst hu;have hb:(((f,t,u):Mv)==(f,t,u))=true:=by simp
    rw[hb];go_enter Tryz.func201,Tryz.ntmps201;go_wp2_with fail;go_ret;exact⟨rfl,(Gr.refl w).alloc _ _⟩
   ·have hb:(((f,t,u):Mv)==(f,t,u'))=false:=by simp[hu]
    have hne:(u.toNat:Int)≠(u'.toNat:Int):=fun e=>hu (q6.1 (by omega))
    rw[hb];clear hb hu;go_enter Tryz.func201,Tryz.ntmps201;go_wp2_with fail;go_ret;exact⟨rfl,(Gr.refl w).alloc _ _⟩
  ·have hb:(((f,t,u):Mv)==(f,t',u'))=false:=by simp[ht]
   have hne:(t:Int)≠(t':Int):=by omega
   rw[hb];clear hb ht;go_enter Tryz.func201,Tryz.ntmps201;go_wp2_with fail;go_ret;exact⟨rfl,(Gr.refl w).alloc _ _⟩
 ·have hb:(((f,t,u):Mv)==(f',t',u'))=false:=by simp[hf]
  have hne:(f:Int)≠(f':Int):=by omega
  rw[hb];clear hb hf;go_enter Tryz.func201,Tryz.ntmps201;go_wp2_with fail;go_ret;exact⟨rfl,(Gr.refl w).alloc _ _⟩
structure cR(g:Nat)(lb:Array Value)(Bw Bt:Nat)(W:World):Prop where
 th:W.heap[Bt]?=some (.cells #[.func (.func g) #[] lb] 141)
 fi:W.heap[Bt+1]?=some (.cells #[.func (.func 201) #[] #[.pointer (some ⟨Bw,0,none⟩)]] 143)
 le:Bw<W.heap.size
theorem cR.gr{g:Nat}{lb:Array Value}{Bw Bt:Nat}{W W':World}(h:cR g lb Bw Bt W)(hg:Gr W W'):cR g lb Bw Bt W' :=
 ⟨(Below.block hg _ (qB.1 h.th).1).trans h.th,(Below.block hg _ (qB.1 h.fi).1).trans h.fi,qN h.le (Below.size hg)⟩
theorem B0{g:Nat}{lb:Array Value}{C:Nat->Prop}{xs:List Mv}{w:World}(hit:It Tryz.prog g lb vr (fun _=>False) C xs w)(heg:∀args w,(callFunc g args).run Tryz.prog w=.ok (.enter g args) w)(hCb:∀k,C k->k<w.heap.size)(y:Mv) :
  Calls Tryz.prog 119 #[.func (.func g) #[] lb,gJ y] w fun e w'=>e=.returned (.bool (xs.any fun x=>x==y))/\Gr w w':=by
 have hmf:∀(fn:Fn)(first cap:Array Value)(w:World),(Instr.makeFunc fn first cap).run Tryz.prog w=.ok (.func fn first cap) w:=fun _ _ _ _=>rfl
 obtain⟨f,t,u⟩:=y;generalize hy:((f,t,u):Mv)=y;have hv:gJ y=.agg #[.int .i64 (f:Int),.int .i64 (t:Int),.int .u8 (u.toNat:Int)]:=by rw[<-hy];rfl
 rw[hv];go_enter Tryz.func119,Tryz.ntmps119;go_upto_region 1 with fail;obtain⟨w1,hw1⟩:∃w1,w1=w.alloc (.cells #[.int .i64 (f:Int),.int .i64 (t:Int),.int .u8 (u.toNat:Int)] 87):=⟨_,rfl⟩;rw[<-hw1];have hg1:Hid (Gr w w1):=qC (by rw[hw1];exact(Gr.refl w).alloc _ _);have hbw:w1.heap[w.heap.size]?=some (.cells (pU y) 87):=by rw[hw1,<-hy];exact World.alloc_heap_new _ _
 clear hw1 hv hy
 have hfirst:Hid (∀Bt W,Gr w1 W->cR g lb w.heap.size Bt W->Calls Tryz.prog 66 #[.func (.func 155) #[] #[.pointer (some ⟨Bt,0,none⟩),.pointer (some ⟨Bt+1,0,none⟩)]] W fun e w'=>e=.returned (.tuple #[gJ ((xs.filter (·==y)).headD (0,0,0)),.bool (!(xs.filter (·==y)).isEmpty)])/\Gr W w'):=qC (fun Bt W hg ho=>by
  have hbW:=(Below.block hg _ (qB.1 hbw).1).trans hbw;have hgw:Gr w W:=Gr.trans (qa hg1) hg;have hC':∀k,(C k\/k=w.heap.size)->k<W.heap.size:=fun k hk=>hk.elim (fun h=>qN (hCb k h) (Below.size hgw)) (fun h=>h▸(qB.1 hbW).1)
  refine qzv (C:=fun k=>(C k\/k=w.heap.size)\/k=Bt\/k=Bt+1) (qkg (C:=fun k=>C k\/k=w.heap.size) ((hit.later (Fr.of_gr hgw)).mono fun k h=>.inl h) heg (enters_of Tryz.func201 (by kernel_rfl) rfl) (fun _ h=>h.elim) (fun _ _ h=>h) hC' Bt (Bt+1) (·==y) ho.th ho.fi (fun x _ V fV=>tC x y w.heap.size V (fV.same _ _ hbW (.inr rfl)))) (enters_of Tryz.func155 (by kernel_rfl) rfl) ?_;rintro k (hk|rfl|rfl)
  ·exact hC' k hk
  ·exact(qB.1 ho.th).1
  ·exact(qB.1 ho.fi).1)
 have hEB:Hid ((xs.any fun x=>x==y)=!(xs.filter (·==y)).isEmpty):=qC (by
  cases he:(xs.filter (·==y)).isEmpty
  ·rw[List.isEmpty_eq_false_iff_exists_mem]at he;obtain⟨x,hx⟩:=he;rw[qV]at hx;exact qY.2 ⟨x,hx.1,hx.2⟩
  ·rw[List.isEmpty_iff,List.filter_eq_nil_iff]at he;exact List.any_eq_false.2 he)
 generalize (!(xs.filter (·==y)).isEmpty)=EB at hfirst hEB;generalize (xs.filter (·==y)).headD (0,0,0)=HD at hfirst;have hlt:w.heap.size<w1.heap.size:=(qB.1 hbw).1
 go_wp2_with(first
  | (go_at_call 67;refine(dV _ _ _ _ _).mono ?_;rintro e wa ⟨rfl,ht2,hf2,hga⟩)
  | (go_at_call 66;refine(qa hfirst _ _ hga ⟨ht2,hf2,qN hlt (Below.size hga)⟩).mono ?_;rintro e wb ⟨rfl,hgb⟩)
  | (refine wpList_store_row rfl 87 _ _ rfl _ (pU HD) rfl rfl 87 #[.int .i64 0,.int .i64 0,.int .u8 0] (World.alloc_heap_new _ _) sr rfl (by simp[pU,Value.oneCell']) ?_))
 go_ret;exact⟨by rw[qa hEB];rfl,Gr.trans (qa hg1) (Gr.trans hga (Gr.trans hgb (((Gr.refl wb).alloc _ _).setRow _ (qL _) _)))⟩
def yM:Array Value:=#[.func (.func 60) #[] #[],.func (.func 61) #[] #[]]
structure Il(w:World)(PA:Array Value)(y:Mv)(W:World):Prop where
 q:W.cell? ⟨w.heap.size,1,none⟩=some (.func (.func 61) #[] #[])
 pa:W.heap[w.heap.size+1]?=some (.cells PA 70)
 mv:W.heap[w.heap.size+2]?=some (.cells (pU y) 87)
 gr:Gr w W
theorem Il.next{w W W':World}{PA:Array Value}{y:Mv}(h:Il w PA y W)(g:Gr W W'):Il w PA y W' :=
 ⟨(Below.cell g (World.block_lt_of_cell? W _ h.q)).trans h.q,(Below.block g _ (qB.1 h.pa).1).trans h.pa,(Below.block g _ (qB.1 h.mv).1).trans h.mv,Gr.trans h.gr g⟩
theorem wY{ops:Array Oper}{op:Oper}{a:Act}{PA:Array Value}{S:World->Prop}(hi:(Tryz.prog.info? 70).map (·.size)=some PA.toList.length)(hw:Region.wanted op (yielded ops a.tmps)=true)(x:Operand)(ho:op.op=.load 70 x)(b:Nat)(hx:a.eval x=.pointer (some ⟨b,0,none⟩))(hS:∀w,S w->w.heap[b]?=some (.cells PA 70)):YieldsIf Tryz.prog ops S op (.agg PA) a:=by
 have:=yieldsIf_load_mid (P:=Tryz.prog) hw 70 x ho b 0 hx PA.toList _ (fun w h j v hv=>by rw[cell_of_row _ _ _ _ _ _ (hS w h),Nat.zero_add,<-qO];exact hv) Tryz.underlying70 rfl hi
 rwa[Array.toArray_toList]at this
theorem dl{z:Nat->UInt8}{wh:Bool}{fc:Nat->Bool}{b h g:Int}{PA:Array Value}(r:jE z wh fc b h g PA)(hok:xO z=true)(hb0:-1<=b)(hb1:b<=63)(y:Mv)(w:World)(hT:jF w)(hC:jQ w) :
  Calls Tryz.prog 57 #[.agg yM,.agg PA,gJ y] w fun e w'=>e=.returned (.bool ((xC z wh fc b).any fun x=>x==y))/\Gr w w':=by
 have hr:=qC r;clear r;obtain⟨f,t,u⟩:=y
 have hhas:Hid (∀Bp W,Gr w W->W.heap[Bp]?=some (.cells PA 70)->Calls Tryz.prog 119 #[.func (.func 128) #[] #[.pointer (some ⟨Bp,0,none⟩)],gJ (f,t,u)] W fun e w'=>e=.returned (.bool ((xC z wh fc b).any fun x=>x==(f,t,u)))/\Gr W w'):=qC (fun Bp W hg hp =>
  B0 (qxq (qa hr) hok hb0 hb1 Bp (fun _=>False) (fun _ h=>h.elim) W hp (hT.gr hg) (hC.gr hg)) (enters_of Tryz.func128 (by kernel_rfl) rfl) (by
   rintro k (rfl|rfl|rfl)
   ·exact(qB.1 hp).1
   ·exact(hT.gr hg).2
   ·exact(hC.gr hg).2) (f,t,u))
 generalize hR:(xC z wh fc b).any (fun x=>x==(f,t,u))=R at hhas ⊢;clear hR;have hi72:(Tryz.prog.info? 70).map (·.size)=some PA.toList.length:=by rw[Array.length_toList,(qa hr).size];exact jJ
 simp only[gJ,yM]at hhas ⊢
 have hA0:Il w PA (f,t,u) (((w.alloc (.cells yM 74)).alloc (.cells PA 70)).alloc (.cells (pU (f,t,u)) 87)):=by
  have g1:Gr (w.alloc (.cells yM 74)) (((w.alloc (.cells yM 74)).alloc (.cells PA 70)).alloc (.cells (pU (f,t,u)) 87)):=((Gr.refl _).alloc _ _).alloc _ _;have e1:=(Below.block g1 w.heap.size (by rw[World.size_alloc];omega)).trans (World.alloc_heap_new w _);obtain⟨e2,e3⟩:=x6 (w.alloc (.cells yM 74)) (.cells PA 70) (.cells (pU (f,t,u)) 87);rw[World.size_alloc]at e2 e3;exact⟨by rw[cell_of_row _ _ _ _ _ _ e1];rfl,e2,e3,Gr.trans ((Gr.refl w).alloc _ _) g1⟩
 go_enter Tryz.func57,Tryz.ntmps57;go_upto_region 1 with fail;show Code.wp _ _ _ _ (((w.alloc (.cells yM 74)).alloc (.cells PA 70)).alloc (.cells (pU (f,t,u)) 87));generalize (((w.alloc (.cells yM 74)).alloc (.cells PA 70)).alloc (.cells (pU (f,t,u)) 87))=wA at hA0 ⊢;refine wp_region_held_drew (S:=Il w PA (f,t,u)) (by kernel_rfl) (hA0.next (Gr.refl _).drew) (fun qD=>?_);refine C.ty 0 (.pointer (some ⟨w.heap.size,1,none⟩)) rfl (Or.inl ⟨by rfl,fun w hw=>(by have c1:=hw.q;obtain⟨x0,x1,x2⟩:=qm hw.mv;go_simp)⟩) qD ?_;refine C.ty 1 (.func (.func 61) #[] #[]) rfl (Or.inl ⟨by rfl,fun w hw=>(by have c1:=hw.q;obtain⟨x0,x1,x2⟩:=qm hw.mv;go_simp)⟩) qD ?_;refine C.ty 2 (.agg PA) rfl (wY hi72 (by rfl) _ rfl (w.heap.size+1) rfl (fun _ h=>h.pa)) qD ?_;refine C.ty 4 (.agg #[.int .i64 (f:Int),.int .i64 (t:Int),.int .u8 (u.toNat:Int)]) rfl (Or.inl ⟨by rfl,fun w hw=>(by have c1:=hw.q;obtain⟨x0,x1,x2⟩:=qm hw.mv;go_simp)⟩) qD ?_;refine C.rd 3 fun K hK=>?_
 go_simp;refine(zk PA _).mono ?_;rintro e wa ⟨rfl,hpa,hga⟩;refine hK.out _ _ (qD.next hga) (fun qD=>?_);clear hK K hga;refine C.rd 5 fun K hK=>?_
 go_simp;refine(qa hhas _ _ qD.gr hpa).mono ?_;rintro e wb ⟨rfl,hgb⟩;refine hK.out _ _ (qD.next hgb) (fun qD=>?_);clear hK K hgb;refine C.rd 6 fun K hK=>?_
 go_simp;refine hK.out _ _ qD (fun qD=>?_);clear hK K;refine wpAnyH_done (by kernel_rfl) ?_ _;go_wp2_with fail;go_ret;exact⟨rfl,qD.gr⟩
end
theorem qvb(c:UInt8):∀(k:Nat)(x:List UInt8) (r:List (List UInt8)),(∀y∈x :: r,c∉y)->r.length<=k->Lib.splitK [c] 0 k (Lib.join (x :: r) [c])=x :: r
 | k,x,[],h,_=>by rw[Lib.join_one,qva c k x (h x (by simp))]
 | 0,x,y :: r,_,hk=>by simp at hk
 | k+1,x,y :: r,h,hk=>by
   rw[ve,qS];show Lib.splitK [c] 0 (k+1) (x++c :: Lib.join (y :: r) [c])=_;rw[qj6 c k x _ (h x (by simp)),qvb c k y r (fun z hz=>h z (by simp at hz ⊢;right;exact hz)) (by simp at hk;omega)]
theorem qzr(sep:List UInt8):∀(x:List UInt8) (r:List (List UInt8)),r.length*sep.length<=(Lib.join (x :: r) sep).length
 | x,[]=>by simp
 | x,y :: r=>by
   have:=qzr sep y r;rw[ve,qZ,qZ,List.length_cons,Nat.add_mul];omega
theorem qv4(c:UInt8)(n:Nat)(x:List UInt8)(r:List (List UInt8))(h:∀y∈x :: r,c∉y)(hn:r.length+1<=n)(s:ByteArray)(hs:s.data.toList=Lib.join (x :: r) [c]):(xL c n s).map (·.data.toList)=x :: r:=by
 rw[qjc,hs];apply qvb c _ x r h;have h1:=qzr [c] x r;rw[<-hs]at h1;simp at h1;omega
section
attribute [local go_sem] qd qe
end
end Go.Proofs.YtnfakamfmkhlbabGreatDoor.C
