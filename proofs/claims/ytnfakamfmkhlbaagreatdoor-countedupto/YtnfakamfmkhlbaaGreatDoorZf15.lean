import Derived.Test.YtnfakamfmkhlbaaGreatDoorZf14
import Derived.Stop.RegionWithIn
import Derived.Test.YtnfakamfmkhlbaaGreatDoorZf6
import Derived.Test.YtnfakamfmkhlbaaGreatDoorKz2
set_option maxRecDepth 100000
set_option maxHeartbeats 4000000
set_option linter.unusedSimpArgs false
namespace Go.Proofs.YtnfakamfmkhlbaaGreatDoor.C
open Go.ChangeShapes Go.WideShapes Go.ChangeAt Go.RowKit Go.Shelf
open Go.Proofs.YtnfakamfmkhlbaaGreatDoor.P
attribute [local go_sem] qb qd Oper.semAt_some
def mvC (x:Mv):Array Value:=#[.int .i64 (x.1:Int),.int .i64 (x.2.1:Int),.int .u8 (x.2.2.toNat:Int)]
theorem res_first (tmps:Array Value) (w:World) (b:Nat) (x y z v:Value) (hp:tmps.getD 2 undef=.pointer (some ⟨b,0,none⟩)) (hq:tmps.getD 3 undef=.pointer (some ⟨b+1,0,none⟩)) (hc:w.heap[b]?=some (.cells #[x,y,z] 94)) (hd:w.heap[b+1]?=some (.cells #[v] 4)):(results Tryz.f247 tmps).run Tryz.prog w=.ok (.tuple #[.agg #[x,y,z],v]) w:=by
 have hp':tmps[2]?.getD undef=.pointer (some ⟨b,0,none⟩):=by simpa using hp
 have hq':tmps[3]?.getD undef=.pointer (some ⟨b+1,0,none⟩):=by simpa using hq
 obtain ⟨c0,c1,c2⟩:=qj hc;have c3:=(qc hd).1;simp [results,Tryz.results247,hp',hq',asAddr,go_sem,c0,c1,c2,c3]
theorem info3:(Tryz.prog.info? 94).map (·.size)=some 3:=by kernel_rfl
theorem qq6 {F:Fence} {n:Nat} {ops:Array Oper} {rest:List Oper} {o:Oper} {a:Act} {w:World} {Q:Exit->Act->World->Prop} (hg:o.guard=none) (x y:Operand) (ho:o.op=.store 94 x y) (b:Nat) (cells:Array Value) (hx:a.eval x=.pointer (some ⟨b,0,none⟩)) (hy:a.eval y=.agg cells) (old:Array Value) (hh:w.heap[b]?=some (.cells old 94)) (hz:old.size=3) (hc:cells.size=3) (h1:cells.all (·.oneCell')=true)
  (h:wpListIn F n Tryz.prog ops Q rest (a.put o.dst undef) (w.setRow b cells)):wpListIn F n Tryz.prog ops Q (o :: rest) a w :=
 wpListIn_plain hg fun K hK=>by
  refine ⟨fun f hf=>?_,?_⟩
  ·simp [Oper.about,ho] at hf
  ·rw [Oper.semAt_eq _ _ _ (by rw [ho];intro c e;cases e)]
   have hr:(execOp a.eval o).run Tryz.prog w=.ok .skip (w.setRow b cells):=by
    have:=run_storeVar_row (P:=Tryz.prog) w b 94 94 old cells hh (by rw [info3,hc]) (by omega) h1;unfold execOp;simp only [ho,hx,hy,Instr.storeAt,Instr.sureAddr,Sem.run_bind,Sem.run_pure,Result.andThen_ok,this]
   rw [hr];exact hK _ _ h
theorem first_any {g:Nat} {lb:Array Value} {C:Nat->Prop} {xs:List Mv} {w:World} (hit:It Tryz.prog g lb encM (fun _=>False) C xs w) (heg:∀ args w,(callFunc g args).run Tryz.prog w=.ok (.enter g args) w) (hCb:∀ k,C k->k<w.heap.size) :
  Calls Tryz.prog 247 #[.func (.func g) #[] lb] w fun e w'=>e=.returned (.tuple #[mvV (xs.headD (0,0,0)),.bool (!xs.isEmpty)])/\Gr w w':=by
 refine (callsIn_wide (n:=9)).1 ?_;refine callsIn_of_wp_marks Tryz.func247 rfl trivial ?_ rfl;simp only [Tryz.ntmps247,List.size_toArray,List.length_cons,List.length_nil,Nat.reduceAdd,Nat.reduceSub,Array.replicate_succ,Array.replicate_zero,List.push_toArray,List.append_toArray,List.nil_append,List.cons_append];refine wpIn_wide.2 ?_;go_wp2_with fail;obtain ⟨h1,h2⟩:=heapTwo w (.cells #[.int .i64 0,.int .i64 0,.int .u8 0] 94) (.cells #[.bool false] 4);have hg2:Gr w ((w.alloc (.cells #[.int .i64 0,.int .i64 0,.int .u8 0] 94)).alloc (.cells #[.bool false] 4)):=((Gr.refl w).alloc _ _).alloc _ _;have hs2:((w.alloc (.cells #[.int .i64 0,.int .i64 0,.int .u8 0] 94)).alloc (.cells #[.bool false] 4)).heap.size=w.heap.size+2:=by simp
 generalize ((w.alloc (.cells #[.int .i64 0,.int .i64 0,.int .u8 0] 94)).alloc (.cells #[.bool false] 4))=w2 at h1 h2 hg2 hs2 ⊢
 refine wpIn_wide.1 (qo (n:=9) (gf:=g) (lb:=lb) rfl heg hit (fun _ h=>h.elim) (fun k hk=>by have:=hCb k hk;omega) (Fr.of_gr hg2) (fun _=>rfl)
  (fun pre V=>pre=[]/\V.heap[w.heap.size]?=some (.cells #[.int .i64 0,.int .i64 0,.int .u8 0] 94)/\V.heap[w.heap.size+1]?=some (.cells #[.bool false] 4)/\Gr w V/\w2.heap.size<=V.heap.size)
  (fun c pre V=>c=.ret/\∃ x,pre=[x]/\V.heap[w.heap.size]?=some (.cells (mvC x) 94)/\V.heap[w.heap.size+1]?=some (.cells #[.bool true] 4)/\Gr w V/\w2.heap.size<=V.heap.size)
  ?sI ?sX ⟨rfl,h1,h2,hg2,Nat.le_refl _⟩ ?rnd ?done ?stop)
 case sI=>exact fun s A A' h f=>⟨h.1,f.same _ _ h.2.1 (.inl (by omega)),f.same _ _ h.2.2.1 (.inl (by omega)),Below.trans h.2.2.2.1 (f.below (n:=w.heap.size) (Below.size h.2.2.2.1) (fun k o hk=>.inl (by omega))),Nat.le_trans h.2.2.2.2 f.size⟩
 case sX=>exact fun c s A A' h f=>⟨h.1,h.2.elim fun x hx=>⟨x,hx.1,f.same _ _ hx.2.1 (.inl (by omega)),f.same _ _ hx.2.2.1 (.inl (by omega)),Below.trans hx.2.2.2.1 (f.below (n:=w.heap.size) (Below.size hx.2.2.2.1) (fun k o hk=>.inl (by omega))),Nat.le_trans hx.2.2.2.2 f.size⟩⟩
 case done =>
  rintro D V hD ⟨hnil,k1,k2,hg,hsz⟩ hK;subst hnil;have ha:∀ j o,V.heap[j]?=some o->(V.alloc (.cells #[.int .i64 0,.int .i64 0,.int .u8 0] 94)).heap[j]?=some o:=fun j o h=>(Below.heap_alloc V _ _ (Array.getElem?_eq_some_iff.1 h).1).trans h
  have k1':=ha _ _ k1;have k2':=ha _ _ k2;have hK':=ha _ _ hK;have hgV:Gr w (V.alloc (.cells #[.int .i64 0,.int .i64 0,.int .u8 0] 94)):=hg.alloc _ _;have k1r:((V.alloc (.cells #[.int .i64 0,.int .i64 0,.int .u8 0] 94)).setRow w.heap.size #[.int .i64 0,.int .i64 0,.int .u8 0]).heap[w.heap.size]?=some (.cells #[.int .i64 0,.int .i64 0,.int .u8 0] 94):=setRow_heap _ _ _ _ _ _ k1';have k2r:((V.alloc (.cells #[.int .i64 0,.int .i64 0,.int .u8 0] 94)).setRow w.heap.size #[.int .i64 0,.int .i64 0,.int .u8 0]).heap[w.heap.size+1]?=some (.cells #[.bool false] 4):=by rw [setRow_other _ _ _ _ (by omega)];exact k2'
  have kDr:((V.alloc (.cells #[.int .i64 0,.int .i64 0,.int .u8 0] 94)).setRow w.heap.size #[.int .i64 0,.int .i64 0,.int .u8 0]).heap[D]?=some (.deferred (some [])):=by rw [setRow_other _ _ _ _ (by omega)];exact hK'
  have hgr:Gr w ((V.alloc (.cells #[.int .i64 0,.int .i64 0,.int .u8 0] 94)).setRow w.heap.size #[.int .i64 0,.int .i64 0,.int .u8 0]):=hgV.setRow _ (Nat.le_refl _) _;obtain ⟨c3,c4⟩:=qc k2r;go_wp2_with (refine wpList_store_row rfl 94 _ _ rfl w.heap.size #[.int .i64 0,.int .i64 0,.int .u8 0] rfl rfl 94 _ k1' info3 rfl (by simp [Value.oneCell']) ?_);generalize ((V.alloc (.cells #[.int .i64 0,.int .i64 0,.int .u8 0] 94)).setRow w.heap.size #[.int .i64 0,.int .i64 0,.int .u8 0])=X at k1r k2r kDr hgr ⊢;have kD2:(X.setCell ⟨w.heap.size+1,0,none⟩ (.bool false)).heap[D]?=some (.deferred (some [])):=(KeepsOthers.setCell X ⟨w.heap.size+1,0,none⟩ (.bool false)).same D _ kDr rfl;refine ⟨by simp,.inl ⟨_,_,rfl,run_takeDeferred kD2,?_⟩⟩;exact ⟨_,res_first _ _ w.heap.size _ _ _ _ rfl rfl (zj (by rw [Below.heap_setCell _ _ _ _ (by simp)];exact k1r) (by omega)) (zj (xh k2r) (by omega)),rfl,Below.trans (Below.setCell hgr (show w.heap.size<=w.heap.size+1 by omega) _) (belowK_b (w:=w2) (n₀:=w.heap.size) (by omega) _ D _ _ hD kD2 rfl rfl)⟩
 case stop =>
  rintro D c pre V hD hpre ⟨rfl,x,rfl,k1,k2,hg,hsz⟩ hK;refine wpIn_wide.2 ?_;go_wp2_with fail
  have e1:xs.headD (0,0,0)=x/\xs.isEmpty=false:=by
   obtain ⟨r,rfl⟩:=hpre;exact ⟨rfl,rfl⟩
  refine ⟨by simp,.inl ⟨_,_,rfl,run_takeDeferred hK,?_⟩⟩;exact ⟨_,res_first _ _ w.heap.size _ _ _ _ rfl rfl (zj k1 (by omega)) (zj k2 (by omega)),by rw [e1.1,e1.2];rfl,Below.trans hg (belowK_b (w:=w2) (n₀:=w.heap.size) (by omega) _ D _ _ hD hK rfl rfl)⟩
 case rnd =>
  rintro l1 pre ⟨fr,tt,u⟩ V hbl hx ⟨hnil,k1,k2,hg,hsz⟩ hl;subst hnil;have hl':l1<V.heap.size:=hl.elim fun r hr=>(Array.getElem?_eq_some_iff.1 hr).1
  simp only [encM,mvV];gi_wp2;refine ⟨(Fr.refl _ _).alloc _,?_⟩;intro V2 f2 hI2 hl2;obtain ⟨_,k1,k2,hg,hsz⟩:=hI2;have kx:V2.heap[V.heap.size]?=some (.cells #[.int .i64 (fr:Int),.int .i64 (tt:Int),.int .u8 (u.toNat:Int)] 94):=f2.same _ _ (World.alloc_heap_new V _) (by omega);have hVs:w2.heap.size<=V.heap.size:=by omega
  generalize V.heap.size=Bx at kx hVs ⊢;obtain ⟨x0,x1,x2⟩:=qj kx;have k2r:(V2.setRow w.heap.size #[.int .i64 (fr:Int),.int .i64 (tt:Int),.int .u8 (u.toNat:Int)]).heap[w.heap.size+1]?=some (.cells #[.bool false] 4):=by rw [setRow_other _ _ _ _ (by omega)];exact k2
  have k1r:(V2.setRow w.heap.size #[.int .i64 (fr:Int),.int .i64 (tt:Int),.int .u8 (u.toNat:Int)]).heap[w.heap.size]?=some (.cells #[.int .i64 (fr:Int),.int .i64 (tt:Int),.int .u8 (u.toNat:Int)] 94):=setRow_heap _ _ _ _ _ _ k1;obtain ⟨c3,c4⟩:=qc k2r;have hgr:Gr w (V2.setRow w.heap.size #[.int .i64 (fr:Int),.int .i64 (tt:Int),.int .u8 (u.toNat:Int)]):=hg.setRow _ (Nat.le_refl _) _
  have frr:Fr (Rnd1 w2.heap.size (fun _=>False) C) V2 (V2.setRow w.heap.size #[.int .i64 (fr:Int),.int .i64 (tt:Int),.int .u8 (u.toNat:Int)]):=⟨rfl,rfl,rfl,by rw [size_setRow];exact Nat.le_refl _,fun k o e q=>by
   rw [setRow_other _ _ _ _ (by
    rintro rfl;rcases q with q|q
    ·have:=hCb _ q;omega
    ·omega)];exact e⟩
  gi_wp2_with (refine qq6 rfl _ _ rfl w.heap.size #[.int .i64 (fr:Int),.int .i64 (tt:Int),.int .u8 (u.toNat:Int)] rfl rfl _ k1 rfl rfl (by simp [Value.oneCell']) ?_);generalize (V2.setRow w.heap.size #[.int .i64 (fr:Int),.int .i64 (tt:Int),.int .u8 (u.toNat:Int)])=X at k1r k2r hgr frr ⊢;refine ⟨frr.setCell _ ?_,rfl,(fr,tt,u),rfl,?_,xh k2r,Below.setCell hgr (show w.heap.size<=w.heap.size+1 by omega) _,?_⟩
  ·rintro o-(q|q)
   ·have:=hCb _ q;simp at this;omega
   ·have:=q.1;simp at this;omega
  ·rw [Below.heap_setCell _ _ _ _ (by simp)];exact k1r
  ·have:=frr.size;simp [World.setCell];omega
end Go.Proofs.YtnfakamfmkhlbaaGreatDoor.C
namespace Go.Proofs.YtnfakamfmkhlbaaGreatDoor.C
open Go.ChangeShapes Go.WideShapes Go.ChangeAt Go.RowKit Go.Shelf
open Go.Proofs.YtnfakamfmkhlbaaGreatDoor.P
attribute [local go_sem] qb qd
theorem hasF_any (x y:Mv) (Bw:Nat) (w:World) (h:w.heap[Bw]?=some (.cells (mvC y) 94)):Calls Tryz.prog 248 #[mvV x,.pointer (some ⟨Bw,0,none⟩)] w fun e w'=>e=.returned (.bool (x==y))/\Gr w w':=by
 obtain ⟨f,t,u⟩:=x;obtain ⟨f',t',u'⟩:=y;have h':(w.alloc (.cells #[.int .i64 (f:Int),.int .i64 (t:Int),.int .u8 (u.toNat:Int)] 94)).heap[Bw]?=some (.cells #[.int .i64 (f':Int),.int .i64 (t':Int),.int .u8 (u'.toNat:Int)] 94):=(Below.heap_alloc w _ _ (Array.getElem?_eq_some_iff.1 h).1).trans h;obtain ⟨c0,c1,c2⟩:=qj h';simp only [mvV];by_cases hf:f=f'
 ·subst hf;by_cases ht:t=t'
  ·subst ht;by_cases hu:u=u'
   ·subst hu;have hb:(((f,t,u):Mv)==(f,t,u))=true:=by simp
    rw [hb];go_enter Tryz.func248,Tryz.ntmps248;go_wp2_with fail;go_ret;exact ⟨rfl,(Gr.refl w).alloc _ _⟩
   ·have hb:(((f,t,u):Mv)==(f,t,u'))=false:=by simp [hu]
    have hne:(u.toNat:Int)≠(u'.toNat:Int):=fun e=>hu (UInt8.toNat_inj.1 (by omega))
    rw [hb];clear hb hu;go_enter Tryz.func248,Tryz.ntmps248;go_wp2_with fail;go_ret;exact ⟨rfl,(Gr.refl w).alloc _ _⟩
  ·have hb:(((f,t,u):Mv)==(f,t',u'))=false:=by simp [ht]
   have hne:(t:Int)≠(t':Int):=by omega
   rw [hb];clear hb ht;go_enter Tryz.func248,Tryz.ntmps248;go_wp2_with fail;go_ret;exact ⟨rfl,(Gr.refl w).alloc _ _⟩
 ·have hb:(((f,t,u):Mv)==(f',t',u'))=false:=by simp [hf]
  have hne:(f:Int)≠(f':Int):=by omega
  rw [hb];clear hb hf;go_enter Tryz.func248,Tryz.ntmps248;go_wp2_with fail;go_ret;exact ⟨rfl,(Gr.refl w).alloc _ _⟩
structure OnlyAt (g:Nat) (lb:Array Value) (Bw Bt:Nat) (W:World):Prop where
 th:W.heap[Bt]?=some (.cells #[.func (.func g) #[] lb] 178)
 fi:W.heap[Bt+1]?=some (.cells #[.func (.func 248) #[] #[.pointer (some ⟨Bw,0,none⟩)]] 252)
 le:Bw<W.heap.size
theorem OnlyAt.gr {g:Nat} {lb:Array Value} {Bw Bt:Nat} {W W':World} (h:OnlyAt g lb Bw Bt W) (hg:Gr W W'):OnlyAt g lb Bw Bt W' :=
 ⟨(Below.block hg _ (Array.getElem?_eq_some_iff.1 h.th).1).trans h.th,(Below.block hg _ (Array.getElem?_eq_some_iff.1 h.fi).1).trans h.fi,Nat.lt_of_lt_of_le h.le (Below.size hg)⟩
theorem only_mk (g gf:Nat) (lb lf:Array Value) (w:World):Calls Tryz.prog 163 #[.func (.func g) #[] lb,.func (.func gf) #[] lf] w fun e w'=>e=.returned (.func (.func 235) #[] #[.pointer (some ⟨w.heap.size,0,none⟩),.pointer (some ⟨w.heap.size+1,0,none⟩)])/\w'.heap[w.heap.size]?=some (.cells #[.func (.func g) #[] lb] 178)/\w'.heap[w.heap.size+1]?=some (.cells #[.func (.func gf) #[] lf] 252)/\Gr w w':=by
 have hmf:∀ (fn:Fn) (first cap:Array Value) (w:World),(Instr.makeFunc fn first cap).run Tryz.prog w=.ok (.func fn first cap) w:=fun _ _ _ _=>rfl
 go_enter Tryz.func163,Tryz.ntmps163;go_wp2;go_ret;obtain ⟨h1,h2⟩:=heapTwo w (.cells #[.func (.func g) #[] lb] 178) (.cells #[.func (.func gf) #[] lf] 252);exact ⟨rfl,h1,h2,((Gr.refl w).alloc _ _).alloc _ _⟩
theorem has_any {g:Nat} {lb:Array Value} {C:Nat->Prop} {xs:List Mv} {w:World} (hit:It Tryz.prog g lb encM (fun _=>False) C xs w) (heg:∀ args w,(callFunc g args).run Tryz.prog w=.ok (.enter g args) w) (hCb:∀ k,C k->k<w.heap.size) (y:Mv) :
  Calls Tryz.prog 180 #[.func (.func g) #[] lb,mvV y] w fun e w'=>e=.returned (.bool (xs.any fun x=>x==y))/\Gr w w':=by
 have hmf:∀ (fn:Fn) (first cap:Array Value) (w:World),(Instr.makeFunc fn first cap).run Tryz.prog w=.ok (.func fn first cap) w:=fun _ _ _ _=>rfl
 obtain ⟨f,t,u⟩:=y;generalize hy:((f,t,u):Mv)=y;have hv:mvV y=.agg #[.int .i64 (f:Int),.int .i64 (t:Int),.int .u8 (u.toNat:Int)]:=by rw [<-hy];rfl
 rw [hv];go_enter Tryz.func180,Tryz.ntmps180;go_upto_region 1 with fail;obtain ⟨w1,hw1⟩:∃ w1,w1=w.alloc (.cells #[.int .i64 (f:Int),.int .i64 (t:Int),.int .u8 (u.toNat:Int)] 94):=⟨_,rfl⟩;rw [<-hw1];have hg1:Hid (Gr w w1):=hide (by rw [hw1];exact (Gr.refl w).alloc _ _);have hbw:w1.heap[w.heap.size]?=some (.cells (mvC y) 94):=by rw [hw1,<-hy];exact World.alloc_heap_new _ _
 clear hw1 hv hy
 have hfirst:Hid (∀ Bt W,Gr w1 W->OnlyAt g lb w.heap.size Bt W->Calls Tryz.prog 247 #[.func (.func 235) #[] #[.pointer (some ⟨Bt,0,none⟩),.pointer (some ⟨Bt+1,0,none⟩)]] W fun e w'=>e=.returned (.tuple #[mvV ((xs.filter (·==y)).headD (0,0,0)),.bool (!(xs.filter (·==y)).isEmpty)])/\Gr W w'):=hide (fun Bt W hg ho=>by
  have hbW:=(Below.block hg _ (Array.getElem?_eq_some_iff.1 hbw).1).trans hbw;have hgw:Gr w W:=Gr.trans (qa hg1) hg;have hC':∀ k,(C k\/k=w.heap.size)->k<W.heap.size:=fun k hk=>hk.elim (fun h=>Nat.lt_of_lt_of_le (hCb k h) (Below.size hgw)) (fun h=>h▸(Array.getElem?_eq_some_iff.1 hbW).1)
  refine first_any (C:=fun k=>(C k\/k=w.heap.size)\/k=Bt\/k=Bt+1) (qzx (C:=fun k=>C k\/k=w.heap.size) ((hit.later (Fr.of_gr hgw)).mono fun k h=>.inl h) heg (enters_of Tryz.func248 (by kernel_rfl) rfl) (fun _ h=>h.elim) (fun _ _ h=>h) hC' Bt (Bt+1) (·==y) ho.th ho.fi (fun x _ V fV=>hasF_any x y w.heap.size V (fV.same _ _ hbW (.inr rfl)))) (enters_of Tryz.func235 (by kernel_rfl) rfl) ?_;rintro k (hk|rfl|rfl)
  ·exact hC' k hk
  ·exact (Array.getElem?_eq_some_iff.1 ho.th).1
  ·exact (Array.getElem?_eq_some_iff.1 ho.fi).1)
 have hEB:Hid ((xs.any fun x=>x==y)=!(xs.filter (·==y)).isEmpty):=hide (by
  cases he:(xs.filter (·==y)).isEmpty
  ·rw [List.isEmpty_eq_false_iff_exists_mem] at he;obtain ⟨x,hx⟩:=he;rw [List.mem_filter] at hx;exact List.any_eq_true.2 ⟨x,hx.1,hx.2⟩
  ·rw [List.isEmpty_iff,List.filter_eq_nil_iff] at he;exact List.any_eq_false.2 he)
 generalize (!(xs.filter (·==y)).isEmpty)=EB at hfirst hEB;generalize (xs.filter (·==y)).headD (0,0,0)=HD at hfirst;have hlt:w.heap.size<w1.heap.size:=(Array.getElem?_eq_some_iff.1 hbw).1
 go_wp2_with (first
  | (go_at_call 163;refine (only_mk _ _ _ _ _).mono ?_;rintro e wa ⟨rfl,ht2,hf2,hga⟩)
  | (go_at_call 247;refine (qa hfirst _ _ hga ⟨ht2,hf2,Nat.lt_of_lt_of_le hlt (Below.size hga)⟩).mono ?_;rintro e wb ⟨rfl,hgb⟩)
  | (refine wpList_store_row rfl 94 _ _ rfl _ (mvC HD) rfl rfl 94 #[.int .i64 0,.int .i64 0,.int .u8 0] (World.alloc_heap_new _ _) info3 rfl (by simp [mvC,Value.oneCell']) ?_))
 go_ret;exact ⟨by rw [qa hEB];rfl,Gr.trans (qa hg1) (Gr.trans hga (Gr.trans hgb (((Gr.refl wb).alloc _ _).setRow _ (Nat.le_refl _) _)))⟩
def movS (z:Nat->UInt8) (wh:Bool) (fc:Nat->Bool) (b:Int):List Mv:=uptoS (layS z 64) wh (sideB (layS z 64) wh) (sideB (layS z 64) (!wh)) (behB b) fc 6
theorem qjg {z:Nat->UInt8} {wh:Bool} {fc:Nat->Bool} {b h g:Int} {PA:Array Value} (r:Row z wh fc b h g PA) (hok:layOk z=true) (hb0:-1<=b) (hb1:b<=63) (Bp:Nat) (T:Obj->Prop) (hTm:∀ o,T o->∃ c fr,o=.cells c 94 fr) (w:World)
  (hp:w.heap[Bp]?=some (.cells PA 25)) (hT:TabIn w) (hC:CasTab w) :
  It Tryz.prog 171 #[.pointer (some ⟨Bp,0,none⟩)] encM T (fun k=>k=Bp\/k=2\/k=3) (movS z wh fc b) w :=
 movesC_it r.size (fun W=>fieldOf_any r hok hb0 hb1 W) Bp T hTm w hp hT hC
theorem zg (PA:Array Value) (w:World):Calls Tryz.prog 105 #[.agg PA] w fun e w'=>e=.returned (.func (.func 171) #[] #[.pointer (some ⟨w.heap.size,0,none⟩)])/\w'.heap[w.heap.size]?=some (.cells PA 25)/\Gr w w':=by
 have hmf:∀ (fn:Fn) (first cap:Array Value) (w:World),(Instr.makeFunc fn first cap).run Tryz.prog w=.ok (.func fn first cap) w:=fun _ _ _ _=>rfl
 go_enter Tryz.func105,Tryz.ntmps105;go_wp2;go_ret;exact ⟨rfl,World.alloc_heap_new _ _,(Gr.refl w).alloc _ _⟩
def quickA:Array Value:=#[.func (.func 104) #[] #[],.func (.func 105) #[] #[]]
structure Il (w:World) (PA:Array Value) (y:Mv) (W:World):Prop where
 q:W.cell? ⟨w.heap.size,1,none⟩=some (.func (.func 105) #[] #[])
 pa:W.heap[w.heap.size+1]?=some (.cells PA 25)
 mv:W.heap[w.heap.size+2]?=some (.cells (mvC y) 94)
 gr:Gr w W
theorem Il.next {w W W':World} {PA:Array Value} {y:Mv} (h:Il w PA y W) (g:Gr W W'):Il w PA y W' :=
 ⟨(Below.cell g (World.block_lt_of_cell? W _ h.q)).trans h.q,(Below.block g _ (Array.getElem?_eq_some_iff.1 h.pa).1).trans h.pa,(Below.block g _ (Array.getElem?_eq_some_iff.1 h.mv).1).trans h.mv,Gr.trans h.gr g⟩
theorem y_pos3 {ops:Array Oper} {op:Oper} {a:Act} {PA:Array Value} {S:World->Prop} (hi:(Tryz.prog.info? 25).map (·.size)=some PA.toList.length) (hw:Region.wanted op (yielded ops a.tmps)=true) (x:Operand) (ho:op.op=.load 25 x) (b:Nat) (hx:a.eval x=.pointer (some ⟨b,0,none⟩)) (hS:∀ w,S w->w.heap[b]?=some (.cells PA 25)):YieldsIf Tryz.prog ops S op (.agg PA) a:=by
 have:=yieldsIf_load_mid (P:=Tryz.prog) hw 25 x ho b 0 hx PA.toList _ (fun w h j v hv=>by rw [cell_of_row _ _ _ _ _ _ (hS w h),Nat.zero_add,<-Array.getElem?_toList];exact hv) Tryz.underlying25 rfl hi
 rwa [Array.toArray_toList] at this
theorem isLegalQ_any {z:Nat->UInt8} {wh:Bool} {fc:Nat->Bool} {b h g:Int} {PA:Array Value} (r:Row z wh fc b h g PA) (hok:layOk z=true) (hb0:-1<=b) (hb1:b<=63) (y:Mv) (w:World) (hT:TabIn w) (hC:CasTab w) :
  Calls Tryz.prog 109 #[.agg quickA,.agg PA,mvV y] w fun e w'=>e=.returned (.bool ((movS z wh fc b).any fun x=>x==y))/\Gr w w':=by
 have hr:=hide r;clear r;obtain ⟨f,t,u⟩:=y
 have hhas:Hid (∀ Bp W,Gr w W->W.heap[Bp]?=some (.cells PA 25)->Calls Tryz.prog 180 #[.func (.func 171) #[] #[.pointer (some ⟨Bp,0,none⟩)],mvV (f,t,u)] W fun e w'=>e=.returned (.bool ((movS z wh fc b).any fun x=>x==(f,t,u)))/\Gr W w'):=hide (fun Bp W hg hp =>
  has_any (qjg (qa hr) hok hb0 hb1 Bp (fun _=>False) (fun _ h=>h.elim) W hp (hT.gr hg) (hC.gr hg)) (enters_of Tryz.func171 (by kernel_rfl) rfl) (by
   rintro k (rfl|rfl|rfl)
   ·exact (Array.getElem?_eq_some_iff.1 hp).1
   ·exact (hT.gr hg).2
   ·exact (hC.gr hg).2) (f,t,u))
 generalize hR:(movS z wh fc b).any (fun x=>x==(f,t,u))=R at hhas ⊢;clear hR;have hi72:(Tryz.prog.info? 25).map (·.size)=some PA.toList.length:=by rw [Array.length_toList,(qa hr).size];exact infoP72
 simp only [mvV,quickA] at hhas ⊢
 have hA0:Il w PA (f,t,u) (((w.alloc (.cells quickA 84)).alloc (.cells PA 25)).alloc (.cells (mvC (f,t,u)) 94)):=by
  have g1:Gr (w.alloc (.cells quickA 84)) (((w.alloc (.cells quickA 84)).alloc (.cells PA 25)).alloc (.cells (mvC (f,t,u)) 94)):=((Gr.refl _).alloc _ _).alloc _ _;have e1:=(Below.block g1 w.heap.size (by rw [World.size_alloc];omega)).trans (World.alloc_heap_new w _);obtain ⟨e2,e3⟩:=heapTwo (w.alloc (.cells quickA 84)) (.cells PA 25) (.cells (mvC (f,t,u)) 94);rw [World.size_alloc] at e2 e3;exact ⟨by rw [cell_of_row _ _ _ _ _ _ e1];rfl,e2,e3,Gr.trans ((Gr.refl w).alloc _ _) g1⟩
 go_enter Tryz.func109,Tryz.ntmps109;go_upto_region 1 with fail;show Code.wp _ _ _ _ (((w.alloc (.cells quickA 84)).alloc (.cells PA 25)).alloc (.cells (mvC (f,t,u)) 94));generalize (((w.alloc (.cells quickA 84)).alloc (.cells PA 25)).alloc (.cells (mvC (f,t,u)) 94))=wA at hA0 ⊢;refine wp_region_held_drew (S:=Il w PA (f,t,u)) (by kernel_rfl) (hA0.next (Gr.refl _).drew) (fun hHeld=>?_);refine C.ty 0 (.pointer (some ⟨w.heap.size,1,none⟩)) rfl (Or.inl ⟨by rfl,fun w hw=>(by have c1:=hw.q;obtain ⟨x0,x1,x2⟩:=qj hw.mv;go_simp)⟩) hHeld ?_;refine C.ty 1 (.func (.func 105) #[] #[]) rfl (Or.inl ⟨by rfl,fun w hw=>(by have c1:=hw.q;obtain ⟨x0,x1,x2⟩:=qj hw.mv;go_simp)⟩) hHeld ?_;refine C.ty 2 (.agg PA) rfl (y_pos3 hi72 (by rfl) _ rfl (w.heap.size+1) rfl (fun _ h=>h.pa)) hHeld ?_;refine C.ty 4 (.agg #[.int .i64 (f:Int),.int .i64 (t:Int),.int .u8 (u.toNat:Int)]) rfl (Or.inl ⟨by rfl,fun w hw=>(by have c1:=hw.q;obtain ⟨x0,x1,x2⟩:=qj hw.mv;go_simp)⟩) hHeld ?_;refine C.rd 3 fun K hK=>?_
 go_simp;refine (zg PA _).mono ?_;rintro e wa ⟨rfl,hpa,hga⟩;refine hK.out _ _ (hHeld.next hga) (fun hHeld=>?_);clear hK K hga;refine C.rd 5 fun K hK=>?_
 go_simp;refine (qa hhas _ _ hHeld.gr hpa).mono ?_;rintro e wb ⟨rfl,hgb⟩;refine hK.out _ _ (hHeld.next hgb) (fun hHeld=>?_);clear hK K hgb;refine C.rd 6 fun K hK=>?_
 go_simp;refine hK.out _ _ hHeld (fun hHeld=>?_);clear hK K;refine wpAnyH_done (by kernel_rfl) ?_ _;go_wp2_with fail;go_ret;exact ⟨rfl,hHeld.gr⟩
end Go.Proofs.YtnfakamfmkhlbaaGreatDoor.C
namespace Go.Proofs.YtnfakamfmkhlbaaGreatDoor.C
open Go.ChangeShapes Go.WideShapes Go.ChangeAt Go.RowKit Go.Shelf
open Go.Proofs.YtnfakamfmkhlbaaGreatDoor.P
attribute [local go_sem] qb qd Oper.semAt_some
theorem oneM_any (a b c:Int) (w:World):Calls Tryz.prog 169 #[.agg #[.int .i64 a,.int .i64 b,.int .u8 c]] w fun e w'=>e=.returned (.int .i64 1)/\Gr w w':=by
 go_enter Tryz.func169,Tryz.ntmps169;go_wp2;go_ret;exact ⟨rfl,(Gr.refl w).alloc _ _⟩
theorem sumM_any {g:Nat} {lb:Array Value} {C:Nat->Prop} {xs:List Mv} {w:World} (hit:It Tryz.prog g lb encM (fun _=>False) C xs w) (heg:∀ args w,(callFunc g args).run Tryz.prog w=.ok (.enter g args) w) (hCb:∀ k,C k->k<w.heap.size) (hlen:xs.length<9223372036854775807) :
  Calls Tryz.prog 168 #[.func (.func g) #[] lb,.func (.func 169) #[] #[]] w fun e w'=>e=.returned (.int .i64 (xs.length:Int))/\Gr w w':=by
 refine (callsIn_wide (n:=9)).1 ?_;refine callsIn_of_wp_marks Tryz.func168 rfl trivial ?_ rfl;simp only [Tryz.ntmps168,List.size_toArray,List.length_cons,List.length_nil,Nat.reduceAdd,Nat.reduceSub,Array.replicate_succ,Array.replicate_zero,List.push_toArray,List.append_toArray,List.nil_append,List.cons_append];refine wpIn_wide.2 ?_;go_wp2_with fail;obtain ⟨h1,h2⟩:=heapTwo w (.cells #[.func (.func 169) #[] #[]] 256) (.cells #[.int .i64 0] 3);have hg2:Gr w ((w.alloc (.cells #[.func (.func 169) #[] #[]] 256)).alloc (.cells #[.int .i64 0] 3)):=((Gr.refl w).alloc _ _).alloc _ _;have hs2:((w.alloc (.cells #[.func (.func 169) #[] #[]] 256)).alloc (.cells #[.int .i64 0] 3)).heap.size=w.heap.size+2:=by simp
 generalize ((w.alloc (.cells #[.func (.func 169) #[] #[]] 256)).alloc (.cells #[.int .i64 0] 3))=w2 at h1 h2 hg2 hs2 ⊢
 refine wpIn_wide.1 (qo (n:=9) (gf:=g) (lb:=lb) rfl heg hit (fun _ h=>h.elim) (fun k hk=>by have:=hCb k hk;omega) (Fr.of_gr hg2) (fun _=>rfl)
  (fun pre V=>V.heap[w.heap.size]?=some (.cells #[.func (.func 169) #[] #[]] 256)/\V.heap[w.heap.size+1]?=some (.cells #[.int .i64 (pre.length:Int)] 3)/\Gr w V/\w2.heap.size<=V.heap.size)
  (fun _ _ _=>False)
  ?sI (fun _ _ _ _ h _=>h) ⟨h1,h2,hg2,Nat.le_refl _⟩ ?rnd ?done (fun _ _ _ _ _ _ h _=>h.elim))
 case sI=>exact fun s A A' h f=>⟨f.same _ _ h.1 (.inl (by omega)),f.same _ _ h.2.1 (.inl (by omega)),Below.trans h.2.2.1 (f.below (n:=w.heap.size) (Below.size h.2.2.1) (fun k o hk=>.inl (by omega))),Nat.le_trans h.2.2.2 f.size⟩
 case done =>
  rintro D V hD ⟨k1,k2,hg,hsz⟩ hK;have c2:=(qc k2).1;go_wp2_with fail;refine ⟨by simp,.inl ⟨_,_,rfl,run_takeDeferred hK,?_⟩⟩;exact ⟨_,results_tmp rfl _ _ _,rfl,Below.trans hg (belowK_b (w:=w2) (n₀:=w.heap.size) (by omega) _ D _ _ hD hK rfl rfl)⟩
 case rnd =>
  rintro l1 pre ⟨fr,tt,u⟩ V hbl hx ⟨k1,k2,hg,hsz⟩ hl;have hl':l1<V.heap.size:=hl.elim fun r hr=>(Array.getElem?_eq_some_iff.1 hr).1
  simp only [encM,mvV];gi_wp2;refine ⟨(Fr.refl _ _).alloc _,?_⟩;intro V2 f2 hI2 hl2;obtain ⟨k1,k2,hg,hsz⟩:=hI2;have kx:V2.heap[V.heap.size]?=some (.cells #[.int .i64 (fr:Int),.int .i64 (tt:Int),.int .u8 (u.toNat:Int)] 94):=f2.same _ _ (World.alloc_heap_new V _) (by omega);generalize V.heap.size=Bx at kx ⊢
  have hpl:pre.length+1<=xs.length:=by
   have:=hx.length_le;simpa using this
  have hwr:IntKind.i64.wrap ((pre.length:Int)+1)=(pre.length:Int)+1:=by rw [IntKind.wrap_i64];omega
  have d1:V2.drew.cell? ⟨w.heap.size,0,none⟩=some (.func (.func 169) #[] #[]):=(qc k1).1;have d2:V2.drew.cell? ⟨w.heap.size+1,0,none⟩=some (.int .i64 (pre.length:Int)):=(qc k2).1;have d3:V2.drew.frozen? ⟨w.heap.size+1,0,none⟩=false:=(qc k2).2;obtain ⟨x0,x1,x2⟩:=qj (show V2.drew.heap[Bx]?=_ from kx)
  have aft:∀ W',Gr V2.drew W'->(W'.cell? ⟨w.heap.size,0,none⟩=some (.func (.func 169) #[] #[])/\W'.cell? ⟨w.heap.size+1,0,none⟩=some (.int .i64 (pre.length:Int))/\W'.frozen? ⟨w.heap.size+1,0,none⟩=false):=fun W' hgw=>by
   have e1:=(Below.block hgw _ (Array.getElem?_eq_some_iff.1 (show V2.drew.heap[w.heap.size]?=_ from k1)).1).trans (show V2.drew.heap[w.heap.size]?=_ from k1);have e2:=(Below.block hgw _ (Array.getElem?_eq_some_iff.1 (show V2.drew.heap[w.heap.size+1]?=_ from k2)).1).trans (show V2.drew.heap[w.heap.size+1]?=_ from k2);exact ⟨(qc e1).1,(qc e2).1,(qc e2).2⟩
  have aft':=hide aft;clear aft
  have fin:Hid (∀ W',Gr V2.drew W'->Fr (Rnd1 w2.heap.size (fun _=>False) C) V2 (W'.setCell ⟨w.heap.size+1,0,none⟩ (.int .i64 ((pre.length:Int)+1)))/\(W'.setCell ⟨w.heap.size+1,0,none⟩ (.int .i64 ((pre.length:Int)+1))).heap[w.heap.size]?=some (.cells #[.func (.func 169) #[] #[]] 256)/\(W'.setCell ⟨w.heap.size+1,0,none⟩ (.int .i64 ((pre.length:Int)+1))).heap[w.heap.size+1]?=some (.cells #[.int .i64 ((pre++[((fr,tt,u):Mv)]).length:Int)] 3)/\Gr w (W'.setCell ⟨w.heap.size+1,0,none⟩ (.int .i64 ((pre.length:Int)+1)))/\w2.heap.size<=(W'.setCell ⟨w.heap.size+1,0,none⟩ (.int .i64 ((pre.length:Int)+1))).heap.size):=hide (fun W' hgw=>by
   have hg3:Gr V2 W':=Gr.trans (Gr.refl V2).drew hgw;have e1:=(Below.block hg3 _ (Array.getElem?_eq_some_iff.1 k1).1).trans k1;have e2:=(Below.block hg3 _ (Array.getElem?_eq_some_iff.1 k2).1).trans k2;refine ⟨(Fr.of_gr hg3).setCell _ ?_,by rw [Below.heap_setCell _ _ _ _ (by simp)];exact e1,?_,Below.setCell (Gr.trans hg hg3) (show w.heap.size<=w.heap.size+1 by omega) _,?_⟩
   ·rintro o-(q|q)
    ·have:=hCb _ q;simp at this;omega
    ·have:=q.1;simp at this;omega
   ·have:=xh (v:=.int .i64 ((pre.length:Int)+1)) e2;rw [this];simp
   ·have:=Below.size hg3;simp [World.setCell];omega)
  gi_wp2;gi_region_with (refine ⟨trivial,?_⟩;gi_at_call 169;refine ((callsIn_wide.2 (oneM_any _ _ _ _)).inRound l1).mono ?_;rintro e wc ⟨rfl,hgc⟩;obtain ⟨a1,a2,a3⟩:=qa aft' wc hgc)
  all_goals
   gi_wp2;exact qa fin _ hgc
theorem countM_any {g:Nat} {lb:Array Value} {C:Nat->Prop} {xs:List Mv} {w:World} (hit:It Tryz.prog g lb encM (fun _=>False) C xs w) (heg:∀ args w,(callFunc g args).run Tryz.prog w=.ok (.enter g args) w) (hCb:∀ k,C k->k<w.heap.size) (hlen:xs.length<9223372036854775807) :
  Calls Tryz.prog 102 #[.func (.func g) #[] lb] w fun e w'=>e=.returned (.int .i64 (xs.length:Int))/\Gr w w':=by
 have hsum:=hide (sumM_any hit heg hCb hlen);go_enter Tryz.func102,Tryz.ntmps102;go_wp2_with (go_at_call 168;refine (qa hsum).mono ?_;rintro e w' ⟨rfl,hg⟩);go_ret;exact ⟨rfl,hg⟩
end Go.Proofs.YtnfakamfmkhlbaaGreatDoor.C
namespace Go.Proofs.YtnfakamfmkhlbaaGreatDoor.C
def nI (l:List UInt8):List Int:=l.map (fun c=>(c.toNat:Int))
def wrStep (st:List UInt8 × Nat) (c:UInt8):List UInt8 × Nat:=if c=46 then (st.1,st.2+1) else (st.1++gapS st.2++[c],0)
def wrL (zs:List UInt8):List UInt8 × Nat:=zs.foldl wrStep ([],0)
theorem wrL_snoc (zs:List UInt8) (c:UInt8):wrL (zs++[c])=wrStep (wrL zs) c:=by unfold wrL;rw [List.foldl_append];rfl
theorem wrK_wrL (z:Nat->UInt8):∀ k,wrK z k=wrL ((List.range k).map z)
 | 0=>rfl
 | k+1=>by
   rw [List.range_succ,List.map_append,List.map_cons,List.map_nil,wrL_snoc,<-wrK_wrL z k];rfl
theorem wrL_dots (zs:List UInt8):∀ d,wrL (zs++List.replicate d 46)=((wrL zs).1,(wrL zs).2+d)
 | 0=>by simp
 | d+1=>by
   rw [List.replicate_succ',<-List.append_assoc,wrL_snoc,wrL_dots zs d];unfold wrStep;rw [if_pos rfl];rfl
def okL (c:UInt8):Bool:=c==46||letS c
theorem let_46:letS 46=false:=by decide
theorem dig_let_n:∀ n,n<256->letS (UInt8.ofNat n)=true->digS (UInt8.ofNat n)=false:=by decide +kernel
theorem dig_let (c:UInt8) (h:letS c=true):digS c=false:=by
 have:=dig_let_n c.toNat c.toNat_lt;rw [UInt8.ofNat_toNat] at this;exact this h
theorem gap_dig:∀ g,g<9->1<=g->digS (UInt8.ofNat (48+g))=true/\(UInt8.ofNat (48+g)).toNat-48=g:=by decide +kernel
theorem nI_app (a b:List UInt8):nI (a++b)=nI a++nI b:=List.map_append
theorem nI_rep (d:Nat):nI (List.replicate d 46)=List.replicate d 46:=by unfold nI;rw [List.map_replicate];rfl
theorem nI_len (a:List UInt8):(nI a).length=a.length:=List.length_map _
theorem dig_val (c:UInt8) (h:digS c=true):1<=c.toNat-48/\c.toNat-48<=8/\UInt8.ofNat (48+(c.toNat-48))=c:=by
 unfold digS at h;simp only [Bool.and_eq_true,decide_eq_true_eq] at h;refine ⟨by omega,by omega,?_⟩;rw [show 48+(c.toNat-48)=c.toNat from by omega];simp
theorem read_write (l:List UInt8):∀ acc a,rkFold l=some (acc,a)->∃ zs,acc=nI zs/\zs.all okL=true/\(a=false->wrL zs=(l,0))/\(a=true->∃ t g,wrL zs=(t,g)/\1<=g/\l=t++[UInt8.ofNat (48+g)]):=by
 induction hn:l.length generalizing l with
 | zero =>
  have:l=[]:=List.length_eq_zero_iff.mp hn;subst this;intro acc a h;unfold rkFold at h;simp at h;obtain ⟨rfl,rfl⟩:=h;exact ⟨[],rfl,rfl,fun _=>rfl,fun h=>by simp at h⟩
 | succ n ih =>
  have hne:l≠[]:=fun e=>by subst e;simp at hn
  obtain ⟨m,c,rfl⟩:∃ m c,l=m++[c]:=⟨l.dropLast,l.getLast hne,(List.dropLast_concat_getLast hne).symm⟩;intro acc a h;rw [rkFold_snoc] at h;cases hm:rkFold m with
  | none=>rw [hm] at h;simp [rkStep] at h
  | some st =>
   obtain ⟨acc0,a0⟩:=st;rw [hm] at h;obtain ⟨zs,e1,e2,e3,e4⟩:=ih m (by simpa using hn) acc0 a0 hm;unfold rkStep at h;simp only at h;by_cases hd:digS c=true
   ·rw [if_pos hd] at h;split at h
    ·simp at h
    ·rename_i hc;simp only [Bool.or_eq_true,decide_eq_true_eq,not_or] at hc;have ha0:a0=false:=by simpa using hc.1
     simp only [Option.some.injEq,Prod.mk.injEq] at h;obtain ⟨h1,h2⟩:=h;obtain ⟨d1,d2,d3⟩:=dig_val c hd;refine ⟨zs++List.replicate (c.toNat-48) 46,by rw [nI_app,nI_rep,<-e1];exact h1.symm,?_,fun h=>by rw [<-h2] at h;simp at h,fun _=>⟨m,c.toNat-48,?_,d1,by rw [d3]⟩⟩
     ·rw [List.all_append,e2];simp [okL]
     ·rw [wrL_dots,e3 ha0];simp
   ·rw [if_neg hd] at h;by_cases hl:letS c=true
    ·rw [if_pos hl] at h;split at h
     ·simp at h
     ·simp only [Option.some.injEq,Prod.mk.injEq] at h;obtain ⟨h1,h2⟩:=h;have hc46:¬ c=46:=fun e=>by rw [e,let_46] at hl;simp at hl
      refine ⟨zs++[c],by rw [nI_app,<-e1];exact h1.symm,?_,fun _=>?_,fun h=>by rw [<-h2] at h;simp at h⟩
      ·rw [List.all_append,e2];simp [okL,hl]
      ·rw [wrL_snoc];unfold wrStep;rw [if_neg hc46];cases ha:a0 with
       | false=>rw [e3 ha];simp [gapS]
       | true =>
        obtain ⟨t,g,k1,k2,k3⟩:=e4 ha;rw [k1,k3];have:gapS g=[UInt8.ofNat (48+g)]:=by unfold gapS;rw [if_neg (by omega)]
        simp [this]
    ·rw [if_neg hl] at h;simp at h
theorem rank_back (l:List UInt8) (r:List Int) (h:rankS l=some r):∃ zs,r=nI zs/\zs.length=8/\zs.all okL=true/\(wrL zs).1++gapS (wrL zs).2=l:=by
 unfold rankS at h;cases hf:rkFold l with
 | none=>rw [hf] at h;simp at h
 | some st =>
  obtain ⟨acc,a⟩:=st;rw [hf] at h;simp only at h;split at h
  ·rename_i h8;simp at h;subst h;obtain ⟨zs,e1,e2,e3,e4⟩:=read_write l acc a hf;refine ⟨zs,e1,by rw [e1,nI_len] at h8;exact h8,e2,?_⟩;cases a with
   | false=>rw [e3 rfl];simp [gapS]
   | true =>
    obtain ⟨t,g,k1,k2,k3⟩:=e4 rfl;rw [k1,k3];have:gapS g=[UInt8.ofNat (48+g)]:=by unfold gapS;rw [if_neg (by omega)]
    simp [this]
  ·simp at h
theorem rk_gap (t:List UInt8) (ys:List UInt8) (g:Nat) (h:rkFold t=some (nI ys,false)) (h8:ys.length+g<=8):rkFold (t++gapS g)=some (nI (ys++List.replicate g 46),decide (1<=g)):=by
 by_cases h0:g=0
 ·subst h0;simp [gapS,h]
 ·have e:gapS g=[UInt8.ofNat (48+g)]:=by unfold gapS;rw [if_neg h0]
  obtain ⟨d1,d2⟩:=gap_dig g (by omega) (by omega);rw [e,rkFold_snoc,h];unfold rkStep;simp only [d1,if_true,d2,Bool.false_or,nI_len];rw [if_neg (by simp;omega),nI_app,nI_rep];simp;omega
theorem write_read (zs:List UInt8) (h:zs.all okL=true) (h8:zs.length<=8):∃ ys g,zs=ys++List.replicate g 46/\(wrL zs).2=g/\rkFold (wrL zs).1=some (nI ys,false):=by
 induction hn:zs.length generalizing zs with
 | zero =>
  have:zs=[]:=List.length_eq_zero_iff.mp hn;subst this;exact ⟨[],0,rfl,rfl,rfl⟩
 | succ n ih =>
  have hne:zs≠[]:=fun e=>by subst e;simp at hn
  obtain ⟨m,c,rfl⟩:∃ m c,zs=m++[c]:=⟨zs.dropLast,zs.getLast hne,(List.dropLast_concat_getLast hne).symm⟩;rw [List.all_append] at h;simp only [Bool.and_eq_true,List.all_cons,List.all_nil,Bool.and_true] at h;obtain ⟨ys,g,e1,e2,e3⟩:=ih m h.1 (by simp at h8;omega) (by simpa using hn);rw [wrL_snoc];unfold wrStep;by_cases hc:c=46
  ·rw [if_pos hc];exact ⟨ys,g+1,by rw [e1,hc,List.append_assoc,<-List.replicate_succ'],by simp [e2],e3⟩
  ·rw [if_neg hc];have hl:letS c=true:=by have:=h.2;unfold okL at this;simpa [hc] using this
   have hlen:ys.length+g+1<=8:=by have:=congrArg List.length e1;simp at this h8;omega
   refine ⟨m++[c],0,by simp,rfl,?_⟩;simp only [e2];rw [rkFold_snoc,rk_gap _ ys g e3 (by omega),<-e1];unfold rkStep;simp only [dig_let c hl,hl,Bool.false_eq_true,if_false,if_true,nI_len];rw [if_neg (by simp at h8;omega),nI_app];rfl
theorem rank_forth (zs:List UInt8) (h:zs.all okL=true) (h8:zs.length=8):rankS ((wrL zs).1++gapS (wrL zs).2)=some (nI zs):=by
 obtain ⟨ys,g,e1,e2,e3⟩:=write_read zs h (by omega);have hlen:ys.length+g<=8:=by have:=congrArg List.length e1;simp at this;omega
 unfold rankS;rw [e2,rk_gap _ ys g e3 hlen,<-e1];simp [nI_len,h8]
end Go.Proofs.YtnfakamfmkhlbaaGreatDoor.C
