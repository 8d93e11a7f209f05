import Derived.Test.YtnfakamfmkhlbaaGreatDoorZe22
import Derived.Test.YtnfakamfmkhlbaaGreatDoorZe12
set_option maxRecDepth 100000
set_option maxHeartbeats 4000000
set_option linter.unusedSimpArgs false
namespace Go.Proofs.YtnfakamfmkhlbaaGreatDoor.C
open Go.ChangeShapes Go.WideShapes Go.ChangeAt Go.RowKit Go.Shelf
open Go.Proofs.YtnfakamfmkhlbaaGreatDoor.P
attribute [local go_sem] qd qi Oper.semAt_some
theorem onlyI_it {g gf:Nat} {lb lf:Array Value} {T:Obj->Prop} {C:Nat->Prop} {xs:List Nat} {w:World} (hit:It Tryz.prog g lb encI T C xs w) (heg:∀ args w,(callFunc g args).run Tryz.prog w=.ok (.enter g args) w) (hef:∀ args w,(callFunc gf args).run Tryz.prog w=.ok (.enter gf args) w)
  (hTm:OnlyMv T) (hCb:∀ k,C k->k<w.heap.size) (Bt Bf:Nat) (p:Nat->Bool) (hth:w.heap[Bt]?=some (.cells #[.func (.func g) #[] lb] 217)) (hfi:w.heap[Bf]?=some (.cells #[.func (.func gf) #[] lf] 189))
  (hfit:∀ x∈xs,∀ W,Fr (fun k _=>C k) w W->Calls Tryz.prog gf (#[.int .i64 (x:Int)]++lf) W fun e W'=>e=.returned (.bool (p x))/\Gr W W') :
  It Tryz.prog 312 #[.pointer (some ⟨Bt,0,none⟩),.pointer (some ⟨Bf,0,none⟩)] encI T (fun k=>C k\/k=Bt\/k=Bf) (xs.filter p) w:=by
 intro l B J Jx W f0 hB hJ hJx hY h0;have hTc:=hTm.cells;have hth':=f0.same _ _ hth (.inr (.inl rfl));have hfi':=f0.same _ _ hfi (.inr (.inr rfl));have hbt:=(Array.getElem?_eq_some_iff.1 hth).1;have hbf:=(Array.getElem?_eq_some_iff.1 hfi).1;refine (callsIn_wide (n:=9)).1 ?_;refine callsIn_of_wp_marks Tryz.func312 rfl trivial ?_ rfl;simp only [Tryz.ntmps312,List.size_toArray,List.length_cons,List.length_nil,Nat.reduceAdd,Nat.reduceSub,Array.replicate_succ,Array.replicate_zero,List.push_toArray,List.append_toArray,List.nil_append,List.cons_append];have cth:(W.alloc (.cells #[.func (.yield l) #[] #[]] 189)).cell? ⟨Bt,0,none⟩=some (.func (.func g) #[] lb):=(qe ((Below.heap_alloc W _ _ (Array.getElem?_eq_some_iff.1 hth').1).trans hth')).1;gi_wp2;have hyb:=World.alloc_heap_new W (.cells #[.func (.yield l) #[] #[]] 189);have f1:∀ Q:Nat->Obj->Prop,Fr Q W (W.alloc (.cells #[.func (.yield l) #[] #[]] 189)):=fun Q=>(Fr.refl _ _).alloc _
 have hs1:(W.alloc (.cells #[.func (.yield l) #[] #[]] 189)).heap.size=W.heap.size+1:=World.size_alloc _ _;generalize (W.alloc (.cells #[.func (.yield l) #[] #[]] 189))=w1 at cth hyb f1 hs1 ⊢;have hJ1:=hJ _ _ _ h0 (f1 _);have f01:=f0.trans (f1 _);have hww:=f0.size;clear cth hth' hfi' f1
 refine xf (n:=9) (gf:=g) (lb:=lb) rfl heg (hit.mono (C':=fun k=>C k\/k=Bt\/k=Bf) (fun k h=>.inl h)) hTc (by rintro k (hk|rfl|rfl);exact (by have:=hCb k hk;omega);exact (by omega);exact (by omega)) f01 (fun _=>rfl)
  (fun pre V=>V.heap[W.heap.size]?=some (.cells #[.func (.yield l) #[] #[]] 189)/\J (pre.filter p) V/\Fr (fun k _=>C k\/k=Bt\/k=Bf) w V)
  (fun c _ V=>c=.ret/\∃ q,q <+: xs.filter p/\Jx q V)
  ?sI ?sX ⟨hyb,hJ1,f01⟩ ?rnd ?done ?stop
 case sI=>exact fun s A A' h f=>⟨f.same _ _ h.1 (.inl (by omega)),qn hJ (by omega) _ _ _ h.2.1 f,h.2.2.ext f (fun k o e _=>.inl (by have:=(Array.getElem?_eq_some_iff.1 e).1;omega))⟩
 case sX=>exact fun c s A A' h f=>⟨h.1,h.2.elim fun q hq=>⟨q,hq.1,qn hJx (by omega) _ _ _ hq.2 f⟩⟩
 case done =>
  rintro D V hD ⟨_,hj,_⟩ hK;gi_wp2;exact xa (T:=T) Tryz.results312 hTc [D] V ⟨by simp,fun D' hD'=>by rw [List.mem_singleton] at hD';subst hD';exact ⟨by omega,hK⟩⟩ (fun v w' f=>⟨⟨v,rfl⟩,.inl (hJ _ _ _ hj f)⟩)
 case stop =>
  rintro D c pre V hD _ ⟨rfl,q,hq1,hq2⟩ hK;gi_wp2;exact xa (T:=T) Tryz.results312 hTc [D] V ⟨by simp,fun D' hD'=>by rw [List.mem_singleton] at hD';subst hD';exact ⟨by omega,hK⟩⟩ (fun v w' f=>⟨⟨v,rfl⟩,.inr ⟨q,hq1,hJx _ _ _ hq2 f⟩⟩)
 case rnd =>
  rintro l1 pre y V hbl hx ⟨hy,hj,hfw⟩ hl;simp only [encI];gi_wp2;refine ⟨Fr.refl _ _,?_⟩;intro V2 f2 hI2 hl2;obtain ⟨hy2,hj2,hfw2⟩:=hI2;have kfi:=hfw2.same _ _ hfi (.inr (.inr rfl));have cfi:=(qe kfi).1;have hc:=hide (hfit y (qqf hx) V2 (hfw2.mono fun k _ _ q=>.inl q));have keep:∀ V3,Gr V2 V3->V3.heap[W.heap.size]?=some (.cells #[.func (.yield l) #[] #[]] 189)/\J (pre.filter p) V3/\Fr (fun k _=>C k\/k=Bt\/k=Bf) w V3:=fun V3 hg=>⟨(Below.block hg _ (Array.getElem?_eq_some_iff.1 hy2).1).trans hy2,hJ _ _ _ hj2 (Fr.of_gr hg),hfw2.ext (Fr.of_gr (Q:=fun _ _=>True) hg) (fun _ _ _ _=>trivial)⟩
  cases hp:p y
  ·rw [hp] at hc;gi_wp2;refine ⟨trivial,CallsIn.inRound l1 (callsIn_wide.2 ((qa hc).mono ?_))⟩;rintro e V3 ⟨rfl,hg⟩;gi_wp2;refine ⟨fun _ h=>(by cases h),?_⟩;gi_wp2;obtain ⟨z1,z2,z3⟩:=keep V3 hg;refine ⟨Fr.of_gr hg,z1,?_,z3⟩;rw [List.filter_append];simpa [hp] using z2
  ·rw [hp] at hc;gi_wp2;refine ⟨trivial,CallsIn.inRound l1 (callsIn_wide.2 ((qa hc).mono ?_))⟩;rintro e V3 ⟨rfl,hg⟩;obtain ⟨z1,z2,z3⟩:=keep V3 hg;have c3:=(qe z1).1;obtain ⟨fn,tmps,assign,body,hyy,hR⟩:=xu (m':=8) (hY (pre.filter p) y V3 (qxe p hx hp) z2);have hy':(Instr.yield l #[.int .i64 (y:Int)]).run Tryz.prog V3=.ok (.round l fn tmps assign body) V3:=hyy;clear hyy;gi_wp2;have hR':RoundIn (Fence.wide.inRound l1) 8 Tryz.prog l fn tmps assign body V3 (fun e W'=>Fr (Rnd1 B T (fun k=>C k\/k=Bt\/k=Bf)) V3 W'/\((e=.returned (.bool true)/\J (pre.filter p++[y]) W')\/(e=.returned (.bool false)/\Jx (pre.filter p++[y]) W'))):=hR;clear hR;refine hR'.mono ?_;intro e V4 h4;obtain ⟨f4,h4⟩:=h4;have fc1:Fr (Rnd1 w1.heap.size T (fun k=>C k\/k=Bt\/k=Bf)) V2 V4:=(Fr.of_gr hg:Fr _ V2 V3).trans (f4.mono fun k o _ q=>q.elim .inl fun q=>.inr ⟨by omega,q.2⟩);rcases h4 with ⟨rfl,hJ4⟩|⟨rfl,hx4⟩
   ·gi_wp2;refine ⟨fc1,f4.same _ _ z1 (.inr ⟨hB,hTm.no (by decide)⟩),?_,z3.ext f4 (fun k o _ q=>.inl q)⟩;rw [List.filter_append];simpa [hp] using hJ4
   ·gi_wp2;exact ⟨fc1,rfl,_,qxe p hx hp,hx4⟩
structure Ch (gN:Nat->Nat) (lbN:Nat->Array Value) (l B Wb Bp Bg:Nat) (C:Nat->Prop) (w:World) (Ds:List Nat) (W:World):Prop where
 yb:W.heap[Wb]?=some (.cells #[.func (.yield l) #[] #[]] 189)
 cp:W.cell? ⟨Bp,0,none⟩=some (.slice (some ⟨Bg,0,none⟩) 2 2)
 cg:∀ k,k<2->W.cell? ⟨Bg,k,none⟩=some (.func (.func (gN k)) #[] (lbN k))
 fw:Fr (fun k _=>C k) w W
 ms:Marks B Ds W
theorem Ch.fr {gN:Nat->Nat} {lbN:Nat->Array Value} {l B Wb Bp Bg:Nat} {C:Nat->Prop} {w:World} {Ds:List Nat} {W W':World} {Q:Nat->Obj->Prop} (h:Ch gN lbN l B Wb Bp Bg C w Ds W) (f:Fr Q W W') (hq:∀ k o,(k=Wb\/k=Bp\/k=Bg\/(C k/\k<w.heap.size)\/k∈Ds)->W.heap[k]?=some o->Q k o):Ch gN lbN l B Wb Bp Bg C w Ds W' :=
  ⟨f.same _ _ h.yb (hq _ _ (by simp) h.yb),f.cell h.cp (fun o e=>hq _ o (by simp) e),fun k hk=>f.cell (h.cg k hk) (fun o e=>hq _ o (by simp) e),
   h.fw.ext f (fun k o e q=>hq k o (.inr (.inr (.inr (.inl ⟨q,(Array.getElem?_eq_some_iff.1 e).1⟩)))) (h.fw.same k o e q)),h.ms.fr f (fun k o _ _ e hk=>hq k o (by simp [hk]) e)⟩
theorem Ch.below {gN:Nat->Nat} {lbN:Nat->Array Value} {l B Wb Bp Bg:Nat} {C:Nat->Prop} {w:World} {Ds:List Nat} {W W' W0:World} {T:Obj->Prop} {n:Nat} (h0:Ch gN lbN l B Wb Bp Bg C w Ds W0) (hn:W0.heap.size<=n) (h:Ch gN lbN l B Wb Bp Bg C w Ds W) (f:Fr (Own1 n T) W W'):Ch gN lbN l B Wb Bp Bg C w Ds W':=h.fr f (fun k o hk _=>by
 refine .inl ?_;have lc:∀ {p:Addr} {v:Value},W0.cell? p=some v->p.block<n:=fun hp=>Nat.lt_of_lt_of_le (World.block_lt_of_cell? _ _ hp) hn
 rcases hk with rfl|rfl|rfl|⟨_,hk⟩|hk
 ·exact Nat.lt_of_lt_of_le (Array.getElem?_eq_some_iff.1 h0.yb).1 hn
 ·exact lc h0.cp
 ·exact lc (h0.cg 0 (by omega))
 ·exact Nat.lt_of_lt_of_le hk (Nat.le_trans h0.fw.size hn)
 ·exact Nat.lt_of_lt_of_le (Array.getElem?_eq_some_iff.1 (h0.ms.2 k hk).2).1 hn)
theorem Ch.rnd {gN:Nat->Nat} {lbN:Nat->Array Value} {l B Wb Bp Bg:Nat} {C:Nat->Prop} {w:World} {Ds:List Nat} {W W':World} {T:Obj->Prop} (h:Ch gN lbN l B Wb Bp Bg C w Ds W) (hT:OnlyMv T) (hB:B<=Wb) (f:Fr (Rnd1 B T (fun k=>C k\/k=Bp\/k=Bg)) W W'):Ch gN lbN l B Wb Bp Bg C w Ds W':=h.fr f (fun k o hk e=>by
 rcases hk with rfl|hk|hk|hk|hk
 ·rw [h.yb] at e;cases e;exact .inr ⟨hB,hT.no (by decide)⟩
 ·exact .inl (by simp [hk])
 ·exact .inl (by simp [hk])
 ·exact .inl (.inl hk.1)
 ·rw [(h.ms.2 k hk).2] at e;cases e;exact .inr ⟨(h.ms.2 k hk).1,fun q=>by have:=hT.cells _ q;cases this⟩)
theorem Ch.cons {gN:Nat->Nat} {lbN:Nat->Array Value} {l B Wb Bp Bg D:Nat} {C:Nat->Prop} {w:World} {Ds:List Nat} {W:World} (h:Ch gN lbN l B Wb Bp Bg C w Ds W) (hD:B<=D) (hn:D∉Ds) (hK:W.heap[D]?=some (.deferred (some []))):Ch gN lbN l B Wb Bp Bg C w (D :: Ds) W :=
 ⟨h.yb,h.cp,h.cg,h.fw,jq h.ms hD hn hK⟩
def chU (xsN:Nat->List Nat) (k:Nat):List Nat:=(List.range k).flatMap xsN
theorem qv8 (xsN:Nat->List Nat) (k:Nat):chU xsN (k+1)=chU xsN k++xsN k:=by
 unfold chU;rw [List.range_succ,List.flatMap_append];simp
theorem chU_pre (xsN:Nat->List Nat) {k:Nat} (hk:k<2):chU xsN k++xsN k <+: chU xsN 2:=by
 rw [<-qv8];have:k=0\/k=1:=by omega
 rcases this with rfl|rfl
 ·rw [qv8 xsN 1];exact List.prefix_append _ _
 ·exact List.prefix_rfl
theorem chU_two (xsN:Nat->List Nat):chU xsN 2=xsN 0++xsN 1:=by
 show xsN 0++(xsN 1++[])=_;rw [List.append_nil]
def ChI (gN:Nat->Nat) (lbN:Nat->Array Value) (xsN:Nat->List Nat) (l B Wb Bp Bg:Nat) (C:Nat->Prop) (w:World) (J:List Nat->World->Prop) (gk:Nat) (a:Act) (wr:World):Prop :=
 ∃ (k:Nat) (Ds:List Nat) (u3 u4 u5 u9 u10 u11 u12 u13 u14 u15 u16 u17 u18:Value),k+gk=2/\a={ tmps:=#[.func (.yield l) #[] #[],.pointer (some ⟨Bp,0,none⟩),.pointer (some ⟨Wb,0,none⟩),u3,u4,u5,.slice (some ⟨Bg,0,none⟩) 2 2,.int .i64 2,.int .i64 (k:Int),u9,u10,u11,u12,u13,u14,u15,u16,u17,u18],defers:=Ds.map markD }/\Ch gN lbN l B Wb Bp Bg C w Ds wr/\J (chU xsN k) wr
theorem chain_it {gN:Nat->Nat} {lbN:Nat->Array Value} {xsN:Nat->List Nat} {T:Obj->Prop} {C:Nat->Prop} {w:World} (hit:∀ k,k<2->It Tryz.prog (gN k) (lbN k) encI T C (xsN k) w) (heg:∀ k,k<2->∀ args w,(callFunc (gN k) args).run Tryz.prog w=.ok (.enter (gN k) args) w)
  (hTm:OnlyMv T) (hCb:∀ k,C k->k<w.heap.size) (Bp Bg:Nat) (hp:w.cell? ⟨Bp,0,none⟩=some (.slice (some ⟨Bg,0,none⟩) 2 2)) (hg:∀ k,k<2->w.cell? ⟨Bg,k,none⟩=some (.func (.func (gN k)) #[] (lbN k))) :
  It Tryz.prog 314 #[.pointer (some ⟨Bp,0,none⟩)] encI T (fun k=>C k\/k=Bp\/k=Bg) (xsN 0++xsN 1) w:=by
 rw [<-chU_two];intro l B J Jx W f0 hB hJ hJx hY h0
 have hA0:Ch gN lbN l B W.heap.size Bp Bg C w [] (W.alloc (.cells #[.func (.yield l) #[] #[]] 189)):=by
  have f1:=f0.trans ((Fr.refl (fun k _=>C k\/k=Bp\/k=Bg) W).alloc (.cells #[.func (.yield l) #[] #[]] 189));exact ⟨World.alloc_heap_new W _,f1.cell hp (fun _ _=>by simp),fun k hk=>f1.cell (hg k hk) (fun _ _=>by simp),f1.mono (fun k o _ q=>.inl q),⟨List.nodup_nil,fun D hD=>absurd hD List.not_mem_nil⟩⟩
 have hJ0:=hJ _ _ _ h0 ((Fr.refl _ W).alloc (.cells #[.func (.yield l) #[] #[]] 189));refine (callsIn_wide (n:=9)).1 ?_;refine callsIn_of_wp_marks Tryz.func314 rfl trivial ?_ rfl;simp only [Tryz.ntmps314,List.size_toArray,List.length_cons,List.length_nil,Nat.reduceAdd,Nat.reduceSub,Array.replicate_succ,Array.replicate_zero,List.push_toArray,List.append_toArray,List.nil_append,List.cons_append];refine wpIn_wide.2 ?_;clear h0 f0 hp hg;have c0:=hA0.cp;go_wp2_with fail;generalize W.alloc (.cells #[.func (.yield l) #[] #[]] 189)=w1 at hA0 hJ0 c0 ⊢;generalize W.heap.size=Wb at hA0 hB ⊢;clear c0;refine wpIn_wide.1 (wpIn_loop_ghost (rm:=9) (ChI gN lbN xsN l B Wb Bp Bg C w J) 2 ?start ?round)
 case start=>exact ⟨0,[],undef,undef,undef,undef,undef,undef,undef,undef,undef,undef,undef,undef,undef,rfl,rfl,hA0,hJ0⟩
 case round =>
  clear hA0 hJ0;rintro gk a wr ⟨k,Ds,u3,u4,u5,u9,u10,u11,u12,u13,u14,u15,u16,u17,u18,hk,rfl,hM,hJk⟩;have hM':=hide hM;have hJk':=hide hJk;clear hJk;by_cases hlt:k<2
  ·have hsc:Hid (chU xsN (k+1)=chU xsN k++xsN k):=hide (qv8 xsN k);have hpr:Hid (chU xsN k++xsN k <+: chU xsN 2):=hide (chU_pre xsN hlt);have c1:=hM.cg k hlt;have hitk:=hit k hlt;have hegk:=heg k hlt;clear hM;have hDs:∀ D∈Ds,D<wr.heap.size:=fun D hD=>(Array.getElem?_eq_some_iff.1 ((qa hM').ms.2 D hD).2).1
   have hWb6:Wb<wr.heap.size:=(Array.getElem?_eq_some_iff.1 (qa hM').yb).1;have hk0:(0:Int)<=(k:Int):=by omega
   have hk2:(k:Int)<2:=by omega
   have hB6:B<=wr.heap.size:=by omega
   generalize xsN k=xs at hitk hsc hpr;generalize gN k=g at c1 hitk hegk;generalize lbN k=lb at c1 hitk;refine wpIn_wide.2 ?_;go_wp2_with fail
   refine wpIn_wide.1 (xf (n:=9) (gf:=g) (lb:=lb) rfl hegk hitk hTm.cells (fun j hj=>Nat.lt_of_lt_of_le (hCb j hj) (qa hM').fw.size) (qa hM').fw (fun _=>rfl)
    (fun pre V=>Ch gN lbN l B Wb Bp Bg C w Ds V/\J (chU xsN k++pre) V)
    (fun c _ V=>c=.ret/\Marks B Ds V/\∃ q,q <+: chU xsN 2/\Jx q V)
    ?sI ?sX ⟨qa hM',by simpa using qa hJk'⟩ ?rnd ?done ?stop)
   case sI=>exact fun s V V' h f=>⟨(qa hM').below (Nat.le_refl _) h.1 f,qn hJ hB6 _ _ _ h.2 f⟩
   case sX=>exact fun c s V V' h f=>⟨h.1,h.2.1.fr f (fun j o _ _ _ hj=>.inl (hDs _ hj)),h.2.2.elim fun q hq=>⟨q,hq.1,qn hJx hB6 _ _ _ hq.2 f⟩⟩
   case done =>
    rintro D V hD ⟨hMV,hJV⟩ hK;go_wp2_with fail;exact ⟨gk-1,by omega,k+1,D :: Ds,_,_,_,_,_,_,_,_,_,_,_,_,_,by omega,rfl,hMV.cons (by omega) (fun h=>by have:=hDs D h;omega) hK,by rw [qa hsc];exact hJV⟩
   case stop =>
    rintro D c pre V hD hpre ⟨rfl,hms,q,hq1,hq2⟩ hK;refine wpIn_wide.2 ?_;go_wp2_with fail;exact xa (T:=T) Tryz.results314 hTm.cells (D :: Ds) V (jq hms (by omega) (fun h=>by have:=hDs D h;omega) hK) (fun v w' f=>⟨⟨v,rfl⟩,.inr ⟨q,hq1,hJx _ _ _ hq2 f⟩⟩)
   case rnd =>
    intro l1 pre y V hbl hxy hI hl;simp only [encI];gi_wp2;refine ⟨Fr.refl _ _,?_⟩;intro V2 f2 hI2 hl2;obtain ⟨hM2,hJ2⟩:=hI2;have cy:=(qe hM2.yb).1
    have hpy:chU xsN k++pre++[y] <+: chU xsN 2:=by
     refine List.IsPrefix.trans ?_ (qa hpr);rw [List.append_assoc];exact (List.prefix_append_right_inj _).2 hxy
    obtain ⟨fn,tmps,assign,body,hyy,hR⟩:=xu (m':=8) (hY (chU xsN k++pre) y V2 hpy hJ2);have hy':(Instr.yield l #[.int .i64 (y:Int)]).run Tryz.prog V2=.ok (.round l fn tmps assign body) V2:=hyy;clear hyy;have hM2':=hide hM2;clear hM2 hI hl f2;gi_wp2;have hR':RoundIn (Fence.wide.inRound l1) 8 Tryz.prog l fn tmps assign body V2 (fun e W'=>Fr (Rnd1 B T (fun k=>C k\/k=Bp\/k=Bg)) V2 W'/\((e=.returned (.bool true)/\J (chU xsN k++pre++[y]) W')\/(e=.returned (.bool false)/\Jx (chU xsN k++pre++[y]) W'))):=hR;clear hR;refine hR'.mono ?_;clear hR' hy';intro e V4 h4;obtain ⟨f4,h4⟩:=h4;have fc1':Hid (Fr (Rnd1 wr.heap.size T C) V2 V4):=hide (f4.mono fun j o _ q=>q.elim (fun q=>.inl (.inl q)) (fun q=>.inr ⟨by omega,q.2⟩));have hM4':Hid (Ch gN lbN l B Wb Bp Bg C w Ds V4):=hide ((qa hM2').rnd hTm hB f4);rcases h4 with ⟨rfl,hJ4⟩|⟨rfl,hx4⟩
    ·gi_wp2;exact ⟨qa fc1',qa hM4',by rw [<-List.append_assoc];exact hJ4⟩
    ·gi_wp2;exact ⟨qa fc1',rfl,(qa hM4').ms,_,hpy,hx4⟩
  ·have hk2:k=2:=by omega
   subst hk2;clear hM;refine wpIn_wide.2 ?_;go_wp2_with fail;exact xa (T:=T) Tryz.results314 hTm.cells Ds wr (qa hM').ms (fun v w' f=>⟨⟨v,rfl⟩,.inl (hJ _ _ _ (qa hJk') f)⟩)
end Go.Proofs.YtnfakamfmkhlbaaGreatDoor.C
namespace Go.Proofs.YtnfakamfmkhlbaaGreatDoor.C
open Go.ChangeShapes Go.WideShapes Go.ChangeAt Go.RowKit Go.Shelf
open Go.Proofs.YtnfakamfmkhlbaaGreatDoor.P
attribute [local go_sem] qd qi
def pawnB (c:UInt8):Bool:=((c.toNat:Int)==80)||((c.toNat:Int)==112)
def kingB (c:UInt8):Bool:=((c.toNat:Int)==75)||((c.toNat:Int)==107)
theorem je (c:UInt8) (w:World):Calls Tryz.prog 182 #[.int .u8 (c.toNat:Int)] w fun e w'=>e=.returned (.bool (pawnB c))/\w'=w:=by
 obtain ⟨v,hv⟩:∃ v,Hid (v=pawnB c):=⟨_,hide rfl⟩;rw [<-qa hv];have hv2:Hid (v=(((c.toNat:Int)==80)||((c.toNat:Int)==112))):=hv;go_enter Tryz.func182,Tryz.ntmps182;go_wp2
 all_goals
  go_ret;refine ⟨zd ?_,rfl⟩;rw [qa hv2]
  try simp [*]
theorem qz6 (c:UInt8) (w:World):Calls Tryz.prog 183 #[.int .u8 (c.toNat:Int)] w fun e w'=>e=.returned (.bool (kingB c))/\w'=w:=by
 obtain ⟨v,hv⟩:∃ v,Hid (v=kingB c):=⟨_,hide rfl⟩;rw [<-qa hv];have hv2:Hid (v=(((c.toNat:Int)==75)||((c.toNat:Int)==107))):=hv;go_enter Tryz.func183,Tryz.ntmps183;go_wp2
 all_goals
  go_ret;refine ⟨zd ?_,rfl⟩;rw [qa hv2]
  try simp [*]
structure Ps (z:Nat->UInt8) (wh:Bool) (fc:Nat->Bool) (b:Int) (Bp:Nat) (W:World):Prop where
 bd:Bz z Bp W
 wh:W.cell? ⟨Bp,64,none⟩=some (.bool wh)
 c:∀ i,i<4->W.cell? ⟨Bp,65+i,none⟩=some (.bool (fc i))
 b:W.cell? ⟨Bp,69,none⟩=some (.int .i64 b)
theorem Ps.of {z:Nat->UInt8} {wh:Bool} {fc:Nat->Bool} {b h g:Int} {PA:Array Value} (r:Row z wh fc b h g PA) {Bp:Nat} {W:World} {t:TypeId} (hp:W.heap[Bp]?=some (.cells PA t)):Ps z wh fc b Bp W :=
 ⟨fun i hi=>by rw [cell_of_row _ _ _ _ _ _ hp];exact r.sq i hi,by rw [cell_of_row _ _ _ _ _ _ hp];exact r.wh,fun i hi=>by rw [cell_of_row _ _ _ _ _ _ hp];exact r.c i hi,by rw [cell_of_row _ _ _ _ _ _ hp];exact r.b⟩
theorem Ps.fr {z:Nat->UInt8} {wh:Bool} {fc:Nat->Bool} {b:Int} {Bp:Nat} {W W':World} {Q:Nat->Obj->Prop} (h:Ps z wh fc b Bp W) (f:Fr Q W W') (hq:∀ o,W.heap[Bp]?=some o->Q Bp o):Ps z wh fc b Bp W' :=
 ⟨fun i hi=>f.cell (h.bd i hi) (fun o e=>hq o e),f.cell h.wh (fun o e=>hq o e),fun i hi=>f.cell (h.c i hi) (fun o e=>hq o e),f.cell h.b (fun o e=>hq o e)⟩
theorem Ps.gr {z:Nat->UInt8} {wh:Bool} {fc:Nat->Bool} {b:Int} {Bp:Nat} {W W':World} (h:Ps z wh fc b Bp W) (g:Gr W W'):Ps z wh fc b Bp W':=h.fr (Q:=fun _ _=>True) (Fr.of_gr g) (fun _ _=>trivial)
theorem Ps.lt {z:Nat->UInt8} {wh:Bool} {fc:Nat->Bool} {b:Int} {Bp:Nat} {W:World} (h:Ps z wh fc b Bp W):Bp<W.heap.size:=World.block_lt_of_cell? _ _ h.wh
def mayB (z:Nat->UInt8) (wh:Bool) (b:Int) (f t:Nat):Bool:=if pawnB (z f) then ((t:Int)==b)||manB (z t) (!wh) else !(manB (z t) wh)
theorem mayGo_any {z:Nat->UInt8} {wh:Bool} {fc:Nat->Bool} {b:Int} {Bp:Nat} {w:World} (h:Ps z wh fc b Bp w) (f t:Nat) (hf:f<64) (ht:t<64) :
  Calls Tryz.prog 282 #[.pointer (some ⟨Bp,0,none⟩),.int .i64 (f:Int),.int .i64 (t:Int)] w fun e w'=>e=.returned (.bool (mayB z wh b f t))/\Gr w w':=by
 have c1:=h.bd f hf;have c2:=h.bd t ht;have c3:=h.wh;have c4:=h.b;have hp:=hide (fun W=>je (z f) W);have hm:=hide (fun x W=>qxa (z t) x W);obtain ⟨v,hv⟩:∃ v,Hid (v=mayB z wh b f t):=⟨_,hide rfl⟩;rw [<-qa hv];have hv2:Hid (v=if pawnB (z f) then ((t:Int)==b)||manB (z t) (!wh) else !(manB (z t) wh)):=hv;clear hv h;generalize pawnB (z f)=pw at hp hv2;have hf0:(0:Int)<=(f:Int):=by omega
 have hf1:(f:Int)<64:=by omega
 have ht0:(0:Int)<=(t:Int):=by omega
 have ht1:(t:Int)<64:=by omega
 cases pw
 ·go_enter Tryz.func282,Tryz.ntmps282;go_upto_region 3 with (go_at_call 182;refine (qa hp _).mono ?_;rintro e w' ⟨rfl,rfl⟩);go_quiet ((go_at_call 159;exact Calls.quiet_of_same (qa hm _ _)));go_wp2;go_ret;refine ⟨zd ?_,(Gr.refl _).drewN _⟩;rw [qa hv2];simp
 ·obtain ⟨q,hq⟩:∃ q,((t:Int)==b)=q:=⟨_,rfl⟩;rw [hq] at hv2;cases q
  ·go_enter Tryz.func282,Tryz.ntmps282;go_upto_region 2 with (go_at_call 182;refine (qa hp _).mono ?_;rintro e w' ⟨rfl,rfl⟩);go_quiet ((go_at_call 159;exact Calls.quiet_of_same (qa hm _ _)));go_wp2;go_ret;refine ⟨zd ?_,(Gr.refl _).drewN _⟩;rw [qa hv2];simp
  ·go_enter Tryz.func282,Tryz.ntmps282;go_upto_region 2 with (go_at_call 182;refine (qa hp _).mono ?_;rintro e w' ⟨rfl,rfl⟩);go_quiet ((go_at_call 159;exact Calls.quiet_of_same (qa hm _ _)));go_wp2;go_ret;refine ⟨zd ?_,(Gr.refl _).drewN _⟩;rw [qa hv2];simp
theorem manN_any {z:Nat->UInt8} {wh:Bool} {fc:Nat->Bool} {b:Int} {Bp:Nat} {w:World} (h:Ps z wh fc b Bp w) (B1 B2:Nat) (f t:Nat) (hf:f<64) (ht:t<64) (h1:w.cell? ⟨B1,0,none⟩=some (.pointer (some ⟨Bp,0,none⟩))) (h2:w.cell? ⟨B2,0,none⟩=some (.int .i64 (f:Int))) :
  Calls Tryz.prog 281 #[.int .i64 (t:Int),.pointer (some ⟨B1,0,none⟩),.pointer (some ⟨B2,0,none⟩)] w fun e w'=>e=.returned (.bool (mayB z wh b f t))/\Gr w w':=by
 have hm:=hide (mayGo_any h f t hf ht);clear h;go_enter Tryz.func281,Tryz.ntmps281;go_wp2_with (go_at_call 282;refine (qa hm).mono ?_;rintro e w' ⟨rfl,hg⟩);go_ret;exact ⟨rfl,hg⟩
theorem attacks_mk {z:Nat->UInt8} {A x:Nat} (hx:x<64) (w:World) (hb:Bz z A w):Calls Tryz.prog 280 #[.pointer (some ⟨A,0,none⟩),.int .i64 (x:Int)] w fun e w'=>e=.returned (.func (.func 313) #[] #[.pointer (some ⟨w.heap.size+2,0,none⟩),.pointer (some ⟨w.heap.size,0,none⟩),.pointer (some ⟨w.heap.size+1,0,none⟩)])/\w'.heap[w.heap.size]?=some (.cells #[.pointer (some ⟨A,0,none⟩)] 243)/\w'.heap[w.heap.size+1]?=some (.cells #[.int .i64 (x:Int)] 3)/\w'.heap[w.heap.size+2]?=some (.cells #[.int .u8 ((z x).toNat:Int)] 5)/\Gr w w'/\w'.heap.size=w.heap.size+3:=by
 have hmf:∀ (fn:Fn) (first cap:Array Value) (w:World),(Instr.makeFunc fn first cap).run Tryz.prog w=.ok (.func fn first cap) w:=fun _ _ _ _=>rfl
 have hg0:Gr w ((w.alloc (.cells #[.pointer (some ⟨A,0,none⟩)] 243)).alloc (.cells #[.int .i64 (x:Int)] 3)):=((Gr.refl w).alloc _ _).alloc _ _;obtain ⟨h1,h2⟩:=heapTwo w (.cells #[.pointer (some ⟨A,0,none⟩)] 243) (.cells #[.int .i64 (x:Int)] 3);have c1:=(qe h1).1;have c2:=(qe h2).1;have cx:=(Below.cell hg0 (World.block_lt_of_cell? _ _ (hb x hx))).trans (hb x hx);have hx0:(0:Int)<=(x:Int):=by omega
 have hx1:(x:Int)<64:=by omega
 have hs0:((w.alloc (.cells #[.pointer (some ⟨A,0,none⟩)] 243)).alloc (.cells #[.int .i64 (x:Int)] 3)).heap.size=w.heap.size+2:=by simp
 go_enter Tryz.func280,Tryz.ntmps280;go_upto_region 1 with fail;generalize ((w.alloc (.cells #[.pointer (some ⟨A,0,none⟩)] 243)).alloc (.cells #[.int .i64 (x:Int)] 3))=w2 at hg0 h1 h2 c1 c2 cx hs0 ⊢;have hin:Hid (∀ w',Gr w2 w'->Gr w2 w'/\w'.cell? ⟨w.heap.size,0,none⟩=some (.pointer (some ⟨A,0,none⟩))/\w'.cell? ⟨w.heap.size+1,0,none⟩=some (.int .i64 (x:Int))/\w'.cell? ⟨A,x,none⟩=some (.int .u8 ((z x).toNat:Int))):=hide (fun w' g=>⟨g,(Below.cell g (World.block_lt_of_cell? _ _ c1)).trans c1,(Below.cell g (World.block_lt_of_cell? _ _ c2)).trans c2,(Below.cell g (World.block_lt_of_cell? _ _ cx)).trans cx⟩);go_region_held3 (fun w'=>Gr w2 w'/\w'.cell? ⟨w.heap.size,0,none⟩=some (.pointer (some ⟨A,0,none⟩))/\w'.cell? ⟨w.heap.size+1,0,none⟩=some (.int .i64 (x:Int))/\w'.cell? ⟨A,x,none⟩=some (.int .u8 ((z x).toNat:Int))) (first|exact qa hin _ (Gr.refl _).drew|exact qa hin _ ((Gr.refl _).alloc _ _).drew) (fail);have e0:=World.alloc_heap_new w2 (.cells #[.int .u8 ((z x).toNat:Int)] 5);have e1:=(Below.heap_alloc w2 (.cells #[.int .u8 ((z x).toNat:Int)] 5) w.heap.size (by omega)).trans h1;have e2:=(Below.heap_alloc w2 (.cells #[.int .u8 ((z x).toNat:Int)] 5) (w.heap.size+1) (by omega)).trans h2;rw [hs0] at e0;go_wp2;go_ret;exact ⟨rfl,e1,e2,e0,(hg0.alloc _ _).drew,by show (w2.alloc _).heap.size=_;rw [World.size_alloc,hs0]⟩
theorem onlyI_mk (g gf:Nat) (lb lf:Array Value) (w:World):Calls Tryz.prog 279 #[.func (.func g) #[] lb,.func (.func gf) #[] lf] w fun e w'=>e=.returned (.func (.func 312) #[] #[.pointer (some ⟨w.heap.size,0,none⟩),.pointer (some ⟨w.heap.size+1,0,none⟩)])/\w'.heap[w.heap.size]?=some (.cells #[.func (.func g) #[] lb] 217)/\w'.heap[w.heap.size+1]?=some (.cells #[.func (.func gf) #[] lf] 189)/\Gr w w':=by
 have hmf:∀ (fn:Fn) (first cap:Array Value) (w:World),(Instr.makeFunc fn first cap).run Tryz.prog w=.ok (.func fn first cap) w:=fun _ _ _ _=>rfl
 obtain ⟨h1,h2⟩:=heapTwo w (.cells #[.func (.func g) #[] lb] 217) (.cells #[.func (.func gf) #[] lf] 189);go_enter Tryz.func279,Tryz.ntmps279;go_wp2;go_ret;exact ⟨rfl,h1,h2,((Gr.refl w).alloc _ _).alloc _ _⟩
theorem chain_mk (v:Value) (w:World) (hv:v.oneCell'=true):Calls Tryz.prog 283 #[v] w fun e w'=>e=.returned (.func (.func 314) #[] #[.pointer (some ⟨w.heap.size,0,none⟩)])/\w'.heap[w.heap.size]?=some (.cells #[v] 356)/\Gr w w':=by
 have hmf:∀ (fn:Fn) (first cap:Array Value) (w:World),(Instr.makeFunc fn first cap).run Tryz.prog w=.ok (.func fn first cap) w:=fun _ _ _ _=>rfl
 go_enter Tryz.func283,Tryz.ntmps283;go_wp2;go_ret;exact ⟨rfl,World.alloc_heap_new w _,(Gr.refl w).alloc _ _⟩
end Go.Proofs.YtnfakamfmkhlbaaGreatDoor.C
namespace Go.Proofs.YtnfakamfmkhlbaaGreatDoor.C
open Go.ChangeShapes Go.WideShapes Go.ChangeAt Go.RowKit Go.Shelf
open Go.Proofs.YtnfakamfmkhlbaaGreatDoor.P
attribute [local go_sem] qd qi Oper.semAt_some
def ahT (z:Nat->UInt8) (most:Nat) (xs:List Nat):List Nat:=(xs.take most).takeWhile fun v=>z v==46
theorem tw_all {p:Nat->Bool}:∀ (l:List Nat),(∀ v∈l,p v=true)->∀ r,(l++r).takeWhile p=l++r.takeWhile p
 | [],_,r=>rfl
 | a :: l,h,r=>by
   rw [List.cons_append,List.takeWhile_cons,h a (List.mem_cons_self ..),if_pos rfl,tw_all l (fun v hv=>h v (List.mem_cons_of_mem _ hv)) r,List.cons_append]
theorem ah_stop {z:Nat->UInt8} {most:Nat} {pre xs:List Nat} {y:Nat} (h:pre++[y] <+: xs) (hp:∀ v∈pre,z v=46) (hl:pre.length<=most) (hs:pre.length=most\/z y≠46):ahT z most xs=pre:=by
 obtain ⟨r,rfl⟩:=h;have hp':∀ v∈pre,(z v==46)=true:=fun v hv=>by rw [hp v hv];rfl
 unfold ahT;rw [List.append_assoc,List.take_append];by_cases e:pre.length=most
 ·rw [List.take_of_length_le (by omega),show most-pre.length=0 by omega,List.take_zero,tw_all pre hp'];simp
 ·rcases hs with hs|hs
  ·exact absurd hs e
  ·obtain ⟨k,hk⟩:∃ k,most-pre.length=k+1:=⟨most-pre.length-1,by omega⟩;rw [List.take_of_length_le (by omega),hk,tw_all pre hp'];simp [hs]
theorem ah_more {z:Nat->UInt8} {most:Nat} {pre xs:List Nat} {y:Nat} (h:pre++[y] <+: xs) (hp:∀ v∈pre,z v=46) (hl:pre.length<most) (hs:z y=46):pre++[y] <+: ahT z most xs:=by
 obtain ⟨r,rfl⟩:=h
 have hp':∀ v∈pre++[y],(z v==46)=true:=fun v hv=>by
  rcases List.mem_append.1 hv with hv|hv
  ·rw [hp v hv];rfl
  ·rw [List.mem_singleton.1 hv,hs];rfl
 unfold ahT;rw [List.take_append,List.take_of_length_le (by simp;omega),tw_all _ hp'];exact List.prefix_append _ _
theorem ah_all {z:Nat->UInt8} {most:Nat} {xs:List Nat} (hp:∀ v∈xs,z v=46) (hl:xs.length<=most):ahT z most xs=xs:=by
 unfold ahT;rw [List.take_of_length_le hl];have:=tw_all xs (p:=fun v=>z v==46) (fun v hv=>by rw [hp v hv];rfl) [];simpa using this
structure Ah (z:Nat->UInt8) (wh:Bool) (fc:Nat->Bool) (b:Int) (f:Nat) (a c:Int) (most B1 B2 B3 B4 Bp:Nat) (W:World):Prop where
 b1:W.cell? ⟨B1,0,none⟩=some (.pointer (some ⟨Bp,0,none⟩))
 b2:W.cell? ⟨B2,0,none⟩=some (.int .i64 (f:Int))
 b3:W.cell? ⟨B3,0,none⟩=some (.int .i64 a)
 b3':W.cell? ⟨B3,1,none⟩=some (.int .i64 c)
 b4:W.cell? ⟨B4,0,none⟩=some (.int .i64 (most:Int))
 ps:Ps z wh fc b Bp W
theorem Ah.fr {z:Nat->UInt8} {wh:Bool} {fc:Nat->Bool} {b:Int} {f:Nat} {a c:Int} {most B1 B2 B3 B4 Bp:Nat} {W W':World} {Q:Nat->Obj->Prop} (h:Ah z wh fc b f a c most B1 B2 B3 B4 Bp W) (g:Fr Q W W') (hq:∀ k o,(k=B1\/k=B2\/k=B3\/k=B4\/k=Bp)->W.heap[k]?=some o->Q k o):Ah z wh fc b f a c most B1 B2 B3 B4 Bp W' :=
 ⟨g.cell h.b1 (fun o e=>hq _ o (by simp) e),g.cell h.b2 (fun o e=>hq _ o (by simp) e),g.cell h.b3 (fun o e=>hq _ o (by simp) e),g.cell h.b3' (fun o e=>hq _ o (by simp) e),g.cell h.b4 (fun o e=>hq _ o (by simp) e),h.ps.fr g (fun o e=>hq _ o (by simp) e)⟩
theorem Ah.gr {z:Nat->UInt8} {wh:Bool} {fc:Nat->Bool} {b:Int} {f:Nat} {a c:Int} {most B1 B2 B3 B4 Bp:Nat} {W W':World} (h:Ah z wh fc b f a c most B1 B2 B3 B4 Bp W) (g:Gr W W'):Ah z wh fc b f a c most B1 B2 B3 B4 Bp W':=h.fr (Q:=fun _ _=>True) (Fr.of_gr g) (fun _ _ _ _=>trivial)
theorem Ah.lt {z:Nat->UInt8} {wh:Bool} {fc:Nat->Bool} {b:Int} {f:Nat} {a c:Int} {most B1 B2 B3 B4 Bp:Nat} {W:World} (h:Ah z wh fc b f a c most B1 B2 B3 B4 Bp W):∀ k,(k=B1\/k=B2\/k=B3\/k=B4\/k=Bp)->k<W.heap.size:=by
 rintro k (rfl|rfl|rfl|rfl|rfl)
 ·exact World.block_lt_of_cell? _ _ h.b1
 ·exact World.block_lt_of_cell? _ _ h.b2
 ·exact World.block_lt_of_cell? _ _ h.b3
 ·exact World.block_lt_of_cell? _ _ h.b4
 ·exact h.ps.lt
theorem ahead_it {z:Nat->UInt8} {wh:Bool} {fc:Nat->Bool} {b:Int} {f:Nat} (hf:f<64) {a c:Int} (hsm:small (a,c)) (hnz:a≠0\/c≠0) {most:Nat} (hmo:most<=2) {B1 B2 B3 B4 Bp:Nat} (T:Obj->Prop) (hTm:OnlyMv T) (w:World) (hw:Ah z wh fc b f a c most B1 B2 B3 B4 Bp w) :
  It Tryz.prog 315 #[.pointer (some ⟨B1,0,none⟩),.pointer (some ⟨B2,0,none⟩),.pointer (some ⟨B3,0,none⟩),.pointer (some ⟨B4,0,none⟩)] encI T (fun k=>k=B1\/k=B2\/k=B3\/k=B4\/k=Bp) (ahT z most (wkL z (a,c) f)) w:=by
 intro l B J Jx W f0 hB hJ hJx hY h0;have hW:=hw.fr f0 (fun k o hk _=>hk);clear f0 hw;refine (callsIn_wide (n:=9)).1 ?_;refine callsIn_of_wp_marks Tryz.func315 rfl trivial ?_ rfl;simp only [Tryz.ntmps315,List.size_toArray,List.length_cons,List.length_nil,Nat.reduceAdd,Nat.reduceSub,Array.replicate_succ,Array.replicate_zero,List.push_toArray,List.append_toArray,List.nil_append,List.cons_append];refine wpIn_wide.2 ?_;obtain ⟨x1,x2⟩:=heapTwo W (.cells #[.func (.yield l) #[] #[]] 189) (.cells #[.int .i64 0] 3);have hg2:Gr W ((W.alloc (.cells #[.func (.yield l) #[] #[]] 189)).alloc (.cells #[.int .i64 0] 3)):=((Gr.refl W).alloc _ _).alloc _ _;have hs2:((W.alloc (.cells #[.func (.yield l) #[] #[]] 189)).alloc (.cells #[.int .i64 0] 3)).heap.size=W.heap.size+2:=by simp
 go_upto_region 2 with fail;generalize ((W.alloc (.cells #[.func (.yield l) #[] #[]] 189)).alloc (.cells #[.int .i64 0] 3))=w2 at x1 x2 hg2 hs2 ⊢;have hA2:=hW.gr hg2;have c1:=hA2.b1;have c2:=hA2.b2;have c3:=hA2.b3;have c4:=hA2.b3';have hin:Hid (∀ w',Gr w2 w'->Gr w2 w'/\w'.cell? ⟨B1,0,none⟩=some (.pointer (some ⟨Bp,0,none⟩))/\w'.cell? ⟨B2,0,none⟩=some (.int .i64 (f:Int))/\w'.cell? ⟨B3,0,none⟩=some (.int .i64 a)/\w'.cell? ⟨B3,1,none⟩=some (.int .i64 c)):=hide (fun w' g=>⟨g,(hA2.gr g).b1,(hA2.gr g).b2,(hA2.gr g).b3,(hA2.gr g).b3'⟩);have hmk:=hide (fun W=>walk_mk Bp f a c W);go_region_held3 (fun w'=>Gr w2 w'/\w'.cell? ⟨B1,0,none⟩=some (.pointer (some ⟨Bp,0,none⟩))/\w'.cell? ⟨B2,0,none⟩=some (.int .i64 (f:Int))/\w'.cell? ⟨B3,0,none⟩=some (.int .i64 a)/\w'.cell? ⟨B3,1,none⟩=some (.int .i64 c)) (first|exact qa hin _ (Gr.refl _).drew|exact qa hin _ (by assumption)) (first|(go_at_call 158;refine (qa hmk _).mono ?_;rintro e w6 ⟨rfl,hwk,hg6,hs6⟩;have hg7:=Gr.trans (Gr.refl w2).drew hg6));go_wp2_with fail;have hgw:=Gr.trans hg2 hg7;have hA6:=hW.gr hgw;have hsz:w2.drew.heap.size=W.heap.size+2:=hs2;rw [hsz] at hwk hs6;have hJ6:=hJ _ _ _ h0 (Fr.of_gr hgw);have k0:=(Below.block hg7 _ (Array.getElem?_eq_some_iff.1 x1).1).trans x1;have k1:=(Below.block hg7 _ (Array.getElem?_eq_some_iff.1 x2).1).trans x2;have hs7:W.heap.size+2+3<=w6.heap.size:=by omega
 have hpos2:=hW.lt;have hpos:Bp<W.heap.size:=hW.ps.lt;clear hs6 hg6 hg7 hgw x1 x2 hg2 hs2 hsz hA2 c1 c2 c3 c4 hin hmk hW h0;generalize W.heap.size=Wb at hB hwk hs7 k0 k1 hpos hpos2 ⊢;have hlt6:=hA6.lt;have hwk6:=hwk.wk hA6.ps.bd;have hB6:B<=w6.heap.size:=by omega
 have hms:∀ {D:Nat} {V:World},w6.heap.size<=D->V.heap[D]?=some (.deferred (some []))->Marks B [D] V:=fun hD hK=>⟨by simp,fun D' hD'=>by rw [List.mem_singleton] at hD';subst hD';exact ⟨by omega,hK⟩⟩
 refine wpIn_wide.1 (xf (n:=9) (gf:=232) (lb:=wkA (Wb+2)) rfl (enters_of Tryz.func232 (by kernel_rfl) rfl)
  (walk_it z f hf a c hsm hnz (Wb+2+1) (Wb+2+2) (Wb+2) Bp T w6 hwk6) hTm.cells (by rintro j (rfl|rfl|rfl|rfl);exact (by omega);exact (by omega);exact (by omega);exact hA6.ps.lt) (Fr.refl _ _) (fun _=>rfl)
  (fun pre V=>Ah z wh fc b f a c most B1 B2 B3 B4 Bp V/\WkAt Bp f a c (Wb+2) V/\V.heap[Wb]?=some (.cells #[.func (.yield l) #[] #[]] 189)/\V.heap[Wb+1]?=some (.cells #[.int .i64 (pre.length:Int)] 3)/\(∀ v∈pre,z v=46)/\pre.length<=most/\J pre V)
  (fun k _ V=>k=.ret/\(J (ahT z most (wkL z (a,c) f)) V\/∃ q,q <+: ahT z most (wkL z (a,c) f)/\Jx q V))
  ?sI ?sX ⟨hA6,hwk,k0,k1,fun v hv=>absurd hv List.not_mem_nil,Nat.zero_le _,hJ6⟩ ?rnd ?done ?stop)
 case sI=>exact fun s V V' h g=>⟨h.1.fr g (fun k o hk _=>.inl (hlt6 k hk)),⟨g.same _ _ h.2.1.b0 (.inl (by omega)),g.same _ _ h.2.1.b1 (.inl (by omega)),g.same _ _ h.2.1.b2 (.inl (by omega))⟩,g.same _ _ h.2.2.1 (.inl (by omega)),g.same _ _ h.2.2.2.1 (.inl (by omega)),h.2.2.2.2.1,h.2.2.2.2.2.1,qn hJ hB6 _ _ _ h.2.2.2.2.2.2 g⟩
 case sX=>exact fun k s V V' h g=>⟨h.1,h.2.imp (fun h=>qn hJ hB6 _ _ _ h g) (fun h=>h.elim fun q hq=>⟨q,hq.1,qn hJx hB6 _ _ _ hq.2 g⟩)⟩
 case done =>
  rintro D V hD ⟨_,_,_,_,hall,hlen,hJV⟩ hK;have e:=hide (ah_all hall hlen);clear hall hlen;go_wp2_with fail;exact xa (T:=T) Tryz.results315 hTm.cells [D] V (hms hD hK) (fun v w' g=>⟨⟨v,rfl⟩,.inl (by rw [qa e];exact hJ _ _ _ hJV g)⟩)
 case stop =>
  rintro D k pre V hD hpre ⟨rfl,hjx⟩ hK;refine wpIn_wide.2 ?_;go_wp2_with fail;exact xa (T:=T) Tryz.results315 hTm.cells [D] V (hms hD hK) (fun v w' g=>⟨⟨v,rfl⟩,hjx.imp (fun h=>hJ _ _ _ h g) (fun h=>h.elim fun q hq=>⟨q,hq.1,hJx _ _ _ hq.2 g⟩)⟩)
 case rnd =>
  intro l1 pre y V hbl hxy hI hl;simp only [encI];gi_wp2;refine ⟨Fr.refl _ _,?_⟩;intro V2 f2 hI2 hl2;obtain ⟨hA2,hwk2,hy2,hm2,hall,hlen,hJ2⟩:=hI2;have hy64:y<64:=wk_lt hf (qqf hxy);have hy0:(0:Int)<=(y:Int):=by omega
  have hy1:(y:Int)<64:=by omega
  have d1:=hA2.b1;have d4:=hA2.b4;have dy:=hA2.ps.bd y hy64;have dm:=(qe hm2).1;have dyb:=(qe hy2).1;have hA2':=hide hA2;have hwk2':=hide hwk2;have hy2':=hide hy2;have hm2':=hide hm2;have hall':=hide hall;clear hA2 hwk2 hy2 hm2 hall hI hl f2;by_cases hq:pre.length=most
  ·have e:=hide (ah_stop hxy (qa hall') hlen (.inl hq));rw [hq] at dm;gi_wp2;refine ⟨fun _ h=>(by cases h),?_⟩;gi_wp2;exact ⟨Fr.refl _ _,rfl,.inl (by rw [qa e];exact hJ2)⟩
  ·have hql:pre.length<most:=by omega
   have hqb:((pre.length:Int)==(most:Int))=false:=by simp;omega
   by_cases h46:z y=46
   ·have hz:((z y).toNat:Int)=46:=by rw [h46];rfl
    rw [hz] at dy;have hpy:=ah_more hxy (qa hall') hql h46;obtain ⟨fn,tmps,assign,body,hyy,hR⟩:=xu (m':=8) (hY pre y V2 hpy hJ2);have hy':(Instr.yield l #[.int .i64 (y:Int)]).run Tryz.prog V2=.ok (.round l fn tmps assign body) V2:=hyy;clear hyy;have hpy':=hide hpy;clear hpy;gi_wp2;have hR':RoundIn (Fence.wide.inRound l1) 8 Tryz.prog l fn tmps assign body V2 (fun e W'=>Fr (Rnd1 B T (fun k=>k=B1\/k=B2\/k=B3\/k=B4\/k=Bp)) V2 W'/\((e=.returned (.bool true)/\J (pre++[y]) W')\/(e=.returned (.bool false)/\Jx (pre++[y]) W'))):=hR;clear hR;refine hR'.mono ?_;clear hR' hy';intro e V4 h4;obtain ⟨f4,h4⟩:=h4
    have fc1:Fr (Rnd1 w6.heap.size T (fun j=>j=Wb+2+1\/j=Wb+2+2\/j=Wb+2\/j=Bp)) V2 V4:=rnd_in f4 hTm hB6 (by
     rintro j (rfl|rfl|rfl|rfl)
     ·exact .inr (qp (by omega) (by decide) (qa hwk2').b1)
     ·exact .inr (qp (by omega) (by decide) (qa hwk2').b2)
     ·exact .inr (qp (by omega) (by decide) (qa hwk2').b0)
     ·exact .inl (by simp))
    rcases h4 with ⟨rfl,hJ4⟩|⟨rfl,hx4⟩
    ·have hA4:Ah z wh fc b f a c most B1 B2 B3 B4 Bp V4:=(qa hA2').fr f4 (fun k o hk _=>.inl hk);have hwk4:WkAt Bp f a c (Wb+2) V4:=⟨(qp (by omega) (by decide) (qa hwk2').b0).keep hTm f4 (qa hwk2').b0,(qp (by omega) (by decide) (qa hwk2').b1).keep hTm f4 (qa hwk2').b1,(qp (by omega) (by decide) (qa hwk2').b2).keep hTm f4 (qa hwk2').b2⟩;have hy4:=(qp (by omega) (by decide) (qa hy2')).keep hTm f4 (qa hy2');have hm4:=(qp (by omega) (by decide) (qa hm2')).keep hTm f4 (qa hm2');obtain ⟨m1,m2⟩:=qe hm4;have hlt4:=hA4.lt;have hwr:IntKind.i64.wrap ((pre.length:Int)+1)=(pre.length:Int)+1:=by rw [IntKind.wrap_i64];omega
     have fs:Fr (fun k o=>k≠Wb+1) V4 (V4.setCell ⟨Wb+1,0,none⟩ (.int .i64 ((pre.length:Int)+1))):=(Fr.refl _ _).setCell _ (fun o _ q=>q rfl)
     have fin:Hid (Fr (Rnd1 w6.heap.size T (fun j=>j=Wb+2+1\/j=Wb+2+2\/j=Wb+2\/j=Bp)) V2 (V4.setCell ⟨Wb+1,0,none⟩ (.int .i64 ((pre.length:Int)+1)))/\Ah z wh fc b f a c most B1 B2 B3 B4 Bp (V4.setCell ⟨Wb+1,0,none⟩ (.int .i64 ((pre.length:Int)+1)))/\WkAt Bp f a c (Wb+2) (V4.setCell ⟨Wb+1,0,none⟩ (.int .i64 ((pre.length:Int)+1)))/\(V4.setCell ⟨Wb+1,0,none⟩ (.int .i64 ((pre.length:Int)+1))).heap[Wb]?=some (.cells #[.func (.yield l) #[] #[]] 189)/\(V4.setCell ⟨Wb+1,0,none⟩ (.int .i64 ((pre.length:Int)+1))).heap[Wb+1]?=some (.cells #[.int .i64 ((pre++[y]).length:Int)] 3)/\(∀ v∈pre++[y],z v=46)/\(pre++[y]).length<=most/\J (pre++[y]) (V4.setCell ⟨Wb+1,0,none⟩ (.int .i64 ((pre.length:Int)+1)))):=hide (by
      refine ⟨fc1.setCell _ ?_,hA4.fr fs (fun k o hk e he=>?_),⟨fs.same _ _ hwk4.b0 (by omega),fs.same _ _ hwk4.b1 (by omega),fs.same _ _ hwk4.b2 (by omega)⟩,fs.same _ _ hy4 (by omega),?_,?_,by simp;omega,hJ _ _ _ hJ4 ((Fr.refl _ _).setCell _ ?_)⟩
      ·rintro o-(q|q)
       ·simp only at q;rcases q with q|q|q|q
        ·omega
        ·omega
        ·omega
        ·have:=hpos;omega
       ·have:=q.1;simp only at this;omega
      ·subst he;have:=hpos2 _ hk;omega
      ·rw [jl hm4];simp
      ·intro v hv;rcases List.mem_append.1 hv with hv|hv
       ·exact qa hall' v hv
       ·rw [List.mem_singleton.1 hv];exact h46
      ·intro o e q;rw [hm4] at e;cases e;rcases q with q|q
       ·simp only at q;omega
       ·exact hTm.no (by decide) q)
     gi_wp2;exact qa fin
    ·gi_wp2;exact ⟨fc1,rfl,.inr ⟨_,qa hpy',hx4⟩⟩
   ·have e:=hide (ah_stop hxy (qa hall') hlen (.inr h46))
    have hz:(((z y).toNat:Int) != 46)=true:=by
     simp only [bne_iff_ne];intro h;apply h46;apply UInt8.toNat_inj.1;have:(z y).toNat=46:=by omega
     rw [this];rfl
    gi_wp2;refine ⟨fun _ h=>(by cases h),?_⟩;gi_wp2;exact ⟨Fr.refl _ _,rfl,.inl (by rw [qa e];exact hJ2)⟩
end Go.Proofs.YtnfakamfmkhlbaaGreatDoor.C
