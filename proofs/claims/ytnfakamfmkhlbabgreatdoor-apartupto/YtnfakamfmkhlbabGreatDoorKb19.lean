import Derived.Test.YtnfakamfmkhlbabGreatDoorKb18
import Derived.Test.YtnfakamfmkhlbabGreatDoorIb
import Derived.Test.YtnfakamfmkhlbabGreatDoorKb12
set_option maxRecDepth 100000
set_option maxHeartbeats 4000000
set_option linter.unusedSimpArgs false
namespace Go.Proofs.YtnfakamfmkhlbabGreatDoor.C
open Go.ChangeShapes Go.WideShapes Go.ChangeAt Go.RowKit Go.Shelf
open Go.Proofs.YtnfakamfmkhlbabGreatDoor.P
attribute [local go_sem] setCell_drewN alloc_drewN Oper.semAt_some
def KgHome (z:Nat->UInt8) (wh:Bool) (fc:Nat->Bool):Prop:=∀ f,f<64->manB (z f) wh=true->kingB (z f)=true->(fc (cgF wh)||fc (cgF wh+1))=true->f=4\/f=60
def alF (z:Nat->UInt8) (f t:Nat):List Mv:=turnsB (pawnB (z f)) f t
def alS (z:Nat->UInt8) (wh:Bool) (fc:Nat->Bool) (b:Int) (f:Nat):List Mv:=if manB (z f) wh then (tgL z wh fc b f).flatMap (alF z f) else []
def alU (z:Nat->UInt8) (wh:Bool) (fc:Nat->Bool) (b:Int) (k:Nat):List Mv:=(List.range k).flatMap (alS z wh fc b)
theorem alU_succ (z:Nat->UInt8) (wh:Bool) (fc:Nat->Bool) (b:Int) (k:Nat):alU z wh fc b (k+1)=alU z wh fc b k++alS z wh fc b k:=by
 unfold alU;rw [List.range_succ,List.flatMap_append];simp
theorem alU_mono (z:Nat->UInt8) (wh:Bool) (fc:Nat->Bool) (b:Int) (k:Nat):∀ d,alU z wh fc b k <+: alU z wh fc b (k+d)
 | 0=>List.prefix_rfl
 | d+1=>(alU_mono z wh fc b k d).trans (by rw [<-Nat.add_assoc,alU_succ];exact List.prefix_append _ _)
theorem alU_pre (z:Nat->UInt8) (wh:Bool) (fc:Nat->Bool) (b:Int) {k:Nat} (hk:k<64):alU z wh fc b k++alS z wh fc b k <+: alU z wh fc b 64:=by
 rw [<-alU_succ];have:=alU_mono z wh fc b (k+1) (64-(k+1))
 rwa [show k+1+(64-(k+1))=64 by omega] at this
theorem tg_lt {z:Nat->UInt8} {wh:Bool} {fc:Nat->Bool} {b:Int} {f t:Nat} (hf:f<64) (hh:kingB (z f)=true->(fc (cgF wh)||fc (cgF wh+1))=true->f=4\/f=60) (h:t∈tgL z wh fc b f):t<64:=by
 unfold tgL at h;rcases List.mem_append.1 h with h|h
 ·exact att_lt hf ((List.mem_filter.1 h).1)
 ·split at h
  ·exact wk_lt hf (List.mem_of_mem_take (List.takeWhile_subset _ h))
  ·split at h
   ·rename_i hk;rcases List.mem_append.1 h with h|h
    ·unfold cgR at h;split at h
     ·rename_i hc;rw [Bool.and_eq_true] at hc;have:=hh hk (by rw [hc.1];rfl);rw [List.mem_singleton.1 h];omega
     ·cases h
    ·unfold cgM at h;split at h
     ·rename_i hc;rw [Bool.and_eq_true] at hc;rw [List.mem_singleton.1 h];omega
     ·cases h
   ·cases h
structure Al (z:Nat->UInt8) (wh:Bool) (fc:Nat->Bool) (b:Int) (l B Wb B1 Bp:Nat) (Ds:List Nat) (W:World):Prop where
 yb:W.heap[Wb]?=some (.cells #[.func (.yield l) #[] #[]] 143)
 b1:W.cell? ⟨B1,0,none⟩=some (.pointer (some ⟨Bp,0,none⟩))
 ps:Ps z wh fc b Bp W
 st:StTab W
 ms:Marks B Ds W
theorem Al.fr {z:Nat->UInt8} {wh:Bool} {fc:Nat->Bool} {b:Int} {l B Wb B1 Bp:Nat} {Ds:List Nat} {W W':World} {Q:Nat->Obj->Prop} (h:Al z wh fc b l B Wb B1 Bp Ds W) (f:Fr Q W W') (hq:∀ k o,(k=Wb\/k=B1\/k=Bp\/k=0\/k∈Ds)->W.heap[k]?=some o->Q k o):Al z wh fc b l B Wb B1 Bp Ds W' :=
 ⟨f.same _ _ h.yb (hq _ _ (by simp) h.yb),f.cell h.b1 (fun o e=>hq _ o (by simp) e),h.ps.fr f (fun o e=>hq _ o (by simp) e),⟨fun j v hv=>f.cell (h.st.1 j v hv) (fun o e=>hq _ o (by simp) e),Nat.lt_of_lt_of_le h.st.2 f.size⟩,h.ms.fr f (fun k o _ _ e hk=>hq k o (by simp [hk]) e)⟩
theorem Al.gr {z:Nat->UInt8} {wh:Bool} {fc:Nat->Bool} {b:Int} {l B Wb B1 Bp:Nat} {Ds:List Nat} {W W':World} (h:Al z wh fc b l B Wb B1 Bp Ds W) (g:Gr W W'):Al z wh fc b l B Wb B1 Bp Ds W':=h.fr (Q:=fun _ _=>True) (Fr.of_gr g) (fun _ _ _ _=>trivial)
theorem Al.lt {z:Nat->UInt8} {wh:Bool} {fc:Nat->Bool} {b:Int} {l B Wb B1 Bp:Nat} {Ds:List Nat} {W:World} (h:Al z wh fc b l B Wb B1 Bp Ds W):∀ k,(k=Wb\/k=B1\/k=Bp\/k=0\/k∈Ds)->k<W.heap.size:=by
 rintro k (rfl|rfl|rfl|rfl|hk)
 ·exact (Array.getElem?_eq_some_iff.1 h.yb).1
 ·exact World.block_lt_of_cell? _ _ h.b1
 ·exact h.ps.lt
 ·exact h.st.2
 ·exact (Array.getElem?_eq_some_iff.1 (h.ms.2 k hk).2).1
theorem Al.below {z:Nat->UInt8} {wh:Bool} {fc:Nat->Bool} {b:Int} {l B Wb B1 Bp:Nat} {Ds:List Nat} {W W' W0:World} {T:Obj->Prop} {n:Nat} (h0:Al z wh fc b l B Wb B1 Bp Ds W0) (hn:W0.heap.size<=n) (h:Al z wh fc b l B Wb B1 Bp Ds W) (f:Fr (Own1 n T) W W'):Al z wh fc b l B Wb B1 Bp Ds W' :=
 h.fr f (fun k _ hk _=>.inl (Nat.lt_of_lt_of_le (h0.lt k hk) hn))
theorem Al.rnd {z:Nat->UInt8} {wh:Bool} {fc:Nat->Bool} {b:Int} {l B Wb B1 Bp:Nat} {Ds:List Nat} {W W':World} {T:Obj->Prop} (h:Al z wh fc b l B Wb B1 Bp Ds W) (hT:OnlyMv T) (hB:B<=Wb) (f:Fr (Rnd1 B T (fun k=>k=B1\/k=Bp\/k=0)) W W'):Al z wh fc b l B Wb B1 Bp Ds W':=h.fr f (fun k o hk e=>by
 rcases hk with rfl|hk|hk|hk|hk
 ·rw [h.yb] at e;cases e;exact .inr ⟨hB,hT.no (by decide)⟩
 ·exact .inl (by simp [hk])
 ·exact .inl (by simp [hk])
 ·exact .inl (by simp [hk])
 ·rw [(h.ms.2 k hk).2] at e;cases e;exact .inr ⟨(h.ms.2 k hk).1,fun q=>by have:=hT.cells _ q;cases this⟩)
theorem Al.cons {z:Nat->UInt8} {wh:Bool} {fc:Nat->Bool} {b:Int} {l B Wb B1 Bp D:Nat} {Ds:List Nat} {W:World} (h:Al z wh fc b l B Wb B1 Bp Ds W) (hD:B<=D) (hn:D∉Ds) (hK:W.heap[D]?=some (.deferred (some []))):Al z wh fc b l B Wb B1 Bp (D :: Ds) W :=
 ⟨h.yb,h.b1,h.ps,h.st,marks_cons h.ms hD hn hK⟩
def AlI (z:Nat->UInt8) (wh:Bool) (fc:Nat->Bool) (b:Int) (l B Wb B1 Bp:Nat) (J:List Mv->World->Prop) (gk:Nat) (a:Act) (wr:World):Prop :=
 ∃ (k:Nat) (Ds:List Nat) (u3 u4 u5 u6 u7 u8 u11 u12 u13 u14 u15 u16 u17 u18 u19 u20 u21 u22 u23 u24 u25 u26 u27 u28 u29 u30 u31:Value),k+gk=64/\a={ tmps:=#[.func (.yield l) #[] #[],.pointer (some ⟨B1,0,none⟩),.pointer (some ⟨Wb,0,none⟩),u3,u4,u5,u6,u7,u8,.agg (zL z).toArray,.int .i64 (k:Int),u11,u12,u13,u14,u15,u16,u17,u18,u19,u20,u21,u22,u23,u24,u25,u26,u27,u28,u29,u30,u31],defers:=Ds.map markD }/\Al z wh fc b l B Wb B1 Bp Ds wr/\J (alU z wh fc b k) wr
theorem ix64L (z:Nat->UInt8) (k:Nat) (hk:k<64) (w:World):(Instr.index 67 (.agg (zL z).toArray) (.int .i64 (k:Int))).run Tryz.prog w=.ok (.int .u8 ((z k).toNat:Int)) w:=ix64 _ k hk _ ((zL_arr z).2 k hk) w
theorem allMoves_it {z:Nat->UInt8} {wh:Bool} {fc:Nat->Bool} {b:Int} (hh:KgHome z wh fc) (B1 Bp:Nat) (T:Obj->Prop) (hTm:OnlyMv T) (w:World) (hb1:w.cell? ⟨B1,0,none⟩=some (.pointer (some ⟨Bp,0,none⟩))) (hps:Ps z wh fc b Bp w) (hst:StTab w) :
  It Tryz.prog 223 #[.pointer (some ⟨B1,0,none⟩)] encM T (fun k=>k=B1\/k=Bp\/k=0) (alU z wh fc b 64) w:=by
 intro l B J Jx W f0 hB hJ hJx hY h0
 have hA0:Al z wh fc b l B W.heap.size B1 Bp [] (W.alloc (.cells #[.func (.yield l) #[] #[]] 143)):=by
  have f1:=f0.trans ((Fr.refl (fun k _=>k=B1\/k=Bp\/k=0) W).alloc (.cells #[.func (.yield l) #[] #[]] 143));exact ⟨World.alloc_heap_new W _,f1.cell hb1 (fun _ _=>by simp),hps.fr f1 (fun _ _=>by simp),hst.fr f1 (fun _=>by simp),⟨List.nodup_nil,fun D hD=>absurd hD List.not_mem_nil⟩⟩
 have hJ0:=hJ _ _ _ h0 ((Fr.refl _ W).alloc (.cells #[.func (.yield l) #[] #[]] 143));refine (callsIn_wide (n:=9)).1 ?_;refine callsIn_of_wp_marks Tryz.func223 rfl trivial ?_ rfl;simp only [Tryz.ntmps223,List.size_toArray,List.length_cons,List.length_nil,Nat.reduceAdd,Nat.reduceSub,Array.replicate_succ,Array.replicate_zero,List.push_toArray,List.append_toArray,List.nil_append,List.cons_append];refine wpIn_wide.2 ?_;clear h0 f0 hb1 hps hst;have c0:=hA0.b1;have crg:=hA0.ps.bd.range;go_wp2_with (refine wpList_load_mid rfl 67 _ rfl Bp 0 rfl (zL z) _ crg Tryz.underlying67 rfl (by rw [zL_len];exact info64) ?_);generalize W.alloc (.cells #[.func (.yield l) #[] #[]] 143)=w1 at hA0 hJ0 c0 crg ⊢;generalize W.heap.size=Wb at hA0 hB ⊢;clear c0 crg;refine wpIn_wide.1 (wpIn_loop_ghost (rm:=9) (AlI z wh fc b l B Wb B1 Bp J) 64 ?start ?round)
 case start=>exact ⟨0,[],_,_,_,_,_,_,_,_,_,_,_,_,_,_,_,_,_,_,_,_,_,_,_,_,_,_,_,rfl,rfl,hA0,hJ0⟩
 case round =>
  clear hA0 hJ0;rintro gk a wr ⟨k,Ds,u3,u4,u5,u6,u7,u8,u11,u12,u13,u14,u15,u16,u17,u18,u19,u20,u21,u22,u23,u24,u25,u26,u27,u28,u29,u30,u31,hk,rfl,hM,hJk⟩;have hM':=hide hM;have hJk':=hide hJk;clear hJk hM;by_cases hlt:k<64
  ·have hix:=ix64L z k hlt;have hsc:Hid (alU z wh fc b (k+1)=alU z wh fc b k++alS z wh fc b k):=hide (alU_succ z wh fc b k);have hpr:Hid (alU z wh fc b k++alS z wh fc b k <+: alU z wh fc b 64):=hide (alU_pre z wh fc b hlt);have hsS:Hid (alS z wh fc b k=if manB (z k) wh then (tgL z wh fc b k).flatMap (alF z k) else []):=hide rfl;have hhk:=hide (fun hm=>hh k hlt hm);generalize alS z wh fc b k=aS at hsc hpr hsS;have hk0:(0:Int)<=(k:Int):=by omega
   have hk64:(k:Int)<64:=by omega
   obtain ⟨x1,x2⟩:=heapTwo wr (.cells #[.int .i64 (k:Int)] 3) (.cells #[.int .u8 ((z k).toNat:Int)] 5);have hgA:Gr wr ((wr.alloc (.cells #[.int .i64 (k:Int)] 3)).alloc (.cells #[.int .u8 ((z k).toNat:Int)] 5)):=((Gr.refl wr).alloc _ _).alloc _ _;have hsA:((wr.alloc (.cells #[.int .i64 (k:Int)] 3)).alloc (.cells #[.int .u8 ((z k).toNat:Int)] 5)).heap.size=wr.heap.size+2:=by simp
   have hman:=hide (fun W=>isMan_any (z k) wh W);obtain ⟨g1,hg1⟩:∃ g,manB (z k) wh=g:=⟨_,rfl⟩;rw [hg1] at hman hsS hhk;refine wpIn_wide.2 ?_;go_upto_region 4 with fail;generalize ((wr.alloc (.cells #[.int .i64 (k:Int)] 3)).alloc (.cells #[.int .u8 ((z k).toNat:Int)] 5))=wA at x1 x2 hgA hsA ⊢;have hMA:=(unhide hM').gr hgA;have c1:=(cell_of_box_l x1).1;have c2:=(cell_of_box_l x2).1;have c3:=hMA.b1;have c4:=hMA.ps.wh;go_quiet ((go_at_call 148;exact Calls.quiet_of_same (unhide hman _)));have hgq:Hid (Gr wr (wA.drewN nq)):=hide (hgA.drewN _);have y1:(wA.drewN nq).heap[wr.heap.size]?=some (.cells #[.int .i64 (k:Int)] 3):=x1;have y2:(wA.drewN nq).heap[wr.heap.size+1]?=some (.cells #[.int .u8 ((z k).toNat:Int)] 5):=x2;have hMq:Al z wh fc b l B Wb B1 Bp Ds (wA.drewN nq):=hMA.gr ((Gr.refl wA).drewN _);have hsq:(wA.drewN nq).heap.size=wr.heap.size+2:=hsA;generalize wA.drewN nq=wq at hgq y1 y2 hMq hsq ⊢;clear hMA c1 c2 c3 c4 x1 x2 hgA hsA hix;cases g1
   ·go_wp2_with fail;exact ⟨gk-1,by omega,k+1,Ds,_,_,_,_,_,_,_,_,_,_,_,_,_,_,_,_,_,_,_,_,_,_,_,_,_,_,_,by omega,rfl,hMq,by rw [unhide hsc,unhide hsS];simpa using hJ _ _ _ (unhide hJk') (Fr.of_gr (unhide hgq))⟩
   ·have c1:=(cell_of_box_l y1).1;have c3:=hMq.b1;have htg:=hide (targets_any (z:=z) (wh:=wh) (fc:=fc) (b:=b) (Bp:=Bp) k hlt (unhide hhk rfl) wq hMq.ps hMq.st);have htl:Hid (∀ t∈tgL z wh fc b k,t<64):=hide (fun t ht=>tg_lt hlt (unhide hhk rfl) ht);have hsS2:Hid (aS=(tgL z wh fc b k).flatMap (alF z k)):=hide (by rw [unhide hsS];rfl);clear hsS hhk;generalize tgL z wh fc b k=tl at htg htl hsS2;have hMq':=hide hMq;clear hMq;go_wp2_with (go_at_call 224;refine (unhide htg).mono ?_;rintro e w6 ⟨gi,lb,C,rfl,hg6,hen,hCb,hKp,hIt⟩);have hgw:=Gr.trans (unhide hgq) hg6;have hM6:Al z wh fc b l B Wb B1 Bp Ds w6:=(unhide hMq').gr hg6;have hJ6:=hJ _ _ _ (unhide hJk') (Fr.of_gr hgw);have z1:=(Below.block hg6 _ (Array.getElem?_eq_some_iff.1 y1).1).trans y1;have z2:=(Below.block hg6 _ (Array.getElem?_eq_some_iff.1 y2).1).trans y2;have hDs:∀ D∈Ds,D<w6.heap.size:=fun D hD=>hM6.lt D (by simp [hD])
    have hWb6:Wb<w6.heap.size:=hM6.lt Wb (by simp);have hWbr:Wb<wr.heap.size:=(unhide hM').lt Wb (by simp);have hs6:=Below.size hg6;have hlt6:wr.heap.size+1<w6.heap.size:=by omega
    clear htg hg6 hgw y1 y2 c1 c3;generalize wr.heap.size=Bs at hWbr z1 z2 hlt6 hsq ⊢;have hB6:B<=w6.heap.size:=by omega
    have hKp2:∀ j,C j->j=Bp\/j=0\/Far B j w6:=fun j hj=>by
     rcases hKp j hj with h|h|h
     ·exact .inl h
     ·exact .inr (.inl h)
     ·exact .inr (.inr ⟨by have:=h.1;omega,h.2⟩)
    clear hKp
    refine wpIn_wide.1 (range_out (n:=9) (gf:=gi) (lb:=lb) rfl hen (hIt T hTm) hTm.cells hCb (Fr.refl _ _) (fun _=>rfl)
     (fun pre V=>Al z wh fc b l B Wb B1 Bp Ds V/\V.heap[Bs]?=some (.cells #[.int .i64 (k:Int)] 3)/\V.heap[Bs+1]?=some (.cells #[.int .u8 ((z k).toNat:Int)] 5)/\Fr (fun j _=>C j) w6 V/\J (alU z wh fc b k++pre.flatMap (alF z k)) V)
     (fun c _ V=>c=.ret/\Marks B Ds V/\∃ q,q <+: alU z wh fc b 64/\Jx q V)
     ?sI ?sX ⟨hM6,z1,z2,Fr.refl _ _,by simpa using hJ6⟩ ?rnd ?done ?stop)
    case sI=>exact fun s V V' h f=>⟨hM6.below (Nat.le_refl _) h.1 f,f.same _ _ h.2.1 (.inl (by omega)),f.same _ _ h.2.2.1 (.inl (by omega)),h.2.2.2.1.ext f (fun j o e _=>.inl (Array.getElem?_eq_some_iff.1 e).1),stable_mono hJ hB6 _ _ _ h.2.2.2.2 f⟩
    case sX=>exact fun c s V V' h f=>⟨h.1,h.2.1.fr f (fun j o _ _ _ hj=>.inl (hDs _ hj)),h.2.2.elim fun q hq=>⟨q,hq.1,stable_mono hJx hB6 _ _ _ hq.2 f⟩⟩
    case done =>
     rintro D V hD ⟨hMV,_,_,_,hJV⟩ hK;have hne:Hid (alU z wh fc b (k+1)=alU z wh fc b k++tl.flatMap (alF z k)):=hide (by rw [unhide hsc,unhide hsS2]);go_wp2_with fail;exact ⟨gk-1,by omega,k+1,D :: Ds,_,_,_,_,_,_,_,_,_,_,_,_,_,_,_,_,_,_,_,_,_,_,_,_,_,_,_,by omega,rfl,hMV.cons (by omega) (fun h=>by have:=hDs D h;omega) hK,by rw [unhide hne];exact hJV⟩
    case stop =>
     rintro D c pre V hD hpre ⟨rfl,hms,q,hq1,hq2⟩ hK;refine wpIn_wide.2 ?_;go_wp2_with fail;exact leave_all (T:=T) Tryz.results223 hTm.cells (D :: Ds) V (marks_cons hms (by omega) (fun h=>by have:=hDs D h;omega) hK) (fun v w' f=>⟨⟨v,rfl⟩,.inr ⟨q,hq1,hJx _ _ _ hq2 f⟩⟩)
    case rnd =>
     intro l1 pre t V hbl hxy hI hl;simp only [encI];gi_wp2;refine ⟨Fr.refl _ _,?_⟩;intro V2 f2 hI2 hl2;obtain ⟨hM2,k1,k2,hfw,hJ2⟩:=hI2;have ht64:t<64:=unhide htl t (pre_mem hxy);have cy:=(cell_of_box_l hM2.yb).1;have d1:=(cell_of_box_l k1).1;have d2:=(cell_of_box_l k2).1
     have hpy:alU z wh fc b k++pre.flatMap (alF z k)++turnsB (pawnB (z k)) k t <+: alU z wh fc b 64:=by
      refine List.IsPrefix.trans ?_ (unhide hpr);rw [List.append_assoc,unhide hsS2];exact (List.prefix_append_right_inj _).2 (flat_snoc (alF z k) hxy)
     have hyt:=hide (ytL_any (z k) k t ht64 l B T (fun j=>j=B1\/j=Bp\/j=0) J Jx (alU z wh fc b 64) _ hpy hY V2 hJ2);have hM2':=hide hM2;have hfw':=hide hfw;have k1':=hide k1;have k2':=hide k2;clear hM2 hfw k1 k2 hI hl f2;gi_wp2;refine ⟨trivial,CallsIn.inRound l1 (callsIn_wide.2 ((unhide hyt).mono ?_))⟩;intro e V4 h4;obtain ⟨f4,h4⟩:=h4;have farV:∀ j,Far B j w6->C j->Far B j V2:=fun j hj hc=>⟨hj.1,by obtain ⟨c,ty,fr,q1,q2⟩:=hj.2;exact ⟨c,ty,fr,q1,(unhide hfw').same _ _ q2 hc⟩⟩
     have fc1:Hid (Fr (Rnd1 w6.heap.size T C) V2 V4):=hide (rnd_in f4 hTm hB6 (fun j hj=>by
      rcases hKp2 j hj with h|h|h
      ·exact .inl (by simp [h])
      ·exact .inl (by simp [h])
      ·exact .inr (farV j h hj)))
     have hM4:Hid (Al z wh fc b l B Wb B1 Bp Ds V4):=hide ((unhide hM2').rnd hTm hB f4);have kk1:Hid (V4.heap[Bs]?=some (.cells #[.int .i64 (k:Int)] 3)):=hide ((far_of (by omega) (by decide) (unhide k1')).keep hTm f4 (unhide k1'));have kk2:Hid (V4.heap[Bs+1]?=some (.cells #[.int .u8 ((z k).toNat:Int)] 5)):=hide ((far_of (by omega) (by decide) (unhide k2')).keep hTm f4 (unhide k2'));have hfw4:Hid (Fr (fun j _=>C j) w6 V4):=hide ((unhide hfw').ext (unhide fc1) (fun j o _ q=>.inl q));rcases h4 with ⟨rfl,hJ4⟩|⟨rfl,q,hq1,hq2⟩
     ·gi_wp2;exact ⟨unhide fc1,unhide hM4,unhide kk1,unhide kk2,unhide hfw4,by rw [List.flatMap_append,<-List.append_assoc];simpa [alF] using hJ4⟩
     ·gi_wp2;exact ⟨unhide fc1,rfl,(unhide hM4).ms,q,hq1,hq2⟩
  ·have hk64:k=64:=by omega
   subst hk64;refine wpIn_wide.2 ?_;go_wp2_with fail;exact leave_all (T:=T) Tryz.results223 hTm.cells Ds wr (unhide hM').ms (fun v w' f=>⟨⟨v,rfl⟩,.inl (hJ _ _ _ (unhide hJk') f)⟩)
end Go.Proofs.YtnfakamfmkhlbabGreatDoor.C
namespace Go.Proofs.YtnfakamfmkhlbabGreatDoor.C
open Go.ChangeShapes Go.WideShapes Go.ChangeAt Go.RowKit Go.Shelf
open Go.Proofs.YtnfakamfmkhlbabGreatDoor.P
attribute [local go_sem] setCell_drewN alloc_drewN
def zN (z:Nat->UInt8):List Int:=(List.range 64).map fun i=>((z i).toNat:Int)
theorem ib_king (z:Nat->UInt8) (wh:Bool):Lib.indexByte (Lib.bytesOf (zN z)) (kingL wh)=kingR z wh:=by
 have e:Lib.bytesOf (zN z)=(List.range 64).map z:=by
  unfold Lib.bytesOf zN;rw [List.map_map];apply List.map_congr_left;intro i _;simp
 have at':∀ j,j<64->((List.range 64).map z)[j]?=some (z j):=fun j hj=>by simp [hj]
 rw [e];by_cases h:∃ k,k<64/\z k=kingL wh/\∀ j,j<k->z j≠kingL wh
 ·obtain ⟨k,h1,h2,h3⟩:=h;rw [kingR_at (k:=k) (fun j hj=>by simpa using h3 j hj) (by simpa using h2) h1];exact ib_at (fun j hj=>by rw [at' j (by omega)];intro he;exact h3 j hj (Option.some.inj he)) (by rw [at' k h1,h2])
 ·have hno:∀ n,n<=64->∀ j,j<n->z j≠kingL wh:=by
   intro n;induction n with
   | zero=>intro _ j hj;omega
   | succ n ih =>
    intro hn j hj he;by_cases hjn:j=n
    ·subst hjn;exact h ⟨j,by omega,he,ih (by omega)⟩
    ·exact ih (by omega) j (by omega) he
  rw [kingR_no (fun j hj=>by simpa using hno 64 (Nat.le_refl _) j hj)]
  exact ib_no (fun j hj=>by
   have hj64:j<64:=by simpa using hj
   rw [at' j hj64];intro he;exact hno 64 (Nat.le_refl _) j hj64 (Option.some.inj he))
theorem kingP_any (z:Nat->UInt8) (A:Array Value) (hA:∀ i,i<64->A[i]?=some (.int .u8 ((z i).toNat:Int))) (wh:Bool) (w:World) :
  Calls Tryz.prog 154 #[.agg A,.bool wh] w fun e w'=>e=.returned (.int .i64 (kingR z wh))/\Gr w w':=by
 have hb:Bz z w.heap.size (w.alloc (.cells A 67)):=bd_of hA (World.alloc_heap_new w _)
 have hix:Hid (∀ cv:Int,cv=((kingL wh).toNat:Int)->Calls Tryz.prog 226 #[.slice (some ⟨w.heap.size,0,none⟩) 64 64,.int .u8 cv] (w.alloc (.cells A 67)) fun e w'=>e=.returned (.int .i64 (kingR z wh))/\w'=(w.alloc (.cells A 67))):=hide (fun cv hcv=>by
  refine (Any.bytes_IndexByte Tryz.lays187x w.heap.size 0 64 64 (zN z) cv _ (by simp [zN]) (fun i hi=>by rw [Nat.zero_add,hb i hi];simp [zN,hi])).mono ?_;rintro e w' ⟨rfl,rfl⟩;rw [hcv,<-ib_king];exact ⟨by simp,rfl⟩)
 clear hA hb;cases wh
 ·have h1:=hide (unhide hix 107 rfl);clear hix;go_enter Tryz.func154,Tryz.ntmps154;go_wp2_with (go_at_call 226;refine (unhide h1).mono ?_;rintro e w' ⟨rfl,rfl⟩);go_ret;exact ⟨rfl,(Gr.refl w).alloc _ _⟩
 ·have h1:=hide (unhide hix 75 rfl);clear hix;go_enter Tryz.func154,Tryz.ntmps154;go_wp2_with (go_at_call 226;refine (unhide h1).mono ?_;rintro e w' ⟨rfl,rfl⟩);go_ret;exact ⟨rfl,(Gr.refl w).alloc _ _⟩
def trn (c u:UInt8):UInt8:=if u=0 then c else if manB c true then u-97+65 else u
theorem up_is:∀ u:UInt8,IntKind.u8.wrap (IntKind.u8.wrap ((u.toNat:Int)-97)+65)=(((u-97+65:UInt8).toNat:Nat):Int):=by
 have:∀ n:Fin 256,IntKind.u8.wrap (IntKind.u8.wrap (((UInt8.ofNat n.val).toNat:Int)-97)+65)=((((UInt8.ofNat n.val)-97+65:UInt8).toNat:Nat):Int):=by decide +kernel
 intro u;have:=this ⟨u.toNat,u.toNat_lt⟩;simpa using this
theorem turnL_any (c u:UInt8) (w:World):Calls Tryz.prog 189 #[.int .u8 (c.toNat:Int),.int .u8 (u.toNat:Int)] w fun e w'=>e=.returned (.int .u8 ((trn c u).toNat:Int))/\w'=w:=by
 have hm:=hide (fun W=>isMan_any c true W);obtain ⟨v,hv⟩:∃ v,Hid (v=trn c u):=⟨_,hide rfl⟩;have hv2:Hid (v=if u=0 then c else if manB c true then u-97+65 else u):=hv;rw [<-unhide hv];clear hv;by_cases h0:u=0
 ·subst h0;have hv3:Hid (v=c):=hide (by rw [unhide hv2];simp);go_enter Tryz.func189,Tryz.ntmps189;go_wp2;go_ret;exact ⟨by rw [unhide hv3];rfl,rfl⟩
 ·have hb:((u.toNat:Int)==0)=false:=by
   rw [beq_eq_false_iff_ne];intro h;apply h0;apply UInt8.toNat_inj.1;have:u.toNat=0:=by omega
   rw [this];rfl
  obtain ⟨g,hg⟩:∃ g,manB c true=g:=⟨_,rfl⟩;rw [hg] at hm hv2;have hup:=up_is u;cases g
  ·have hv3:Hid (v=u):=hide (by rw [unhide hv2];simp [h0]);clear hv2 hup;go_enter Tryz.func189,Tryz.ntmps189;go_wp2_with (go_at_call 148;refine (unhide hm _).mono ?_;rintro e w' ⟨rfl,rfl⟩);go_ret;exact ⟨by rw [unhide hv3];rfl,rfl⟩
  ·have hv3:Hid (v=u-97+65):=hide (by rw [unhide hv2];simp [h0]);generalize hvv:(u-97+65:UInt8)=uu at hup hv3;clear hv2 hvv;go_enter Tryz.func189,Tryz.ntmps189;go_wp2_with (go_at_call 148;refine (unhide hm _).mono ?_;rintro e w' ⟨rfl,rfl⟩);go_ret;exact ⟨by rw [unhide hv3,<-hup];rfl,rfl⟩
def upd (z:Nat->UInt8) (i:Nat) (c:UInt8):Nat->UInt8:=fun n=>if n=i then c else z n
def Arr (z:Nat->UInt8) (A:Array Value):Prop:=A.size=64/\∀ i,i<64->A[i]?=some (.int .u8 ((z i).toNat:Int))
theorem Arr.set {z:Nat->UInt8} {A:Array Value} (h:Arr z A) (i:Nat) (c:UInt8):Arr (upd z i c) (A.setIfInBounds i (.int .u8 (c.toNat:Int))):=by
 refine ⟨by rw [Array.size_setIfInBounds];exact h.1,fun j hj=>?_⟩;unfold upd;by_cases e:j=i
 ·subst e;rw [Array.getElem?_setIfInBounds,if_pos rfl,if_pos (by rw [h.1];exact hj),if_pos rfl]
 ·rw [Array.getElem?_setIfInBounds_ne (fun x=>e x.symm),if_neg e];exact h.2 j hj
theorem Arr.ones {z:Nat->UInt8} {A:Array Value} (h:Arr z A):A.all (·.oneCell')=true:=by
 rw [Array.all_eq_true];intro i hi;have:=h.2 i (by rw [<-h.1];exact hi);rw [Array.getElem?_eq_getElem hi] at this;rw [Option.some.inj this];rfl
theorem arr_zL (z:Nat->UInt8):Arr z (zL z).toArray:=zL_arr z
theorem row_open {V:World} {b i:Nat} {A:Array Value} {t:TypeId} (h:V.heap[b]?=some (.cells A t)):V.frozen? ⟨b,i,none⟩=false:=by
 simp [World.frozen?,h]
def plZ (z:Nat->UInt8) (b:Int) (m:Mv):Nat->UInt8 :=
 let z1:=upd (upd z m.1 46) m.2.1 (trn (z m.1) m.2.2)
 if pawnB (z m.1)&&((m.2.1:Int)==b) then upd z1 (m.1/8*8+m.2.1%8) 46
 else if kingB (z m.1)&&(m.2.1==m.1+2) then upd (upd z1 (m.1+1) (z1 (m.1+3))) (m.1+3) 46
 else if kingB (z m.1)&&(m.2.1+2==m.1) then upd (upd z1 (m.1-1) (z1 (m.1-4))) (m.1-4) 46
 else z1
end Go.Proofs.YtnfakamfmkhlbabGreatDoor.C
