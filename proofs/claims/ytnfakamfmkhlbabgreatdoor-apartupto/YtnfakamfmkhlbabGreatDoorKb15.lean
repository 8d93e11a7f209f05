import Derived.Test.YtnfakamfmkhlbabGreatDoorKb14
import Derived.Test.YtnfakamfmkhlbabGreatDoorKb11
set_option maxRecDepth 100000
set_option maxHeartbeats 4000000
set_option linter.unusedSimpArgs false
namespace Go.Proofs.YtnfakamfmkhlbabGreatDoor.C
open Go.ChangeShapes Go.WideShapes Go.ChangeAt Go.RowKit Go.Shelf
open Go.Proofs.YtnfakamfmkhlbabGreatDoor.P
attribute [local go_sem] setCell_drewN alloc_drewN Oper.semAt_some
def attS (z:Nat->UInt8) (x k:Nat):List Nat:=if goesB (z x) (stN k) then (if farB (z x) then wkL z (stN k) x else (wkL z (stN k) x).take 1) else []
def attU (z:Nat->UInt8) (x k:Nat):List Nat:=(List.range k).flatMap (attS z x)
theorem attU_succ (z:Nat->UInt8) (x k:Nat):attU z x (k+1)=attU z x k++attS z x k:=by
 unfold attU;rw [List.range_succ,List.flatMap_append];simp
theorem attU_pre (z:Nat->UInt8) (x:Nat) {k:Nat} (hk:k<16):attU z x k++attS z x k <+: attU z x 16:=by
 rw [<-attU_succ];unfold attU;refine flat_pre _ ?_;refine ⟨(List.range 16).drop (k+1),?_⟩;have:k=0\/k=1\/k=2\/k=3\/k=4\/k=5\/k=6\/k=7\/k=8\/k=9\/k=10\/k=11\/k=12\/k=13\/k=14\/k=15:=by omega
 rcases this with rfl|rfl|rfl|rfl|rfl|rfl|rfl|rfl|rfl|rfl|rfl|rfl|rfl|rfl|rfl|rfl<;>decide
def OnlyMv (T:Obj->Prop):Prop:=∀ o,T o->∃ c fr,o=.cells c 87 fr
theorem OnlyMv.cells {T:Obj->Prop} (h:OnlyMv T):∀ o,T o->o.isCells=true:=fun o ho=>by obtain ⟨c,fr,rfl⟩:=h o ho;rfl
theorem OnlyMv.no {T:Obj->Prop} (h:OnlyMv T) {c:Array Value} {ty:TypeId} {fr:Nat × Nat} (hne:ty≠87):¬ T (.cells c ty fr):=fun q=>by
 obtain ⟨c',fr',e⟩:=h _ q;cases e;exact hne rfl
def Far (B k:Nat) (V:World):Prop:=B<=k/\∃ c ty fr,ty≠87/\V.heap[k]?=some (.cells c ty fr)
theorem rnd_in {B b:Nat} {T:Obj->Prop} {C C':Nat->Prop} {V W:World} (f:Fr (Rnd1 B T C) V W) (hT:OnlyMv T) (hb:B<=b) (h:∀ k,C' k->C k\/Far B k V):Fr (Rnd1 b T C') V W :=
 f.mono fun k o e q=>by
  rcases q with q|q
  ·rcases h k q with h|⟨h1,c,ty,fr,h2,h3⟩
   ·exact .inl h
   ·rw [h3] at e;cases e;exact .inr ⟨h1,hT.no h2⟩
  ·exact .inr ⟨by omega,q.2⟩
theorem far_of {B k:Nat} {V:World} {c:Array Value} {ty:TypeId} (hb:B<=k) (ht:ty≠87) (h:V.heap[k]?=some (.cells c ty)):Far B k V:=⟨hb,c,ty,_,ht,h⟩
theorem Far.keep {B k:Nat} {T:Obj->Prop} {C:Nat->Prop} {V W:World} {o:Obj} (h:Far B k V) (hT:OnlyMv T) (f:Fr (Rnd1 B T C) V W) (e:V.heap[k]?=some o):W.heap[k]?=some o:=by
 obtain ⟨h1,c,ty,fr,h2,h3⟩:=h;refine f.same k o e (.inr ⟨h1,?_⟩);rw [h3] at e;cases e;exact hT.no h2
structure Ak (z:Nat->UInt8) (x l B Wb Bl Bq Bf A:Nat) (Ds:List Nat) (W:World):Prop where
 yb:W.heap[Wb]?=some (.cells #[.func (.yield l) #[] #[]] 255)
 cl:W.cell? ⟨Bl,0,none⟩=some (.int .u8 ((z x).toNat:Int))
 cq:W.cell? ⟨Bq,0,none⟩=some (.pointer (some ⟨A,0,none⟩))
 cf:W.cell? ⟨Bf,0,none⟩=some (.int .i64 (x:Int))
 bd:Bz z A W
 st:StTab W
 ms:Marks B Ds W
theorem Ak.fr {z:Nat->UInt8} {x l B Wb Bl Bq Bf A:Nat} {Ds:List Nat} {W W':World} {Q:Nat->Obj->Prop} (h:Ak z x l B Wb Bl Bq Bf A Ds W) (f:Fr Q W W') (hq:∀ k o,(k=Wb\/k=Bl\/k=Bq\/k=Bf\/k=A\/k=0\/k∈Ds)->W.heap[k]?=some o->Q k o):Ak z x l B Wb Bl Bq Bf A Ds W' :=
  ⟨f.same _ _ h.yb (hq _ _ (by simp) h.yb),f.cell h.cl (fun o e=>hq _ o (by simp) e),f.cell h.cq (fun o e=>hq _ o (by simp) e),f.cell h.cf (fun o e=>hq _ o (by simp) e),
   fun i hi=>f.cell (h.bd i hi) (fun o e=>hq _ o (by simp) e),⟨fun j v hv=>f.cell (h.st.1 j v hv) (fun o e=>hq _ o (by simp) e),Nat.lt_of_lt_of_le h.st.2 f.size⟩,h.ms.fr f (fun k o _ _ e hk=>hq k o (by simp [hk]) e)⟩
theorem Ak.gr {z:Nat->UInt8} {x l B Wb Bl Bq Bf A:Nat} {Ds:List Nat} {W W':World} (h:Ak z x l B Wb Bl Bq Bf A Ds W) (g:Gr W W'):Ak z x l B Wb Bl Bq Bf A Ds W':=h.fr (Q:=fun _ _=>True) (Fr.of_gr g) (fun _ _ _ _=>trivial)
theorem Ak.below {z:Nat->UInt8} {x l B Wb Bl Bq Bf A:Nat} {Ds:List Nat} {W W' W0:World} {T:Obj->Prop} {n:Nat} (h0:Ak z x l B Wb Bl Bq Bf A Ds W0) (hn:W0.heap.size<=n) (h:Ak z x l B Wb Bl Bq Bf A Ds W) (f:Fr (Own1 n T) W W'):Ak z x l B Wb Bl Bq Bf A Ds W':=h.fr f (fun k o hk _=>by
 refine .inl ?_;have lc:∀ {p:Addr} {v:Value},W0.cell? p=some v->p.block<n:=fun hp=>Nat.lt_of_lt_of_le (World.block_lt_of_cell? _ _ hp) hn
 rcases hk with rfl|rfl|rfl|rfl|rfl|rfl|hk
 ·exact Nat.lt_of_lt_of_le (Array.getElem?_eq_some_iff.1 h0.yb).1 hn
 ·exact lc h0.cl
 ·exact lc h0.cq
 ·exact lc h0.cf
 ·exact lc (h0.bd 0 (by omega))
 ·exact Nat.lt_of_lt_of_le h0.st.2 hn
 ·exact Nat.lt_of_lt_of_le (Array.getElem?_eq_some_iff.1 (h0.ms.2 k hk).2).1 hn)
theorem Ak.rnd {z:Nat->UInt8} {x l B Wb Bl Bq Bf A:Nat} {Ds:List Nat} {W W':World} {T:Obj->Prop} {C:Nat->Prop} (h:Ak z x l B Wb Bl Bq Bf A Ds W) (hT:OnlyMv T) (hB:B<=Wb) (hC:∀ k,(k=Bl\/k=Bq\/k=Bf\/k=A\/k=0)->C k) (f:Fr (Rnd1 B T C) W W'):Ak z x l B Wb Bl Bq Bf A Ds W':=h.fr f (fun k o hk e=>by
 rcases hk with rfl|hk|hk|hk|hk|hk|hk
 ·rw [h.yb] at e;cases e;exact .inr ⟨hB,hT.no (by decide)⟩
 ·exact .inl (hC _ (by simp [hk]))
 ·exact .inl (hC _ (by simp [hk]))
 ·exact .inl (hC _ (by simp [hk]))
 ·exact .inl (hC _ (by simp [hk]))
 ·exact .inl (hC _ (by simp [hk]))
 ·rw [(h.ms.2 k hk).2] at e;cases e;exact .inr ⟨(h.ms.2 k hk).1,fun q=>by have:=hT.cells _ q;cases this⟩)
theorem marks_cons {B D:Nat} {Ds:List Nat} {V:World} (h:Marks B Ds V) (hD:B<=D) (hn:D∉Ds) (hK:V.heap[D]?=some (.deferred (some []))):Marks B (D :: Ds) V :=
 ⟨List.nodup_cons.2 ⟨hn,h.1⟩,fun D' hD'=>by
  rcases List.mem_cons.1 hD' with rfl|hD'
  ·exact ⟨hD,hK⟩
  ·exact h.2 D' hD'⟩
theorem Ak.cons {z:Nat->UInt8} {x l B Wb Bl Bq Bf A D:Nat} {Ds:List Nat} {W:World} (h:Ak z x l B Wb Bl Bq Bf A Ds W) (hD:B<=D) (hn:D∉Ds) (hK:W.heap[D]?=some (.deferred (some []))):Ak z x l B Wb Bl Bq Bf A (D :: Ds) W :=
 ⟨h.yb,h.cl,h.cq,h.cf,h.bd,h.st,marks_cons h.ms hD hn hK⟩
def AkN (z:Nat->UInt8) (x k:Nat) (fa:Bool) (J:List Nat->World->Prop) (pre:List Nat) (V:World):Prop:=(fa=true\/pre=[])/\J (attU z x k++pre) V
def AkX (z:Nat->UInt8) (x l B Wb Bl Bq Bf A:Nat) (Ds:List Nat) (k:Nat) (fa:Bool) (J Jx:List Nat->World->Prop) (c:Code) (pre:List Nat) (V:World):Prop:=(c=.ret/\∃ q,q <+: attU z x 16/\Jx q V)\/(c=.exit 2/\Ak z x l B Wb Bl Bq Bf A Ds V/\fa=false/\∃ y,pre=[y]/\J (attU z x k++[y]) V)
def AkI (z:Nat->UInt8) (x l B Wb Bl Bq Bf A:Nat) (J:List Nat->World->Prop) (gk:Nat) (a:Act) (wr:World):Prop :=
 ∃ (k:Nat) (Ds:List Nat) (u5 u6 u7 u10 u11 u12 u13 u14 u15 u16 u17 u18 u19 u20 u21 u22 u23 u24 u25 u26 u27 u28:Value),k+gk=16/\a={ tmps:=#[.func (.yield l) #[] #[],.pointer (some ⟨Bl,0,none⟩),.pointer (some ⟨Bq,0,none⟩),.pointer (some ⟨Bf,0,none⟩),.pointer (some ⟨Wb,0,none⟩),u5,u6,u7,.agg stepsV.toArray,.int .i64 (k:Int),u10,u11,u12,u13,u14,u15,u16,u17,u18,u19,u20,u21,u22,u23,u24,u25,u26,u27,u28],defers:=Ds.map markD }/\Ak z x l B Wb Bl Bq Bf A Ds wr/\J (attU z x k) wr
theorem attacks_it (z:Nat->UInt8) (x:Nat) (hx:x<64) (Bl Bq Bf A:Nat) (T:Obj->Prop) (hTm:OnlyMv T) (w:World) (hl:w.cell? ⟨Bl,0,none⟩=some (.int .u8 ((z x).toNat:Int))) (hq:w.cell? ⟨Bq,0,none⟩=some (.pointer (some ⟨A,0,none⟩))) (hf:w.cell? ⟨Bf,0,none⟩=some (.int .i64 (x:Int))) (hb:Bz z A w) (hs:StTab w) :
  It Tryz.prog 313 #[.pointer (some ⟨Bl,0,none⟩),.pointer (some ⟨Bq,0,none⟩),.pointer (some ⟨Bf,0,none⟩)] encI T (fun k=>k=Bl\/k=Bq\/k=Bf\/k=A\/k=0) (attU z x 16) w:=by
 intro l B J Jx W f0 hB hJ hJx hY h0
 have hA0:Ak z x l B W.heap.size Bl Bq Bf A [] (W.alloc (.cells #[.func (.yield l) #[] #[]] 255)):=by
  have f1:=f0.trans ((Fr.refl (fun k _=>k=Bl\/k=Bq\/k=Bf\/k=A\/k=0) W).alloc (.cells #[.func (.yield l) #[] #[]] 255));exact ⟨World.alloc_heap_new W _,f1.cell hl (fun _ _=>by simp),f1.cell hq (fun _ _=>by simp),f1.cell hf (fun _ _=>by simp),hb.fr f1 (fun _=>by simp),hs.fr f1 (fun _=>by simp),⟨List.nodup_nil,fun D hD=>absurd hD List.not_mem_nil⟩⟩
 have hJ0:=hJ _ _ _ h0 ((Fr.refl _ W).alloc (.cells #[.func (.yield l) #[] #[]] 255));refine (callsIn_wide (n:=9)).1 ?_;refine callsIn_of_wp_marks Tryz.func313 rfl trivial ?_ rfl;simp only [Tryz.ntmps313,List.size_toArray,List.length_cons,List.length_nil,Nat.reduceAdd,Nat.reduceSub,Array.replicate_succ,Array.replicate_zero,List.push_toArray,List.append_toArray,List.nil_append,List.cons_append];refine wpIn_wide.2 ?_;clear h0 f0 hl hq hf hb hs;go_wp2_with (refine wpList_load_mid rfl 222 _ rfl 0 0 rfl stepsV _ hA0.st.1 Tryz.underlying222 rfl infoS32 ?_);generalize W.alloc (.cells #[.func (.yield l) #[] #[]] 255)=w1 at hA0 hJ0 ⊢;generalize W.heap.size=Wb at hA0 hB ⊢;refine wpIn_wide.1 (wpIn_loop_ghost (rm:=9) (AkI z x l B Wb Bl Bq Bf A J) 16 ?start ?round)
 case start=>exact ⟨0,[],undef,undef,undef,undef,undef,undef,undef,undef,undef,undef,undef,undef,undef,undef,undef,undef,undef,undef,undef,undef,undef,undef,rfl,rfl,hA0,hJ0⟩
 case round =>
  clear hA0 hJ0;rintro gk a wr ⟨k,Ds,u5,u6,u7,u10,u11,u12,u13,u14,u15,u16,u17,u18,u19,u20,u21,u22,u23,u24,u25,u26,u27,u28,hk,rfl,hM,hJk⟩;have hM':=hide hM;have hJk':=hide hJk;clear hJk;have hBl:=hM.cl;have hBq:=hM.cq;have hBf:=hM.cf;clear hM;by_cases hlt:k<16
  ·have hix:=ixst k hlt;obtain ⟨hsm,hnz⟩:=stN_small k;have hsc:Hid (attU z x (k+1)=attU z x k++attS z x k):=hide (attU_succ z x k);have hpr:Hid (attU z x k++attS z x k <+: attU z x 16):=hide (attU_pre z x hlt);have hsS:Hid (attS z x k=if goesB (z x) (stN k) then (if farB (z x) then wkL z (stN k) x else (wkL z (stN k) x).take 1) else []):=hide rfl;generalize attS z x k=aS at hsc hpr hsS;generalize stN k=st at hix hsm hnz hsS;obtain ⟨a,b⟩:=st;simp only at hix hnz;have hk0:(0:Int)<=(k:Int):=by omega
   have hk16:(k:Int)<16:=by omega
   have hmk:=hide (fun W=>walk_mk A x a b W);have hgo:=hide (fun W=>goes_any (z x) a b hsm W);have hgA:Gr wr (wr.alloc (.cells #[.int .i64 a,.int .i64 b] 221)):=(Gr.refl wr).alloc _ _;obtain ⟨y1a,y1b⟩:=two_cells (World.alloc_heap_new wr (.cells #[.int .i64 a,.int .i64 b] 221));have hM1:=(unhide hM').gr hgA;have c1:=hM1.cl;have hltA:wr.heap.size<(wr.alloc (.cells #[.int .i64 a,.int .i64 b] 221)).heap.size:=by simp
   obtain ⟨g1,hg1⟩:∃ g,goesB (z x) (a,b)=g:=⟨_,rfl⟩;rw [hg1] at hgo hsS;refine wpIn_wide.2 ?_;cases g1
   ·go_wp2_with (go_at_call 149;refine (unhide hgo _).mono ?_;rintro e wg ⟨rfl,hgg⟩);have hgw:=Gr.trans hgA hgg;exact ⟨gk-1,by omega,k+1,Ds,_,_,_,_,_,_,_,_,_,_,_,_,_,_,_,_,_,_,_,_,_,_,by omega,rfl,(unhide hM').gr hgw,by rw [unhide hsc,unhide hsS];simpa using hJ _ _ _ (unhide hJk') (Fr.of_gr hgw)⟩
   ·have key:Hid (∀ wg,Gr (wr.alloc (.cells #[.int .i64 a,.int .i64 b] 221)) wg->wg.cell? ⟨Bq,0,none⟩=some (.pointer (some ⟨A,0,none⟩))/\wg.cell? ⟨Bf,0,none⟩=some (.int .i64 (x:Int))/\wg.cell? ⟨wr.heap.size,0,none⟩=some (.int .i64 a)/\wg.cell? ⟨wr.heap.size,1,none⟩=some (.int .i64 b)):=hide (fun wg hgg=>⟨(hM1.gr hgg).cq,(hM1.gr hgg).cf,(Below.cell hgg (p:=⟨wr.heap.size,0,none⟩) hltA).trans y1a,(Below.cell hgg (p:=⟨wr.heap.size,1,none⟩) hltA).trans y1b⟩)
    go_wp2_with (first
     | (go_at_call 149;refine (unhide hgo _).mono ?_;rintro e wg ⟨rfl,hgg⟩;obtain ⟨q1,q2,q3,q4⟩:=unhide key _ hgg)
     | (go_at_call 147;refine (unhide hmk _).mono ?_;rintro e w6 ⟨rfl,hwk,hg6,hs6⟩))
    have hM6:Ak z x l B Wb Bl Bq Bf A Ds w6:=(unhide hM').gr (Gr.trans hgA (Gr.trans hgg hg6));have hJ6:=hJ _ _ _ (unhide hJk') (Fr.of_gr (Gr.trans hgA (Gr.trans hgg hg6)));have hDs:∀ D∈Ds,D<w6.heap.size:=fun D hD=>(Array.getElem?_eq_some_iff.1 (hM6.ms.2 D hD).2).1
    have hWb6:Wb<w6.heap.size:=(Array.getElem?_eq_some_iff.1 hM6.yb).1;have hWr:Wb<wr.heap.size:=(Array.getElem?_eq_some_iff.1 (unhide hM').yb).1;have hBg:wr.heap.size<wg.heap.size:=by have:=Below.size hgg;omega
    have hA6:A<w6.heap.size:=World.block_lt_of_cell? _ _ (hM6.bd 0 (by omega));clear hgA y1a y1b hg6 hix hmk hgg hgo key q1 q2 q3 q4 c1 hM1 hltA hBl hBq hBf;generalize wg.heap.size=Bw at hBg hwk hs6 ⊢;generalize wr.heap.size=Bs at hBg hWr ⊢;have hwk6:=hwk.wk hM6.bd;obtain ⟨fa,hfa⟩:∃ f,farB (z x)=f:=⟨_,rfl⟩;rw [hfa] at hsS;have hgf:=hide (fun W=>goesFar_any (z x) W);rw [hfa] at hgf;have hB6:B<=w6.heap.size:=by omega
    have hs7:Bw+3<=w6.heap.size:=by omega
    clear hs6
    refine wpIn_wide.1 (range_out (n:=9) (gf:=220) (lb:=wkA Bw) rfl (enters_of Tryz.func220 (by kernel_rfl) rfl)
     (walk_it z x hx a b hsm hnz (Bw+1) (Bw+2) Bw A T w6 hwk6) hTm.cells (by rintro j (rfl|rfl|rfl|rfl);exact (by omega);exact (by omega);exact (by omega);exact hA6) (Fr.refl _ _) (fun _=>rfl)
     (fun pre V=>Ak z x l B Wb Bl Bq Bf A Ds V/\WkAt A x a b Bw V/\AkN z x k fa J pre V)
     (fun c pre V=>Marks B Ds V/\AkX z x l B Wb Bl Bq Bf A Ds k fa J Jx c pre V)
     ?sI ?sX ⟨hM6,hwk,.inr rfl,by simpa using hJ6⟩ ?rnd ?done ?stop)
    case sI=>exact fun s V V' h f=>⟨hM6.below (Nat.le_refl _) h.1 f,⟨f.same _ _ h.2.1.b0 (.inl (by omega)),f.same _ _ h.2.1.b1 (.inl (by omega)),f.same _ _ h.2.1.b2 (.inl (by omega))⟩,⟨h.2.2.1,stable_mono hJ hB6 _ _ _ h.2.2.2 f⟩⟩
    case sX=>exact fun c s V V' h f=>⟨h.1.fr f (fun j o _ _ _ hj=>.inl (hDs _ hj)),h.2.imp (fun h=>⟨h.1,h.2.elim fun q hq=>⟨q,hq.1,stable_mono hJx hB6 _ _ _ hq.2 f⟩⟩) (fun h=>⟨h.1,hM6.below (Nat.le_refl _) h.2.1 f,h.2.2.1,h.2.2.2.elim fun y hy=>⟨y,hy.1,stable_mono hJ hB6 _ _ _ hy.2 f⟩⟩)⟩
    case done =>
     rintro D V hD ⟨hMV,_,hfe,hJV⟩ hK
     have hne:attU z x (k+1)=attU z x k++wkL z (a,b) x:=by
      rw [unhide hsc,unhide hsS];rcases hfe with rfl|hfe
      ·rfl
      ·rw [hfe];cases fa<;>rfl
     have hne':=hide hne;clear hne;go_wp2_with fail;exact ⟨gk-1,by omega,k+1,D :: Ds,_,_,_,_,_,_,_,_,_,_,_,_,_,_,_,_,_,_,_,_,_,_,by omega,rfl,hMV.cons (by omega) (fun h=>by have:=hDs D h;omega) hK,by rw [unhide hne'];exact hJV⟩
    case stop =>
     rintro D c pre V hD hpre ⟨hms,⟨rfl,q,hq1,hq2⟩|⟨rfl,hMV,hfa0,y,rfl,hJy⟩⟩ hK
     ·refine wpIn_wide.2 ?_;go_wp2_with fail;exact leave_all (T:=T) Tryz.results313 hTm.cells (D :: Ds) V (marks_cons hms (by omega) (fun h=>by have:=hDs D h;omega) hK) (fun v w' f=>⟨⟨v,rfl⟩,.inr ⟨q,hq1,hJx _ _ _ hq2 f⟩⟩)
     ·have hne:Hid (attU z x (k+1)=attU z x k++[y]):=hide (by
       rw [unhide hsc,unhide hsS,hfa0];obtain ⟨r,hr⟩:=hpre;rw [<-hr];rfl)
      refine wpIn_wide.2 ?_;go_wp2_with fail;exact ⟨gk-1,by omega,k+1,D :: Ds,_,_,_,_,_,_,_,_,_,_,_,_,_,_,_,_,_,_,_,_,_,_,by omega,rfl,hMV.cons (by omega) (fun h=>by have:=hDs D h;omega) hK,by rw [unhide hne];exact hJy⟩
    case rnd =>
     intro l1 pre y V hbl hxy hI hl;simp only [encI];gi_wp2;refine ⟨Fr.refl _ _,?_⟩;intro V2 f2 hI2 hl2;obtain ⟨hM2,hwk2,hfe,hJ2⟩:=hI2;have cy:=(cell_of_box_l hM2.yb).1;have cl:=hM2.cl
     have hpy:attU z x k++pre++[y] <+: attU z x 16:=by
      refine List.IsPrefix.trans ?_ (unhide hpr);rw [List.append_assoc,unhide hsS];refine (List.prefix_append_right_inj _).2 ?_;rcases hfe with hfe|hfe
      ·rw [hfe];exact hxy
      ·rw [hfe] at hxy ⊢;obtain ⟨r,hr⟩:=hxy;cases fa
       ·rw [<-hr];exact ⟨[],rfl⟩
       ·exact ⟨r,hr⟩
     obtain ⟨fn,tmps,assign,body,hyy,hR⟩:=yield_any (m':=8) (hY (attU z x k++pre) y V2 hpy hJ2);have hy':(Instr.yield l #[.int .i64 (y:Int)]).run Tryz.prog V2=.ok (.round l fn tmps assign body) V2:=hyy;clear hyy;have hM2':=hide hM2;have hwk2':=hide hwk2;clear hM2 hwk2 hI hl f2;gi_wp2;have hR':RoundIn (Fence.wide.inRound l1) 8 Tryz.prog l fn tmps assign body V2 (fun e W'=>Fr (Rnd1 B T (fun k=>k=Bl\/k=Bq\/k=Bf\/k=A\/k=0)) V2 W'/\((e=.returned (.bool true)/\J (attU z x k++pre++[y]) W')\/(e=.returned (.bool false)/\Jx (attU z x k++pre++[y]) W'))):=hR;clear hR;refine hR'.mono ?_;clear hR' hy';intro e V4 h4;obtain ⟨f4,h4⟩:=h4
     have fc1:Fr (Rnd1 w6.heap.size T (fun j=>j=Bw+1\/j=Bw+2\/j=Bw\/j=A)) V2 V4:=rnd_in f4 hTm hB6 (by
      rintro j (rfl|rfl|rfl|rfl)
      ·exact .inr (far_of (by omega) (by decide) (unhide hwk2').b1)
      ·exact .inr (far_of (by omega) (by decide) (unhide hwk2').b2)
      ·exact .inr (far_of (by omega) (by decide) (unhide hwk2').b0)
      ·exact .inl (by simp))
     have hM4:Ak z x l B Wb Bl Bq Bf A Ds V4:=(unhide hM2').rnd hTm hB (fun j hj=>hj) f4;have cl4:=hM4.cl;have hM4':=hide hM4;have fc1':=hide fc1;clear hM4 fc1;rcases h4 with ⟨rfl,hJ4⟩|⟨rfl,hx4⟩
     ·have hwk4:Hid (WkAt A x a b Bw V4):=hide ⟨(far_of (by omega) (by decide) (unhide hwk2').b0).keep hTm f4 (unhide hwk2').b0,(far_of (by omega) (by decide) (unhide hwk2').b1).keep hTm f4 (unhide hwk2').b1,(far_of (by omega) (by decide) (unhide hwk2').b2).keep hTm f4 (unhide hwk2').b2⟩;cases fa
      ·obtain rfl:pre=[]:=by
        rcases hfe with h|h
        ·cases h
        ·exact h
       gi_wp2_with (refine ⟨trivial,?_⟩;gi_at_call 151;refine ((callsIn_wide.2 (unhide hgf _)).inRound l1).mono ?_;rintro e wf ⟨rfl,rfl⟩);exact ⟨unhide fc1',(unhide hM4').ms,.inr ⟨rfl,unhide hM4',rfl,y,rfl,by simpa using hJ4⟩⟩
      ·gi_wp2_with (refine ⟨trivial,?_⟩;gi_at_call 151;refine ((callsIn_wide.2 (unhide hgf _)).inRound l1).mono ?_;rintro e wf ⟨rfl,rfl⟩);exact ⟨unhide fc1',unhide hM4',unhide hwk4,.inl rfl,by rw [<-List.append_assoc];exact hJ4⟩
     ·gi_wp2;exact ⟨unhide fc1',(unhide hM4').ms,.inl ⟨rfl,_,hpy,hx4⟩⟩
  ·have hk16:k=16:=by omega
   subst hk16;refine wpIn_wide.2 ?_;go_wp2_with fail;exact leave_all (T:=T) Tryz.results313 hTm.cells Ds wr (unhide hM').ms (fun v w' f=>⟨⟨v,rfl⟩,.inl (hJ _ _ _ (unhide hJk') f)⟩)
theorem onlyI_it {g gf:Nat} {lb lf:Array Value} {T:Obj->Prop} {C:Nat->Prop} {xs:List Nat} {w:World} (hit:It Tryz.prog g lb encI T C xs w) (heg:∀ args w,(callFunc g args).run Tryz.prog w=.ok (.enter g args) w) (hef:∀ args w,(callFunc gf args).run Tryz.prog w=.ok (.enter gf args) w)
  (hTm:OnlyMv T) (hCb:∀ k,C k->k<w.heap.size) (Bt Bf:Nat) (p:Nat->Bool) (hth:w.heap[Bt]?=some (.cells #[.func (.func g) #[] lb] 207)) (hfi:w.heap[Bf]?=some (.cells #[.func (.func gf) #[] lf] 255))
  (hfit:∀ x∈xs,∀ W,Fr (fun k _=>C k) w W->Calls Tryz.prog gf (#[.int .i64 (x:Int)]++lf) W fun e W'=>e=.returned (.bool (p x))/\Gr W W') :
  It Tryz.prog 312 #[.pointer (some ⟨Bt,0,none⟩),.pointer (some ⟨Bf,0,none⟩)] encI T (fun k=>C k\/k=Bt\/k=Bf) (xs.filter p) w:=by
 intro l B J Jx W f0 hB hJ hJx hY h0;have hTc:=hTm.cells;have hth':=f0.same _ _ hth (.inr (.inl rfl));have hfi':=f0.same _ _ hfi (.inr (.inr rfl));have hbt:=(Array.getElem?_eq_some_iff.1 hth).1;have hbf:=(Array.getElem?_eq_some_iff.1 hfi).1;refine (callsIn_wide (n:=9)).1 ?_;refine callsIn_of_wp_marks Tryz.func312 rfl trivial ?_ rfl;simp only [Tryz.ntmps312,List.size_toArray,List.length_cons,List.length_nil,Nat.reduceAdd,Nat.reduceSub,Array.replicate_succ,Array.replicate_zero,List.push_toArray,List.append_toArray,List.nil_append,List.cons_append];have cth:(W.alloc (.cells #[.func (.yield l) #[] #[]] 255)).cell? ⟨Bt,0,none⟩=some (.func (.func g) #[] lb):=(cell_of_box_l ((Below.heap_alloc W _ _ (Array.getElem?_eq_some_iff.1 hth').1).trans hth')).1;gi_wp2;have hyb:=World.alloc_heap_new W (.cells #[.func (.yield l) #[] #[]] 255);have f1:∀ Q:Nat->Obj->Prop,Fr Q W (W.alloc (.cells #[.func (.yield l) #[] #[]] 255)):=fun Q=>(Fr.refl _ _).alloc _
 have hs1:(W.alloc (.cells #[.func (.yield l) #[] #[]] 255)).heap.size=W.heap.size+1:=World.size_alloc _ _;generalize (W.alloc (.cells #[.func (.yield l) #[] #[]] 255))=w1 at cth hyb f1 hs1 ⊢;have hJ1:=hJ _ _ _ h0 (f1 _);have f01:=f0.trans (f1 _);have hww:=f0.size;clear cth hth' hfi' f1
 refine range_out (n:=9) (gf:=g) (lb:=lb) rfl heg (hit.mono (C':=fun k=>C k\/k=Bt\/k=Bf) (fun k h=>.inl h)) hTc (by rintro k (hk|rfl|rfl);exact (by have:=hCb k hk;omega);exact (by omega);exact (by omega)) f01 (fun _=>rfl)
  (fun pre V=>V.heap[W.heap.size]?=some (.cells #[.func (.yield l) #[] #[]] 255)/\J (pre.filter p) V/\Fr (fun k _=>C k\/k=Bt\/k=Bf) w V)
  (fun c _ V=>c=.ret/\∃ q,q <+: xs.filter p/\Jx q V)
  ?sI ?sX ⟨hyb,hJ1,f01⟩ ?rnd ?done ?stop
 case sI=>exact fun s A A' h f=>⟨f.same _ _ h.1 (.inl (by omega)),stable_mono hJ (by omega) _ _ _ h.2.1 f,h.2.2.ext f (fun k o e _=>.inl (by have:=(Array.getElem?_eq_some_iff.1 e).1;omega))⟩
 case sX=>exact fun c s A A' h f=>⟨h.1,h.2.elim fun q hq=>⟨q,hq.1,stable_mono hJx (by omega) _ _ _ hq.2 f⟩⟩
 case done =>
  rintro D V hD ⟨_,hj,_⟩ hK;gi_wp2;exact leave_all (T:=T) Tryz.results312 hTc [D] V ⟨by simp,fun D' hD'=>by rw [List.mem_singleton] at hD';subst hD';exact ⟨by omega,hK⟩⟩ (fun v w' f=>⟨⟨v,rfl⟩,.inl (hJ _ _ _ hj f)⟩)
 case stop =>
  rintro D c pre V hD _ ⟨rfl,q,hq1,hq2⟩ hK;gi_wp2;exact leave_all (T:=T) Tryz.results312 hTc [D] V ⟨by simp,fun D' hD'=>by rw [List.mem_singleton] at hD';subst hD';exact ⟨by omega,hK⟩⟩ (fun v w' f=>⟨⟨v,rfl⟩,.inr ⟨q,hq1,hJx _ _ _ hq2 f⟩⟩)
 case rnd =>
  rintro l1 pre y V hbl hx ⟨hy,hj,hfw⟩ hl;simp only [encI];gi_wp2;refine ⟨Fr.refl _ _,?_⟩;intro V2 f2 hI2 hl2;obtain ⟨hy2,hj2,hfw2⟩:=hI2;have kfi:=hfw2.same _ _ hfi (.inr (.inr rfl));have cfi:=(cell_of_box_l kfi).1;have hc:=hide (hfit y (pre_mem hx) V2 (hfw2.mono fun k _ _ q=>.inl q));have keep:∀ V3,Gr V2 V3->V3.heap[W.heap.size]?=some (.cells #[.func (.yield l) #[] #[]] 255)/\J (pre.filter p) V3/\Fr (fun k _=>C k\/k=Bt\/k=Bf) w V3:=fun V3 hg=>⟨(Below.block hg _ (Array.getElem?_eq_some_iff.1 hy2).1).trans hy2,hJ _ _ _ hj2 (Fr.of_gr hg),hfw2.ext (Fr.of_gr (Q:=fun _ _=>True) hg) (fun _ _ _ _=>trivial)⟩
  cases hp:p y
  ·rw [hp] at hc;gi_wp2;refine ⟨trivial,CallsIn.inRound l1 (callsIn_wide.2 ((unhide hc).mono ?_))⟩;rintro e V3 ⟨rfl,hg⟩;gi_wp2;refine ⟨fun _ h=>(by cases h),?_⟩;gi_wp2;obtain ⟨z1,z2,z3⟩:=keep V3 hg;refine ⟨Fr.of_gr hg,z1,?_,z3⟩;rw [List.filter_append];simpa [hp] using z2
  ·rw [hp] at hc;gi_wp2;refine ⟨trivial,CallsIn.inRound l1 (callsIn_wide.2 ((unhide hc).mono ?_))⟩;rintro e V3 ⟨rfl,hg⟩;obtain ⟨z1,z2,z3⟩:=keep V3 hg;have c3:=(cell_of_box_l z1).1;obtain ⟨fn,tmps,assign,body,hyy,hR⟩:=yield_any (m':=8) (hY (pre.filter p) y V3 (filt_snoc p hx hp) z2);have hy':(Instr.yield l #[.int .i64 (y:Int)]).run Tryz.prog V3=.ok (.round l fn tmps assign body) V3:=hyy;clear hyy;gi_wp2;have hR':RoundIn (Fence.wide.inRound l1) 8 Tryz.prog l fn tmps assign body V3 (fun e W'=>Fr (Rnd1 B T (fun k=>C k\/k=Bt\/k=Bf)) V3 W'/\((e=.returned (.bool true)/\J (pre.filter p++[y]) W')\/(e=.returned (.bool false)/\Jx (pre.filter p++[y]) W'))):=hR;clear hR;refine hR'.mono ?_;intro e V4 h4;obtain ⟨f4,h4⟩:=h4;have fc1:Fr (Rnd1 w1.heap.size T (fun k=>C k\/k=Bt\/k=Bf)) V2 V4:=(Fr.of_gr hg:Fr _ V2 V3).trans (f4.mono fun k o _ q=>q.elim .inl fun q=>.inr ⟨by omega,q.2⟩);rcases h4 with ⟨rfl,hJ4⟩|⟨rfl,hx4⟩
   ·gi_wp2;refine ⟨fc1,f4.same _ _ z1 (.inr ⟨hB,hTm.no (by decide)⟩),?_,z3.ext f4 (fun k o _ q=>.inl q)⟩;rw [List.filter_append];simpa [hp] using hJ4
   ·gi_wp2;exact ⟨fc1,rfl,_,filt_snoc p hx hp,hx4⟩
structure Ch (gN:Nat->Nat) (lbN:Nat->Array Value) (l B Wb Bp Bg:Nat) (C:Nat->Prop) (w:World) (Ds:List Nat) (W:World):Prop where
 yb:W.heap[Wb]?=some (.cells #[.func (.yield l) #[] #[]] 255)
 cp:W.cell? ⟨Bp,0,none⟩=some (.slice (some ⟨Bg,0,none⟩) 2 2)
 cg:∀ k,k<2->W.cell? ⟨Bg,k,none⟩=some (.func (.func (gN k)) #[] (lbN k))
 fw:Fr (fun k _=>C k) w W
 ms:Marks B Ds W
theorem Ch.fr {gN:Nat->Nat} {lbN:Nat->Array Value} {l B Wb Bp Bg:Nat} {C:Nat->Prop} {w:World} {Ds:List Nat} {W W':World} {Q:Nat->Obj->Prop} (h:Ch gN lbN l B Wb Bp Bg C w Ds W) (f:Fr Q W W') (hq:∀ k o,(k=Wb\/k=Bp\/k=Bg\/(C k/\k<w.heap.size)\/k∈Ds)->W.heap[k]?=some o->Q k o):Ch gN lbN l B Wb Bp Bg C w Ds W' :=
  ⟨f.same _ _ h.yb (hq _ _ (by simp) h.yb),f.cell h.cp (fun o e=>hq _ o (by simp) e),fun k hk=>f.cell (h.cg k hk) (fun o e=>hq _ o (by simp) e),
   h.fw.ext f (fun k o e q=>hq k o (.inr (.inr (.inr (.inl ⟨q,(Array.getElem?_eq_some_iff.1 e).1⟩)))) (h.fw.same k o e q)),h.ms.fr f (fun k o _ _ e hk=>hq k o (by simp [hk]) e)⟩
theorem Ch.below {gN:Nat->Nat} {lbN:Nat->Array Value} {l B Wb Bp Bg:Nat} {C:Nat->Prop} {w:World} {Ds:List Nat} {W W' W0:World} {T:Obj->Prop} {n:Nat} (h0:Ch gN lbN l B Wb Bp Bg C w Ds W0) (hn:W0.heap.size<=n) (h:Ch gN lbN l B Wb Bp Bg C w Ds W) (f:Fr (Own1 n T) W W'):Ch gN lbN l B Wb Bp Bg C w Ds W':=h.fr f (fun k o hk _=>by
 refine .inl ?_;have lc:∀ {p:Addr} {v:Value},W0.cell? p=some v->p.block<n:=fun hp=>Nat.lt_of_lt_of_le (World.block_lt_of_cell? _ _ hp) hn
 rcases hk with rfl|rfl|rfl|⟨_,hk⟩|hk
 ·exact Nat.lt_of_lt_of_le (Array.getElem?_eq_some_iff.1 h0.yb).1 hn
 ·exact lc h0.cp
 ·exact lc (h0.cg 0 (by omega))
 ·exact Nat.lt_of_lt_of_le hk (Nat.le_trans h0.fw.size hn)
 ·exact Nat.lt_of_lt_of_le (Array.getElem?_eq_some_iff.1 (h0.ms.2 k hk).2).1 hn)
theorem Ch.rnd {gN:Nat->Nat} {lbN:Nat->Array Value} {l B Wb Bp Bg:Nat} {C:Nat->Prop} {w:World} {Ds:List Nat} {W W':World} {T:Obj->Prop} (h:Ch gN lbN l B Wb Bp Bg C w Ds W) (hT:OnlyMv T) (hB:B<=Wb) (f:Fr (Rnd1 B T (fun k=>C k\/k=Bp\/k=Bg)) W W'):Ch gN lbN l B Wb Bp Bg C w Ds W':=h.fr f (fun k o hk e=>by
 rcases hk with rfl|hk|hk|hk|hk
 ·rw [h.yb] at e;cases e;exact .inr ⟨hB,hT.no (by decide)⟩
 ·exact .inl (by simp [hk])
 ·exact .inl (by simp [hk])
 ·exact .inl (.inl hk.1)
 ·rw [(h.ms.2 k hk).2] at e;cases e;exact .inr ⟨(h.ms.2 k hk).1,fun q=>by have:=hT.cells _ q;cases this⟩)
theorem Ch.cons {gN:Nat->Nat} {lbN:Nat->Array Value} {l B Wb Bp Bg D:Nat} {C:Nat->Prop} {w:World} {Ds:List Nat} {W:World} (h:Ch gN lbN l B Wb Bp Bg C w Ds W) (hD:B<=D) (hn:D∉Ds) (hK:W.heap[D]?=some (.deferred (some []))):Ch gN lbN l B Wb Bp Bg C w (D :: Ds) W :=
 ⟨h.yb,h.cp,h.cg,h.fw,marks_cons h.ms hD hn hK⟩
def chU (xsN:Nat->List Nat) (k:Nat):List Nat:=(List.range k).flatMap xsN
theorem chU_succ (xsN:Nat->List Nat) (k:Nat):chU xsN (k+1)=chU xsN k++xsN k:=by
 unfold chU;rw [List.range_succ,List.flatMap_append];simp
theorem chU_pre (xsN:Nat->List Nat) {k:Nat} (hk:k<2):chU xsN k++xsN k <+: chU xsN 2:=by
 rw [<-chU_succ];have:k=0\/k=1:=by omega
 rcases this with rfl|rfl
 ·rw [chU_succ xsN 1];exact List.prefix_append _ _
 ·exact List.prefix_rfl
theorem chU_two (xsN:Nat->List Nat):chU xsN 2=xsN 0++xsN 1:=by
 show xsN 0++(xsN 1++[])=_;rw [List.append_nil]
def ChI (gN:Nat->Nat) (lbN:Nat->Array Value) (xsN:Nat->List Nat) (l B Wb Bp Bg:Nat) (C:Nat->Prop) (w:World) (J:List Nat->World->Prop) (gk:Nat) (a:Act) (wr:World):Prop :=
 ∃ (k:Nat) (Ds:List Nat) (u3 u4 u5 u9 u10 u11 u12 u13 u14 u15 u16 u17 u18:Value),k+gk=2/\a={ tmps:=#[.func (.yield l) #[] #[],.pointer (some ⟨Bp,0,none⟩),.pointer (some ⟨Wb,0,none⟩),u3,u4,u5,.slice (some ⟨Bg,0,none⟩) 2 2,.int .i64 2,.int .i64 (k:Int),u9,u10,u11,u12,u13,u14,u15,u16,u17,u18],defers:=Ds.map markD }/\Ch gN lbN l B Wb Bp Bg C w Ds wr/\J (chU xsN k) wr
theorem chain_it {gN:Nat->Nat} {lbN:Nat->Array Value} {xsN:Nat->List Nat} {T:Obj->Prop} {C:Nat->Prop} {w:World} (hit:∀ k,k<2->It Tryz.prog (gN k) (lbN k) encI T C (xsN k) w) (heg:∀ k,k<2->∀ args w,(callFunc (gN k) args).run Tryz.prog w=.ok (.enter (gN k) args) w)
  (hTm:OnlyMv T) (hCb:∀ k,C k->k<w.heap.size) (Bp Bg:Nat) (hp:w.cell? ⟨Bp,0,none⟩=some (.slice (some ⟨Bg,0,none⟩) 2 2)) (hg:∀ k,k<2->w.cell? ⟨Bg,k,none⟩=some (.func (.func (gN k)) #[] (lbN k))) :
  It Tryz.prog 314 #[.pointer (some ⟨Bp,0,none⟩)] encI T (fun k=>C k\/k=Bp\/k=Bg) (xsN 0++xsN 1) w:=by
 rw [<-chU_two];intro l B J Jx W f0 hB hJ hJx hY h0
 have hA0:Ch gN lbN l B W.heap.size Bp Bg C w [] (W.alloc (.cells #[.func (.yield l) #[] #[]] 255)):=by
  have f1:=f0.trans ((Fr.refl (fun k _=>C k\/k=Bp\/k=Bg) W).alloc (.cells #[.func (.yield l) #[] #[]] 255));exact ⟨World.alloc_heap_new W _,f1.cell hp (fun _ _=>by simp),fun k hk=>f1.cell (hg k hk) (fun _ _=>by simp),f1.mono (fun k o _ q=>.inl q),⟨List.nodup_nil,fun D hD=>absurd hD List.not_mem_nil⟩⟩
 have hJ0:=hJ _ _ _ h0 ((Fr.refl _ W).alloc (.cells #[.func (.yield l) #[] #[]] 255));refine (callsIn_wide (n:=9)).1 ?_;refine callsIn_of_wp_marks Tryz.func314 rfl trivial ?_ rfl;simp only [Tryz.ntmps314,List.size_toArray,List.length_cons,List.length_nil,Nat.reduceAdd,Nat.reduceSub,Array.replicate_succ,Array.replicate_zero,List.push_toArray,List.append_toArray,List.nil_append,List.cons_append];refine wpIn_wide.2 ?_;clear h0 f0 hp hg;have c0:=hA0.cp;go_wp2_with fail;generalize W.alloc (.cells #[.func (.yield l) #[] #[]] 255)=w1 at hA0 hJ0 c0 ⊢;generalize W.heap.size=Wb at hA0 hB ⊢;clear c0;refine wpIn_wide.1 (wpIn_loop_ghost (rm:=9) (ChI gN lbN xsN l B Wb Bp Bg C w J) 2 ?start ?round)
 case start=>exact ⟨0,[],undef,undef,undef,undef,undef,undef,undef,undef,undef,undef,undef,undef,undef,rfl,rfl,hA0,hJ0⟩
 case round =>
  clear hA0 hJ0;rintro gk a wr ⟨k,Ds,u3,u4,u5,u9,u10,u11,u12,u13,u14,u15,u16,u17,u18,hk,rfl,hM,hJk⟩;have hM':=hide hM;have hJk':=hide hJk;clear hJk;by_cases hlt:k<2
  ·have hsc:Hid (chU xsN (k+1)=chU xsN k++xsN k):=hide (chU_succ xsN k);have hpr:Hid (chU xsN k++xsN k <+: chU xsN 2):=hide (chU_pre xsN hlt);have c1:=hM.cg k hlt;have hitk:=hit k hlt;have hegk:=heg k hlt;clear hM;have hDs:∀ D∈Ds,D<wr.heap.size:=fun D hD=>(Array.getElem?_eq_some_iff.1 ((unhide hM').ms.2 D hD).2).1
   have hWb6:Wb<wr.heap.size:=(Array.getElem?_eq_some_iff.1 (unhide hM').yb).1;have hk0:(0:Int)<=(k:Int):=by omega
   have hk2:(k:Int)<2:=by omega
   have hB6:B<=wr.heap.size:=by omega
   generalize xsN k=xs at hitk hsc hpr;generalize gN k=g at c1 hitk hegk;generalize lbN k=lb at c1 hitk;refine wpIn_wide.2 ?_;go_wp2_with fail
   refine wpIn_wide.1 (range_out (n:=9) (gf:=g) (lb:=lb) rfl hegk hitk hTm.cells (fun j hj=>Nat.lt_of_lt_of_le (hCb j hj) (unhide hM').fw.size) (unhide hM').fw (fun _=>rfl)
    (fun pre V=>Ch gN lbN l B Wb Bp Bg C w Ds V/\J (chU xsN k++pre) V)
    (fun c _ V=>c=.ret/\Marks B Ds V/\∃ q,q <+: chU xsN 2/\Jx q V)
    ?sI ?sX ⟨unhide hM',by simpa using unhide hJk'⟩ ?rnd ?done ?stop)
   case sI=>exact fun s V V' h f=>⟨(unhide hM').below (Nat.le_refl _) h.1 f,stable_mono hJ hB6 _ _ _ h.2 f⟩
   case sX=>exact fun c s V V' h f=>⟨h.1,h.2.1.fr f (fun j o _ _ _ hj=>.inl (hDs _ hj)),h.2.2.elim fun q hq=>⟨q,hq.1,stable_mono hJx hB6 _ _ _ hq.2 f⟩⟩
   case done =>
    rintro D V hD ⟨hMV,hJV⟩ hK;go_wp2_with fail;exact ⟨gk-1,by omega,k+1,D :: Ds,_,_,_,_,_,_,_,_,_,_,_,_,_,by omega,rfl,hMV.cons (by omega) (fun h=>by have:=hDs D h;omega) hK,by rw [unhide hsc];exact hJV⟩
   case stop =>
    rintro D c pre V hD hpre ⟨rfl,hms,q,hq1,hq2⟩ hK;refine wpIn_wide.2 ?_;go_wp2_with fail;exact leave_all (T:=T) Tryz.results314 hTm.cells (D :: Ds) V (marks_cons hms (by omega) (fun h=>by have:=hDs D h;omega) hK) (fun v w' f=>⟨⟨v,rfl⟩,.inr ⟨q,hq1,hJx _ _ _ hq2 f⟩⟩)
   case rnd =>
    intro l1 pre y V hbl hxy hI hl;simp only [encI];gi_wp2;refine ⟨Fr.refl _ _,?_⟩;intro V2 f2 hI2 hl2;obtain ⟨hM2,hJ2⟩:=hI2;have cy:=(cell_of_box_l hM2.yb).1
    have hpy:chU xsN k++pre++[y] <+: chU xsN 2:=by
     refine List.IsPrefix.trans ?_ (unhide hpr);rw [List.append_assoc];exact (List.prefix_append_right_inj _).2 hxy
    obtain ⟨fn,tmps,assign,body,hyy,hR⟩:=yield_any (m':=8) (hY (chU xsN k++pre) y V2 hpy hJ2);have hy':(Instr.yield l #[.int .i64 (y:Int)]).run Tryz.prog V2=.ok (.round l fn tmps assign body) V2:=hyy;clear hyy;have hM2':=hide hM2;clear hM2 hI hl f2;gi_wp2;have hR':RoundIn (Fence.wide.inRound l1) 8 Tryz.prog l fn tmps assign body V2 (fun e W'=>Fr (Rnd1 B T (fun k=>C k\/k=Bp\/k=Bg)) V2 W'/\((e=.returned (.bool true)/\J (chU xsN k++pre++[y]) W')\/(e=.returned (.bool false)/\Jx (chU xsN k++pre++[y]) W'))):=hR;clear hR;refine hR'.mono ?_;clear hR' hy';intro e V4 h4;obtain ⟨f4,h4⟩:=h4;have fc1':Hid (Fr (Rnd1 wr.heap.size T C) V2 V4):=hide (f4.mono fun j o _ q=>q.elim (fun q=>.inl (.inl q)) (fun q=>.inr ⟨by omega,q.2⟩));have hM4':Hid (Ch gN lbN l B Wb Bp Bg C w Ds V4):=hide ((unhide hM2').rnd hTm hB f4);rcases h4 with ⟨rfl,hJ4⟩|⟨rfl,hx4⟩
    ·gi_wp2;exact ⟨unhide fc1',unhide hM4',by rw [<-List.append_assoc];exact hJ4⟩
    ·gi_wp2;exact ⟨unhide fc1',rfl,(unhide hM4').ms,_,hpy,hx4⟩
  ·have hk2:k=2:=by omega
   subst hk2;clear hM;refine wpIn_wide.2 ?_;go_wp2_with fail;exact leave_all (T:=T) Tryz.results314 hTm.cells Ds wr (unhide hM').ms (fun v w' f=>⟨⟨v,rfl⟩,.inl (hJ _ _ _ (unhide hJk') f)⟩)
end Go.Proofs.YtnfakamfmkhlbabGreatDoor.C
namespace Go.Proofs.YtnfakamfmkhlbabGreatDoor.C
open Go.ChangeShapes Go.WideShapes Go.ChangeAt Go.RowKit Go.Shelf
open Go.Proofs.YtnfakamfmkhlbabGreatDoor.P
attribute [local go_sem] setCell_drewN alloc_drewN
def pawnB (c:UInt8):Bool:=((c.toNat:Int)==80)||((c.toNat:Int)==112)
def kingB (c:UInt8):Bool:=((c.toNat:Int)==75)||((c.toNat:Int)==107)
theorem isPawn_any (c:UInt8) (w:World):Calls Tryz.prog 121 #[.int .u8 (c.toNat:Int)] w fun e w'=>e=.returned (.bool (pawnB c))/\w'=w:=by
 obtain ⟨v,hv⟩:∃ v,Hid (v=pawnB c):=⟨_,hide rfl⟩;rw [<-unhide hv];have hv2:Hid (v=(((c.toNat:Int)==80)||((c.toNat:Int)==112))):=hv;go_enter Tryz.func121,Tryz.ntmps121;go_wp2
 all_goals
  go_ret;refine ⟨ret_bool ?_,rfl⟩;rw [unhide hv2]
  try simp [*]
theorem isKing_any (c:UInt8) (w:World):Calls Tryz.prog 120 #[.int .u8 (c.toNat:Int)] w fun e w'=>e=.returned (.bool (kingB c))/\w'=w:=by
 obtain ⟨v,hv⟩:∃ v,Hid (v=kingB c):=⟨_,hide rfl⟩;rw [<-unhide hv];have hv2:Hid (v=(((c.toNat:Int)==75)||((c.toNat:Int)==107))):=hv;go_enter Tryz.func120,Tryz.ntmps120;go_wp2
 all_goals
  go_ret;refine ⟨ret_bool ?_,rfl⟩;rw [unhide hv2]
  try simp [*]
structure Ps (z:Nat->UInt8) (wh:Bool) (fc:Nat->Bool) (b:Int) (Bp:Nat) (W:World):Prop where
 bd:Bz z Bp W
 wh:W.cell? ⟨Bp,64,none⟩=some (.bool wh)
 c:∀ i,i<4->W.cell? ⟨Bp,65+i,none⟩=some (.bool (fc i))
 b:W.cell? ⟨Bp,69,none⟩=some (.int .i64 b)
theorem Ps.of {z:Nat->UInt8} {wh:Bool} {fc:Nat->Bool} {b h g:Int} {PA:Array Value} (r:Row z wh fc b h g PA) {Bp:Nat} {W:World} {t:TypeId} (hp:W.heap[Bp]?=some (.cells PA t)):Ps z wh fc b Bp W :=
 ⟨fun i hi=>by rw [cell_of_row _ _ _ _ _ _ hp];exact r.sq i hi,by rw [cell_of_row _ _ _ _ _ _ hp];exact r.wh,fun i hi=>by rw [cell_of_row _ _ _ _ _ _ hp];exact r.c i hi,by rw [cell_of_row _ _ _ _ _ _ hp];exact r.b⟩
theorem Ps.fr {z:Nat->UInt8} {wh:Bool} {fc:Nat->Bool} {b:Int} {Bp:Nat} {W W':World} {Q:Nat->Obj->Prop} (h:Ps z wh fc b Bp W) (f:Fr Q W W') (hq:∀ o,W.heap[Bp]?=some o->Q Bp o):Ps z wh fc b Bp W' :=
 ⟨fun i hi=>f.cell (h.bd i hi) (fun o e=>hq o e),f.cell h.wh (fun o e=>hq o e),fun i hi=>f.cell (h.c i hi) (fun o e=>hq o e),f.cell h.b (fun o e=>hq o e)⟩
theorem Ps.gr {z:Nat->UInt8} {wh:Bool} {fc:Nat->Bool} {b:Int} {Bp:Nat} {W W':World} (h:Ps z wh fc b Bp W) (g:Gr W W'):Ps z wh fc b Bp W':=h.fr (Q:=fun _ _=>True) (Fr.of_gr g) (fun _ _=>trivial)
theorem Ps.lt {z:Nat->UInt8} {wh:Bool} {fc:Nat->Bool} {b:Int} {Bp:Nat} {W:World} (h:Ps z wh fc b Bp W):Bp<W.heap.size:=World.block_lt_of_cell? _ _ h.wh
def mayB (z:Nat->UInt8) (wh:Bool) (b:Int) (f t:Nat):Bool:=if pawnB (z f) then ((t:Int)==b)||manB (z t) (!wh) else !(manB (z t) wh)
theorem mayGo_any {z:Nat->UInt8} {wh:Bool} {fc:Nat->Bool} {b:Int} {Bp:Nat} {w:World} (h:Ps z wh fc b Bp w) (f t:Nat) (hf:f<64) (ht:t<64) :
  Calls Tryz.prog 268 #[.pointer (some ⟨Bp,0,none⟩),.int .i64 (f:Int),.int .i64 (t:Int)] w fun e w'=>e=.returned (.bool (mayB z wh b f t))/\Gr w w':=by
 have c1:=h.bd f hf;have c2:=h.bd t ht;have c3:=h.wh;have c4:=h.b;have hp:=hide (fun W=>isPawn_any (z f) W);have hm:=hide (fun x W=>isMan_any (z t) x W);obtain ⟨v,hv⟩:∃ v,Hid (v=mayB z wh b f t):=⟨_,hide rfl⟩;rw [<-unhide hv];have hv2:Hid (v=if pawnB (z f) then ((t:Int)==b)||manB (z t) (!wh) else !(manB (z t) wh)):=hv;clear hv h;generalize pawnB (z f)=pw at hp hv2;have hf0:(0:Int)<=(f:Int):=by omega
 have hf1:(f:Int)<64:=by omega
 have ht0:(0:Int)<=(t:Int):=by omega
 have ht1:(t:Int)<64:=by omega
 cases pw
 ·go_enter Tryz.func268,Tryz.ntmps268;go_upto_region 3 with (go_at_call 121;refine (unhide hp _).mono ?_;rintro e w' ⟨rfl,rfl⟩);go_quiet ((go_at_call 148;exact Calls.quiet_of_same (unhide hm _ _)));go_wp2;go_ret;refine ⟨ret_bool ?_,(Gr.refl _).drewN _⟩;rw [unhide hv2];simp
 ·obtain ⟨q,hq⟩:∃ q,((t:Int)==b)=q:=⟨_,rfl⟩;rw [hq] at hv2;cases q
  ·go_enter Tryz.func268,Tryz.ntmps268;go_upto_region 2 with (go_at_call 121;refine (unhide hp _).mono ?_;rintro e w' ⟨rfl,rfl⟩);go_quiet ((go_at_call 148;exact Calls.quiet_of_same (unhide hm _ _)));go_wp2;go_ret;refine ⟨ret_bool ?_,(Gr.refl _).drewN _⟩;rw [unhide hv2];simp
  ·go_enter Tryz.func268,Tryz.ntmps268;go_upto_region 2 with (go_at_call 121;refine (unhide hp _).mono ?_;rintro e w' ⟨rfl,rfl⟩);go_quiet ((go_at_call 148;exact Calls.quiet_of_same (unhide hm _ _)));go_wp2;go_ret;refine ⟨ret_bool ?_,(Gr.refl _).drewN _⟩;rw [unhide hv2];simp
theorem manN_any {z:Nat->UInt8} {wh:Bool} {fc:Nat->Bool} {b:Int} {Bp:Nat} {w:World} (h:Ps z wh fc b Bp w) (B1 B2:Nat) (f t:Nat) (hf:f<64) (ht:t<64) (h1:w.cell? ⟨B1,0,none⟩=some (.pointer (some ⟨Bp,0,none⟩))) (h2:w.cell? ⟨B2,0,none⟩=some (.int .i64 (f:Int))) :
  Calls Tryz.prog 267 #[.int .i64 (t:Int),.pointer (some ⟨B1,0,none⟩),.pointer (some ⟨B2,0,none⟩)] w fun e w'=>e=.returned (.bool (mayB z wh b f t))/\Gr w w':=by
 have hm:=hide (mayGo_any h f t hf ht);clear h;go_enter Tryz.func267,Tryz.ntmps267;go_wp2_with (go_at_call 268;refine (unhide hm).mono ?_;rintro e w' ⟨rfl,hg⟩);go_ret;exact ⟨rfl,hg⟩
theorem attacks_mk {z:Nat->UInt8} {A x:Nat} (hx:x<64) (w:World) (hb:Bz z A w):Calls Tryz.prog 266 #[.pointer (some ⟨A,0,none⟩),.int .i64 (x:Int)] w fun e w'=>e=.returned (.func (.func 313) #[] #[.pointer (some ⟨w.heap.size+2,0,none⟩),.pointer (some ⟨w.heap.size,0,none⟩),.pointer (some ⟨w.heap.size+1,0,none⟩)])/\w'.heap[w.heap.size]?=some (.cells #[.pointer (some ⟨A,0,none⟩)] 224)/\w'.heap[w.heap.size+1]?=some (.cells #[.int .i64 (x:Int)] 3)/\w'.heap[w.heap.size+2]?=some (.cells #[.int .u8 ((z x).toNat:Int)] 5)/\Gr w w'/\w'.heap.size=w.heap.size+3:=by
 have hmf:∀ (fn:Fn) (first cap:Array Value) (w:World),(Instr.makeFunc fn first cap).run Tryz.prog w=.ok (.func fn first cap) w:=fun _ _ _ _=>rfl
 have hg0:Gr w ((w.alloc (.cells #[.pointer (some ⟨A,0,none⟩)] 224)).alloc (.cells #[.int .i64 (x:Int)] 3)):=((Gr.refl w).alloc _ _).alloc _ _;obtain ⟨h1,h2⟩:=heapTwo w (.cells #[.pointer (some ⟨A,0,none⟩)] 224) (.cells #[.int .i64 (x:Int)] 3);have c1:=(cell_of_box_l h1).1;have c2:=(cell_of_box_l h2).1;have cx:=(Below.cell hg0 (World.block_lt_of_cell? _ _ (hb x hx))).trans (hb x hx);have hx0:(0:Int)<=(x:Int):=by omega
 have hx1:(x:Int)<64:=by omega
 have hs0:((w.alloc (.cells #[.pointer (some ⟨A,0,none⟩)] 224)).alloc (.cells #[.int .i64 (x:Int)] 3)).heap.size=w.heap.size+2:=by simp
 go_enter Tryz.func266,Tryz.ntmps266;go_upto_region 1 with fail;generalize ((w.alloc (.cells #[.pointer (some ⟨A,0,none⟩)] 224)).alloc (.cells #[.int .i64 (x:Int)] 3))=w2 at hg0 h1 h2 c1 c2 cx hs0 ⊢;have hin:Hid (∀ w',Gr w2 w'->Gr w2 w'/\w'.cell? ⟨w.heap.size,0,none⟩=some (.pointer (some ⟨A,0,none⟩))/\w'.cell? ⟨w.heap.size+1,0,none⟩=some (.int .i64 (x:Int))/\w'.cell? ⟨A,x,none⟩=some (.int .u8 ((z x).toNat:Int))):=hide (fun w' g=>⟨g,(Below.cell g (World.block_lt_of_cell? _ _ c1)).trans c1,(Below.cell g (World.block_lt_of_cell? _ _ c2)).trans c2,(Below.cell g (World.block_lt_of_cell? _ _ cx)).trans cx⟩);go_region_held3 (fun w'=>Gr w2 w'/\w'.cell? ⟨w.heap.size,0,none⟩=some (.pointer (some ⟨A,0,none⟩))/\w'.cell? ⟨w.heap.size+1,0,none⟩=some (.int .i64 (x:Int))/\w'.cell? ⟨A,x,none⟩=some (.int .u8 ((z x).toNat:Int))) (first|exact unhide hin _ (Gr.refl _).drew|exact unhide hin _ ((Gr.refl _).alloc _ _).drew) (fail);have e0:=World.alloc_heap_new w2 (.cells #[.int .u8 ((z x).toNat:Int)] 5);have e1:=(Below.heap_alloc w2 (.cells #[.int .u8 ((z x).toNat:Int)] 5) w.heap.size (by omega)).trans h1;have e2:=(Below.heap_alloc w2 (.cells #[.int .u8 ((z x).toNat:Int)] 5) (w.heap.size+1) (by omega)).trans h2;rw [hs0] at e0;go_wp2;go_ret;exact ⟨rfl,e1,e2,e0,(hg0.alloc _ _).drew,by show (w2.alloc _).heap.size=_;rw [World.size_alloc,hs0]⟩
theorem onlyI_mk (g gf:Nat) (lb lf:Array Value) (w:World):Calls Tryz.prog 265 #[.func (.func g) #[] lb,.func (.func gf) #[] lf] w fun e w'=>e=.returned (.func (.func 312) #[] #[.pointer (some ⟨w.heap.size,0,none⟩),.pointer (some ⟨w.heap.size+1,0,none⟩)])/\w'.heap[w.heap.size]?=some (.cells #[.func (.func g) #[] lb] 207)/\w'.heap[w.heap.size+1]?=some (.cells #[.func (.func gf) #[] lf] 255)/\Gr w w':=by
 have hmf:∀ (fn:Fn) (first cap:Array Value) (w:World),(Instr.makeFunc fn first cap).run Tryz.prog w=.ok (.func fn first cap) w:=fun _ _ _ _=>rfl
 obtain ⟨h1,h2⟩:=heapTwo w (.cells #[.func (.func g) #[] lb] 207) (.cells #[.func (.func gf) #[] lf] 255);go_enter Tryz.func265,Tryz.ntmps265;go_wp2;go_ret;exact ⟨rfl,h1,h2,((Gr.refl w).alloc _ _).alloc _ _⟩
theorem chain_mk (v:Value) (w:World) (hv:v.oneCell'=true):Calls Tryz.prog 269 #[v] w fun e w'=>e=.returned (.func (.func 314) #[] #[.pointer (some ⟨w.heap.size,0,none⟩)])/\w'.heap[w.heap.size]?=some (.cells #[v] 358)/\Gr w w':=by
 have hmf:∀ (fn:Fn) (first cap:Array Value) (w:World),(Instr.makeFunc fn first cap).run Tryz.prog w=.ok (.func fn first cap) w:=fun _ _ _ _=>rfl
 go_enter Tryz.func269,Tryz.ntmps269;go_wp2;go_ret;exact ⟨rfl,World.alloc_heap_new w _,(Gr.refl w).alloc _ _⟩
end Go.Proofs.YtnfakamfmkhlbabGreatDoor.C
