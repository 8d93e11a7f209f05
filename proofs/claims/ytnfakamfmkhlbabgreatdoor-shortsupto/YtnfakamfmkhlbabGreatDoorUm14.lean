import Derived.Test.YtnfakamfmkhlbabGreatDoorUm13
import Derived.Test.YtnfakamfmkhlbabGreatDoorUm10
set_option maxRecDepth 100000
set_option maxHeartbeats 4000000
set_option linter.unusedSimpArgs false
namespace Go.Proofs.YtnfakamfmkhlbabGreatDoor.C
open Go.ChangeShapes Go.WideShapes Go.ChangeAt Go.RowKit Go.Shelf Go.Proofs.YtnfakamfmkhlbabGreatDoor.P
section
attribute [local go_sem] qd qe Oper.semAt_some
def yj(z:Nat->UInt8)(x k:Nat):List Nat:=if ki (z x) (jU k)then(if dx (z x)then kq z (jU k) x else(kq z (jU k) x).take 1)else[]
def zU(z:Nat->UInt8)(x k:Nat):List Nat:=(List.range k).flatMap (yj z x)
theorem gn(z:Nat->UInt8)(x k:Nat):zU z x (k+1)=zU z x k++yj z x k:=by
 unfold zU;rw[List.range_succ,List.flatMap_append];simp
theorem wI(z:Nat->UInt8)(x:Nat){k:Nat}(hk:k<16):zU z x k++yj z x k <+: zU z x 16:=by
 rw[<-gn];unfold zU;refine aI _ ?_;refine⟨(List.range 16).drop (k+1),?_⟩;have:k=0\/k=1\/k=2\/k=3\/k=4\/k=5\/k=6\/k=7\/k=8\/k=9\/k=10\/k=11\/k=12\/k=13\/k=14\/k=15:=by omega
 rcases this with rfl|rfl|rfl|rfl|rfl|rfl|rfl|rfl|rfl|rfl|rfl|rfl|rfl|rfl|rfl|rfl<;>decide
def z6(T:Obj->Prop):Prop:=∀o,T o->∃c fr,o=.cells c 87 fr
theorem z6.cells{T:Obj->Prop}(h:z6 T):∀o,T o->o.isCells=true:=fun o ho=>by obtain⟨c,fr,rfl⟩:=h o ho;rfl
theorem z6.no{T:Obj->Prop}(h:z6 T){c:Array Value}{ty:TypeId}{fr:Nat × Nat}(hne:ty≠87):¬ T (.cells c ty fr):=fun q=>by
 obtain⟨c',fr',e⟩:=h _ q;cases e;exact hne rfl
def y9(B k:Nat)(V:World):Prop:=B<=k/\∃c ty fr,ty≠87/\V.heap[k]?=some (.cells c ty fr)
theorem eR{B b:Nat}{T:Obj->Prop}{C C':Nat->Prop}{V W:World}(f:Fr (jM B T C) V W)(hT:z6 T)(hb:B<=b)(h:∀k,C' k->C k\/y9 B k V):Fr (jM b T C') V W :=
 f.mono fun k o e q=>by
  rcases q with q|q
  ·rcases h k q with h|⟨h1,c,ty,fr,h2,h3⟩
   ·exact .inl h
   ·rw[h3]at e;cases e;exact .inr ⟨h1,hT.no h2⟩
  ·exact .inr ⟨by omega,q.2⟩
theorem qu{B k:Nat}{V:World}{c:Array Value}{ty:TypeId}(hb:B<=k)(ht:ty≠87)(h:V.heap[k]?=some (.cells c ty)):y9 B k V:=⟨hb,c,ty,_,ht,h⟩
theorem y9.keep{B k:Nat}{T:Obj->Prop}{C:Nat->Prop}{V W:World}{o:Obj}(h:y9 B k V)(hT:z6 T)(f:Fr (jM B T C) V W)(e:V.heap[k]?=some o):W.heap[k]?=some o:=by
 obtain⟨h1,c,ty,fr,h2,h3⟩:=h;refine f.same k o e (.inr ⟨h1,?_⟩);rw[h3]at e;cases e;exact hT.no h2
structure Ak(z:Nat->UInt8)(x l B Wb Bl Bq Bf A:Nat)(Ds:List Nat)(W:World):Prop where
 yb:W.heap[Wb]?=some (.cells #[.func (.yield l) #[] #[]] 255)
 cl:W.cell? ⟨Bl,0,none⟩=some (.int .u8 ((z x).toNat:Int))
 cq:W.cell? ⟨Bq,0,none⟩=some (.pointer (some ⟨A,0,none⟩))
 cf:W.cell? ⟨Bf,0,none⟩=some (.int .i64 (x:Int))
 bd:Bz z A W
 st:vT W
 ms:zY B Ds W
theorem Ak.fr{z:Nat->UInt8}{x l B Wb Bl Bq Bf A:Nat}{Ds:List Nat}{W W':World}{Q:Nat->Obj->Prop}(h:Ak z x l B Wb Bl Bq Bf A Ds W)(f:Fr Q W W')(hq:∀k o,(k=Wb\/k=Bl\/k=Bq\/k=Bf\/k=A\/k=0\/k∈Ds)->W.heap[k]?=some o->Q k o):Ak z x l B Wb Bl Bq Bf A Ds W' :=
  ⟨f.same _ _ h.yb (hq _ _ (by simp) h.yb),f.cell h.cl (fun o e=>hq _ o (by simp) e),f.cell h.cq (fun o e=>hq _ o (by simp) e),f.cell h.cf (fun o e=>hq _ o (by simp) e),
   fun i hi=>f.cell (h.bd i hi) (fun o e=>hq _ o (by simp) e),⟨fun j v hv=>f.cell (h.st.1 j v hv) (fun o e=>hq _ o (by simp) e),qN h.st.2 f.size⟩,h.ms.fr f (fun k o _ _ e hk=>hq k o (by simp[hk]) e)⟩
theorem Ak.gr{z:Nat->UInt8}{x l B Wb Bl Bq Bf A:Nat}{Ds:List Nat}{W W':World}(h:Ak z x l B Wb Bl Bq Bf A Ds W)(g:Gr W W'):Ak z x l B Wb Bl Bq Bf A Ds W':=h.fr (Q:=fun _ _=>True) (Fr.of_gr g) (fun _ _ _ _=>trivial)
theorem Ak.below{z:Nat->UInt8}{x l B Wb Bl Bq Bf A:Nat}{Ds:List Nat}{W W' W0:World}{T:Obj->Prop}{n:Nat}(h0:Ak z x l B Wb Bl Bq Bf A Ds W0)(hn:W0.heap.size<=n)(h:Ak z x l B Wb Bl Bq Bf A Ds W)(f:Fr (yv n T) W W'):Ak z x l B Wb Bl Bq Bf A Ds W':=h.fr f (fun k o hk _=>by
 refine .inl ?_;have lc:∀{p:Addr}{v:Value},W0.cell? p=some v->p.block<n:=fun hp=>qN (World.block_lt_of_cell? _ _ hp) hn
 rcases hk with rfl|rfl|rfl|rfl|rfl|rfl|hk
 ·exact qN (qB.1 h0.yb).1 hn
 ·exact lc h0.cl
 ·exact lc h0.cq
 ·exact lc h0.cf
 ·exact lc (h0.bd 0 (by omega))
 ·exact qN h0.st.2 hn
 ·exact qN (qB.1 (h0.ms.2 k hk).2).1 hn)
theorem Ak.rnd{z:Nat->UInt8}{x l B Wb Bl Bq Bf A:Nat}{Ds:List Nat}{W W':World}{T:Obj->Prop}{C:Nat->Prop}(h:Ak z x l B Wb Bl Bq Bf A Ds W)(hT:z6 T)(hB:B<=Wb)(hC:∀k,(k=Bl\/k=Bq\/k=Bf\/k=A\/k=0)->C k)(f:Fr (jM B T C) W W'):Ak z x l B Wb Bl Bq Bf A Ds W':=h.fr f (fun k o hk e=>by
 rcases hk with rfl|hk|hk|hk|hk|hk|hk
 ·rw[h.yb]at e;cases e;exact .inr ⟨hB,hT.no (by decide)⟩
 ·exact .inl (hC _ (by simp[hk]))
 ·exact .inl (hC _ (by simp[hk]))
 ·exact .inl (hC _ (by simp[hk]))
 ·exact .inl (hC _ (by simp[hk]))
 ·exact .inl (hC _ (by simp[hk]))
 ·rw[(h.ms.2 k hk).2]at e;cases e;exact .inr ⟨(h.ms.2 k hk).1,fun q=>by have:=hT.cells _ q;cases this⟩)
theorem jx{B D:Nat}{Ds:List Nat}{V:World}(h:zY B Ds V)(hD:B<=D)(hn:D∉Ds)(hK:V.heap[D]?=some (.deferred (some []))):zY B (D :: Ds) V :=
 ⟨List.nodup_cons.2 ⟨hn,h.1⟩,fun D' hD'=>by
  rcases List.mem_cons.1 hD' with rfl|hD'
  ·exact⟨hD,hK⟩
  ·exact h.2 D' hD'⟩
theorem Ak.cons{z:Nat->UInt8}{x l B Wb Bl Bq Bf A D:Nat}{Ds:List Nat}{W:World}(h:Ak z x l B Wb Bl Bq Bf A Ds W)(hD:B<=D)(hn:D∉Ds)(hK:W.heap[D]?=some (.deferred (some []))):Ak z x l B Wb Bl Bq Bf A (D :: Ds) W :=
 ⟨h.yb,h.cl,h.cq,h.cf,h.bd,h.st,jx h.ms hD hn hK⟩
def AkN(z:Nat->UInt8)(x k:Nat)(fa:Bool)(J:List Nat->World->Prop)(pre:List Nat)(V:World):Prop:=(fa=true\/pre=[])/\J (zU z x k++pre) V
def AkX(z:Nat->UInt8)(x l B Wb Bl Bq Bf A:Nat)(Ds:List Nat)(k:Nat)(fa:Bool)(J Jx:List Nat->World->Prop)(c:Code)(pre:List Nat)(V:World):Prop:=(c=.ret/\∃q,q <+: zU z x 16/\Jx q V)\/(c=.exit 2/\Ak z x l B Wb Bl Bq Bf A Ds V/\fa=false/\∃y,pre=[y]/\J (zU z x k++[y]) V)
def AkI(z:Nat->UInt8)(x l B Wb Bl Bq Bf A:Nat)(J:List Nat->World->Prop)(gk:Nat)(a:Act)(wr:World):Prop :=
 ∃(k:Nat)(Ds:List Nat)(u5 u6 u7 u10 u11 u12 u13 u14 u15 u16 u17 u18 u19 u20 u21 u22 u23 u24 u25 u26 u27 u28:Value),k+gk=16/\a={ tmps:=#[.func (.yield l) #[] #[],.pointer (some ⟨Bl,0,none⟩),.pointer (some ⟨Bq,0,none⟩),.pointer (some ⟨Bf,0,none⟩),.pointer (some ⟨Wb,0,none⟩),u5,u6,u7,.agg jO.toArray,.int .i64 (k:Int),u10,u11,u12,u13,u14,u15,u16,u17,u18,u19,u20,u21,u22,u23,u24,u25,u26,u27,u28],defers:=Ds.map uK }/\Ak z x l B Wb Bl Bq Bf A Ds wr/\J (zU z x k) wr
theorem iC(z:Nat->UInt8)(x:Nat)(hx:x<64)(Bl Bq Bf A:Nat)(T:Obj->Prop)(hTm:z6 T)(w:World)(hl:w.cell? ⟨Bl,0,none⟩=some (.int .u8 ((z x).toNat:Int)))(hq:w.cell? ⟨Bq,0,none⟩=some (.pointer (some ⟨A,0,none⟩)))(hf:w.cell? ⟨Bf,0,none⟩=some (.int .i64 (x:Int)))(hb:Bz z A w)(hs:vT w) :
  It Tryz.prog 313 #[.pointer (some ⟨Bl,0,none⟩),.pointer (some ⟨Bq,0,none⟩),.pointer (some ⟨Bf,0,none⟩)] yh T (fun k=>k=Bl\/k=Bq\/k=Bf\/k=A\/k=0) (zU z x 16) w:=by
 intro l B J Jx W f0 hB hJ hJx hY h0
 have hA0:Ak z x l B W.heap.size Bl Bq Bf A [] (W.alloc (.cells #[.func (.yield l) #[] #[]] 255)):=by
  have f1:=f0.trans ((Fr.refl (fun k _=>k=Bl\/k=Bq\/k=Bf\/k=A\/k=0) W).alloc (.cells #[.func (.yield l) #[] #[]] 255));exact⟨World.alloc_heap_new W _,f1.cell hl (fun _ _=>by simp),f1.cell hq (fun _ _=>by simp),f1.cell hf (fun _ _=>by simp),hb.fr f1 (fun _=>by simp),hs.fr f1 (fun _=>by simp),⟨List.nodup_nil,fun D hD=>absurd hD List.not_mem_nil⟩⟩
 have hJ0:=hJ _ _ _ h0 ((Fr.refl _ W).alloc (.cells #[.func (.yield l) #[] #[]] 255));refine(callsIn_wide (n:=9)).1 ?_;refine callsIn_of_wp_marks Tryz.func313 rfl trivial ?_ rfl;simp only[Tryz.ntmps313,List.size_toArray,List.length_cons,List.length_nil,Nat.reduceAdd,Nat.reduceSub,Array.replicate_succ,Array.replicate_zero,List.push_toArray,List.append_toArray,List.nil_append,List.cons_append];refine wpIn_wide.2 ?_;clear h0 f0 hl hq hf hb hs;go_wp2_with(refine wpList_load_mid rfl 222 _ rfl 0 0 rfl jO _ hA0.st.1 Tryz.underlying222 rfl lJ ?_);generalize W.alloc (.cells #[.func (.yield l) #[] #[]] 255)=w1 at hA0 hJ0 ⊢;generalize W.heap.size=Wb at hA0 hB ⊢;refine wpIn_wide.1 (wpIn_loop_ghost (rm:=9) (AkI z x l B Wb Bl Bq Bf A J) 16 ?start ?round)
 case start=>exact⟨0,[],undef,undef,undef,undef,undef,undef,undef,undef,undef,undef,undef,undef,undef,undef,undef,undef,undef,undef,undef,undef,undef,undef,rfl,rfl,hA0,hJ0⟩
 case round =>
  clear hA0 hJ0;rintro gk a wr ⟨k,Ds,u5,u6,u7,u10,u11,u12,u13,u14,u15,u16,u17,u18,u19,u20,u21,u22,u23,u24,u25,u26,u27,u28,hk,rfl,hM,hJk⟩;have hM':=qC hM;have hJk':=qC hJk;clear hJk;have hBl:=hM.cl;have hBq:=hM.cq;have hBf:=hM.cf;clear hM;by_cases hlt:k<16
  ·have hix:=Gg k hlt;obtain⟨hsm,hnz⟩:=pk k;have hsc:Hid (zU z x (k+1)=zU z x k++yj z x k):=qC (gn z x k);have hpr:Hid (zU z x k++yj z x k <+: zU z x 16):=qC (wI z x hlt);have hsS:Hid (yj z x k=if ki (z x) (jU k)then(if dx (z x)then kq z (jU k) x else(kq z (jU k) x).take 1)else[]):=qC rfl;generalize yj z x k=aS at hsc hpr hsS;generalize jU k=st at hix hsm hnz hsS;obtain⟨a,b⟩:=st;simp only at hix hnz;have hk0:(0:Int)<=(k:Int):=by omega
   have hk16:(k:Int)<16:=by omega
   have hmk:=qC (fun W=>dB A x a b W);have hgo:=qC (fun W=>aG (z x) a b hsm W);have hgA:Gr wr (wr.alloc (.cells #[.int .i64 a,.int .i64 b] 221)):=(Gr.refl wr).alloc _ _;obtain⟨y1a,y1b⟩:=xg (World.alloc_heap_new wr (.cells #[.int .i64 a,.int .i64 b] 221));have hM1:=(qa hM').gr hgA;have c1:=hM1.cl;have hltA:wr.heap.size<(wr.alloc (.cells #[.int .i64 a,.int .i64 b] 221)).heap.size:=by simp
   obtain⟨g1,hg1⟩:∃g,ki (z x) (a,b)=g:=⟨_,rfl⟩;rw[hg1]at hgo hsS;refine wpIn_wide.2 ?_;cases g1
   ·go_wp2_with(go_at_call 149;refine(qa hgo _).mono ?_;rintro e wg ⟨rfl,hgg⟩);have hgw:=Gr.trans hgA hgg;exact⟨gk-1,by omega,k+1,Ds,_,_,_,_,_,_,_,_,_,_,_,_,_,_,_,_,_,_,_,_,_,_,by omega,rfl,(qa hM').gr hgw,by rw[qa hsc,qa hsS];simpa using hJ _ _ _ (qa hJk') (Fr.of_gr hgw)⟩
   ·have key:Hid (∀wg,Gr (wr.alloc (.cells #[.int .i64 a,.int .i64 b] 221)) wg->wg.cell? ⟨Bq,0,none⟩=some (.pointer (some ⟨A,0,none⟩))/\wg.cell? ⟨Bf,0,none⟩=some (.int .i64 (x:Int))/\wg.cell? ⟨wr.heap.size,0,none⟩=some (.int .i64 a)/\wg.cell? ⟨wr.heap.size,1,none⟩=some (.int .i64 b)):=qC (fun wg hgg=>⟨(hM1.gr hgg).cq,(hM1.gr hgg).cf,(Below.cell hgg (p:=⟨wr.heap.size,0,none⟩) hltA).trans y1a,(Below.cell hgg (p:=⟨wr.heap.size,1,none⟩) hltA).trans y1b⟩)
    go_wp2_with(first
     | (go_at_call 149;refine(qa hgo _).mono ?_;rintro e wg ⟨rfl,hgg⟩;obtain⟨q1,q2,q3,q4⟩:=qa key _ hgg)
     | (go_at_call 147;refine(qa hmk _).mono ?_;rintro e w6 ⟨rfl,hwk,hg6,hs6⟩))
    have hM6:Ak z x l B Wb Bl Bq Bf A Ds w6:=(qa hM').gr (Gr.trans hgA (Gr.trans hgg hg6));have hJ6:=hJ _ _ _ (qa hJk') (Fr.of_gr (Gr.trans hgA (Gr.trans hgg hg6)));have hDs:∀D∈Ds,D<w6.heap.size:=fun D hD=>(qB.1 (hM6.ms.2 D hD).2).1
    have hWb6:Wb<w6.heap.size:=(qB.1 hM6.yb).1;have hWr:Wb<wr.heap.size:=(qB.1 (qa hM').yb).1;have hBg:wr.heap.size<wg.heap.size:=by have:=Below.size hgg;omega
    have hA6:A<w6.heap.size:=World.block_lt_of_cell? _ _ (hM6.bd 0 (by omega));clear hgA y1a y1b hg6 hix hmk hgg hgo key q1 q2 q3 q4 c1 hM1 hltA hBl hBq hBf;generalize wg.heap.size=Bw at hBg hwk hs6 ⊢;generalize wr.heap.size=Bs at hBg hWr ⊢;have hwk6:=hwk.wk hM6.bd;obtain⟨fa,hfa⟩:∃f,dx (z x)=f:=⟨_,rfl⟩;rw[hfa]at hsS;have hgf:=qC (fun W=>qzt (z x) W);rw[hfa]at hgf;have hB6:B<=w6.heap.size:=by omega
    have hs7:Bw+3<=w6.heap.size:=by omega
    clear hs6
    refine wpIn_wide.1 (xj (n:=9) (gf:=220) (lb:=wkA Bw) rfl (enters_of Tryz.func220 (by kernel_rfl) rfl)
     (dC z x hx a b hsm hnz (Bw+1) (Bw+2) Bw A T w6 hwk6) hTm.cells (by rintro j (rfl|rfl|rfl|rfl);exact(by omega);exact(by omega);exact(by omega);exact hA6) (Fr.refl _ _) (fun _=>rfl)
     (fun pre V=>Ak z x l B Wb Bl Bq Bf A Ds V/\ap A x a b Bw V/\AkN z x k fa J pre V)
     (fun c pre V=>zY B Ds V/\AkX z x l B Wb Bl Bq Bf A Ds k fa J Jx c pre V)
     ?sI ?sX ⟨hM6,hwk,.inr rfl,by simpa using hJ6⟩ ?rnd ?done ?stop)
    case sI=>exact fun s V V' h f=>⟨hM6.below (qL _) h.1 f,⟨f.same _ _ h.2.1.b0 (.inl (by omega)),f.same _ _ h.2.1.b1 (.inl (by omega)),f.same _ _ h.2.1.b2 (.inl (by omega))⟩,⟨h.2.2.1,qo hJ hB6 _ _ _ h.2.2.2 f⟩⟩
    case sX=>exact fun c s V V' h f=>⟨h.1.fr f (fun j o _ _ _ hj=>.inl (hDs _ hj)),h.2.imp (fun h=>⟨h.1,h.2.elim fun q hq=>⟨q,hq.1,qo hJx hB6 _ _ _ hq.2 f⟩⟩) (fun h=>⟨h.1,hM6.below (qL _) h.2.1 f,h.2.2.1,h.2.2.2.elim fun y hy=>⟨y,hy.1,qo hJ hB6 _ _ _ hy.2 f⟩⟩)⟩
    case done =>
     rintro D V hD ⟨hMV,_,hfe,hJV⟩ hK
     have hne:zU z x (k+1)=zU z x k++kq z (a,b) x:=by
      rw[qa hsc,qa hsS];rcases hfe with rfl|hfe
      ·rfl
      ·rw[hfe];cases fa<;>rfl
     have hne':=qC hne;clear hne;go_wp2_with fail;exact⟨gk-1,by omega,k+1,D :: Ds,_,_,_,_,_,_,_,_,_,_,_,_,_,_,_,_,_,_,_,_,_,_,by omega,rfl,hMV.cons (by omega) (fun h=>by have:=hDs D h;omega) hK,by rw[qa hne'];exact hJV⟩
    case stop =>
     rintro D c pre V hD hpre ⟨hms,⟨rfl,q,hq1,hq2⟩|⟨rfl,hMV,hfa0,y,rfl,hJy⟩⟩ hK
     ·refine wpIn_wide.2 ?_;go_wp2_with fail;exact xc (T:=T) Tryz.results313 hTm.cells (D :: Ds) V (jx hms (by omega) (fun h=>by have:=hDs D h;omega) hK) (fun v w' f=>⟨⟨v,rfl⟩,.inr ⟨q,hq1,hJx _ _ _ hq2 f⟩⟩)
     ·have hne:Hid (zU z x (k+1)=zU z x k++[y]):=qC (by
       rw[qa hsc,qa hsS,hfa0];obtain⟨r,hr⟩:=hpre;rw[<-hr];rfl)
      refine wpIn_wide.2 ?_;go_wp2_with fail;exact⟨gk-1,by omega,k+1,D :: Ds,_,_,_,_,_,_,_,_,_,_,_,_,_,_,_,_,_,_,_,_,_,_,by omega,rfl,hMV.cons (by omega) (fun h=>by have:=hDs D h;omega) hK,by rw[qa hne];exact hJy⟩
    case rnd =>
     intro l1 pre y V hbl hxy hI hl;simp only[yh];gi_wp2;refine⟨Fr.refl _ _,?_⟩;intro V2 f2 hI2 hl2;obtain⟨hM2,hwk2,hfe,hJ2⟩:=hI2;have cy:=(qi hM2.yb).1;have cl:=hM2.cl
     have hpy:zU z x k++pre++[y] <+: zU z x 16:=by
      refine List.IsPrefix.trans ?_ (qa hpr);rw[qS,qa hsS];refine(List.prefix_append_right_inj _).2 ?_;rcases hfe with hfe|hfe
      ·rw[hfe];exact hxy
      ·rw[hfe]at hxy ⊢;obtain⟨r,hr⟩:=hxy;cases fa
       ·rw[<-hr];exact⟨[],rfl⟩
       ·exact⟨r,hr⟩
     obtain⟨fn,tmps,assign,body,hyy,hR⟩:=jb (m':=8) (hY (zU z x k++pre) y V2 hpy hJ2);have hy':(Instr.yield l #[.int .i64 (y:Int)]).run Tryz.prog V2=.ok (.round l fn tmps assign body) V2:=hyy;clear hyy;have hM2':=qC hM2;have hwk2':=qC hwk2;clear hM2 hwk2 hI hl f2;gi_wp2;have hR':RoundIn (Fence.wide.inRound l1) 8 Tryz.prog l fn tmps assign body V2 (fun e W'=>Fr (jM B T (fun k=>k=Bl\/k=Bq\/k=Bf\/k=A\/k=0)) V2 W'/\((e=.returned (.bool true)/\J (zU z x k++pre++[y]) W')\/(e=.returned (.bool false)/\Jx (zU z x k++pre++[y]) W'))):=hR;clear hR;refine hR'.mono ?_;clear hR' hy';intro e V4 h4;obtain⟨f4,h4⟩:=h4
     have fc1:Fr (jM w6.heap.size T (fun j=>j=Bw+1\/j=Bw+2\/j=Bw\/j=A)) V2 V4:=eR f4 hTm hB6 (by
      rintro j (rfl|rfl|rfl|rfl)
      ·exact .inr (qu (by omega) (by decide) (qa hwk2').b1)
      ·exact .inr (qu (by omega) (by decide) (qa hwk2').b2)
      ·exact .inr (qu (by omega) (by decide) (qa hwk2').b0)
      ·exact .inl (by simp))
     have hM4:Ak z x l B Wb Bl Bq Bf A Ds V4:=(qa hM2').rnd hTm hB (fun j hj=>hj) f4;have cl4:=hM4.cl;have hM4':=qC hM4;have fc1':=qC fc1;clear hM4 fc1;rcases h4 with⟨rfl,hJ4⟩|⟨rfl,hx4⟩
     ·have hwk4:Hid (ap A x a b Bw V4):=qC ⟨(qu (by omega) (by decide) (qa hwk2').b0).keep hTm f4 (qa hwk2').b0,(qu (by omega) (by decide) (qa hwk2').b1).keep hTm f4 (qa hwk2').b1,(qu (by omega) (by decide) (qa hwk2').b2).keep hTm f4 (qa hwk2').b2⟩;cases fa
      ·obtain rfl:pre=[]:=by
        rcases hfe with h|h
        ·cases h
        ·exact h
       gi_wp2_with (refine⟨trivial,?_⟩;gi_at_call 151;refine((callsIn_wide.2 (qa hgf _)).inRound l1).mono ?_;rintro e wf ⟨rfl,rfl⟩);exact⟨qa fc1',(qa hM4').ms,.inr ⟨rfl,qa hM4',rfl,y,rfl,by simpa using hJ4⟩⟩
      ·gi_wp2_with (refine⟨trivial,?_⟩;gi_at_call 151;refine((callsIn_wide.2 (qa hgf _)).inRound l1).mono ?_;rintro e wf ⟨rfl,rfl⟩);exact⟨qa fc1',qa hM4',qa hwk4,.inl rfl,by rw[<-qS];exact hJ4⟩
     ·gi_wp2;exact⟨qa fc1',(qa hM4').ms,.inl ⟨rfl,_,hpy,hx4⟩⟩
  ·have hk16:k=16:=by omega
   subst hk16;refine wpIn_wide.2 ?_;go_wp2_with fail;exact xc (T:=T) Tryz.results313 hTm.cells Ds wr (qa hM').ms (fun v w' f=>⟨⟨v,rfl⟩,.inl (hJ _ _ _ (qa hJk') f)⟩)
theorem sD{g gf:Nat}{lb lf:Array Value}{T:Obj->Prop}{C:Nat->Prop}{xs:List Nat}{w:World}(hit:It Tryz.prog g lb yh T C xs w)(heg:∀args w,(callFunc g args).run Tryz.prog w=.ok (.enter g args) w)(hef:∀args w,(callFunc gf args).run Tryz.prog w=.ok (.enter gf args) w)
  (hTm:z6 T) (hCb:∀k,C k->k<w.heap.size) (Bt Bf:Nat) (p:Nat->Bool) (hth:w.heap[Bt]?=some (.cells #[.func (.func g) #[] lb] 207)) (hfi:w.heap[Bf]?=some (.cells #[.func (.func gf) #[] lf] 255))
  (hfit:∀x∈xs,∀W,Fr (fun k _=>C k) w W->Calls Tryz.prog gf (#[.int .i64 (x:Int)]++lf) W fun e W'=>e=.returned (.bool (p x))/\Gr W W') :
  It Tryz.prog 312 #[.pointer (some ⟨Bt,0,none⟩),.pointer (some ⟨Bf,0,none⟩)] yh T (fun k=>C k\/k=Bt\/k=Bf) (xs.filter p) w:=by
 intro l B J Jx W f0 hB hJ hJx hY h0;have hTc:=hTm.cells;have hth':=f0.same _ _ hth (.inr (.inl rfl));have hfi':=f0.same _ _ hfi (.inr (.inr rfl));have hbt:=(qB.1 hth).1;have hbf:=(qB.1 hfi).1;refine(callsIn_wide (n:=9)).1 ?_;refine callsIn_of_wp_marks Tryz.func312 rfl trivial ?_ rfl;simp only[Tryz.ntmps312,List.size_toArray,List.length_cons,List.length_nil,Nat.reduceAdd,Nat.reduceSub,Array.replicate_succ,Array.replicate_zero,List.push_toArray,List.append_toArray,List.nil_append,List.cons_append];have cth:(W.alloc (.cells #[.func (.yield l) #[] #[]] 255)).cell? ⟨Bt,0,none⟩=some (.func (.func g) #[] lb):=(qi ((Below.heap_alloc W _ _ (qB.1 hth').1).trans hth')).1;gi_wp2;have hyb:=World.alloc_heap_new W (.cells #[.func (.yield l) #[] #[]] 255);have f1:∀Q:Nat->Obj->Prop,Fr Q W (W.alloc (.cells #[.func (.yield l) #[] #[]] 255)):=fun Q=>(Fr.refl _ _).alloc _
 have hs1:(W.alloc (.cells #[.func (.yield l) #[] #[]] 255)).heap.size=W.heap.size+1:=World.size_alloc _ _;generalize (W.alloc (.cells #[.func (.yield l) #[] #[]] 255))=w1 at cth hyb f1 hs1 ⊢;have hJ1:=hJ _ _ _ h0 (f1 _);have f01:=f0.trans (f1 _);have hww:=f0.size;clear cth hth' hfi' f1
 refine xj (n:=9) (gf:=g) (lb:=lb) rfl heg (hit.mono (C':=fun k=>C k\/k=Bt\/k=Bf) (fun k h=>.inl h)) hTc (by rintro k (hk|rfl|rfl);exact(by have:=hCb k hk;omega);exact(by omega);exact(by omega)) f01 (fun _=>rfl)
  (fun pre V=>V.heap[W.heap.size]?=some (.cells #[.func (.yield l) #[] #[]] 255)/\J (pre.filter p) V/\Fr (fun k _=>C k\/k=Bt\/k=Bf) w V)
  (fun c _ V=>c=.ret/\∃q,q <+: xs.filter p/\Jx q V)
  ?sI ?sX ⟨hyb,hJ1,f01⟩ ?rnd ?done ?stop
 case sI=>exact fun s A A' h f=>⟨f.same _ _ h.1 (.inl (by omega)),qo hJ (by omega) _ _ _ h.2.1 f,h.2.2.ext f (fun k o e _=>.inl (by have:=(qB.1 e).1;omega))⟩
 case sX=>exact fun c s A A' h f=>⟨h.1,h.2.elim fun q hq=>⟨q,hq.1,qo hJx (by omega) _ _ _ hq.2 f⟩⟩
 case done =>
  rintro D V hD ⟨_,hj,_⟩ hK;gi_wp2;exact xc (T:=T) Tryz.results312 hTc [D] V ⟨by simp,fun D' hD'=>by rw[qT]at hD';subst hD';exact⟨by omega,hK⟩⟩ (fun v w' f=>⟨⟨v,rfl⟩,.inl (hJ _ _ _ hj f)⟩)
 case stop =>
  rintro D c pre V hD _ ⟨rfl,q,hq1,hq2⟩ hK;gi_wp2;exact xc (T:=T) Tryz.results312 hTc [D] V ⟨by simp,fun D' hD'=>by rw[qT]at hD';subst hD';exact⟨by omega,hK⟩⟩ (fun v w' f=>⟨⟨v,rfl⟩,.inr ⟨q,hq1,hJx _ _ _ hq2 f⟩⟩)
 case rnd =>
  rintro l1 pre y V hbl hx ⟨hy,hj,hfw⟩ hl;simp only[yh];gi_wp2;refine⟨Fr.refl _ _,?_⟩;intro V2 f2 hI2 hl2;obtain⟨hy2,hj2,hfw2⟩:=hI2;have kfi:=hfw2.same _ _ hfi (.inr (.inr rfl));have cfi:=(qi kfi).1;have hc:=qC (hfit y (C9 hx) V2 (hfw2.mono fun k _ _ q=>.inl q));have keep:∀V3,Gr V2 V3->V3.heap[W.heap.size]?=some (.cells #[.func (.yield l) #[] #[]] 255)/\J (pre.filter p) V3/\Fr (fun k _=>C k\/k=Bt\/k=Bf) w V3:=fun V3 hg=>⟨(Below.block hg _ (qB.1 hy2).1).trans hy2,hJ _ _ _ hj2 (Fr.of_gr hg),hfw2.ext (Fr.of_gr (Q:=fun _ _=>True) hg) (fun _ _ _ _=>trivial)⟩
  cases hp:p y
  ·rw[hp]at hc;gi_wp2;refine⟨trivial,CallsIn.inRound l1 (callsIn_wide.2 ((qa hc).mono ?_))⟩;rintro e V3 ⟨rfl,hg⟩;gi_wp2;refine⟨fun _ h=>(by cases h),?_⟩;gi_wp2;obtain⟨z1,z2,z3⟩:=keep V3 hg;refine⟨Fr.of_gr hg,z1,?_,z3⟩;rw[List.filter_append];simpa[hp]using z2
  ·rw[hp]at hc;gi_wp2;refine⟨trivial,CallsIn.inRound l1 (callsIn_wide.2 ((qa hc).mono ?_))⟩;rintro e V3 ⟨rfl,hg⟩;obtain⟨z1,z2,z3⟩:=keep V3 hg;have c3:=(qi z1).1;obtain⟨fn,tmps,assign,body,hyy,hR⟩:=jb (m':=8) (hY (pre.filter p) y V3 (qx1 p hx hp) z2);have hy':(Instr.yield l #[.int .i64 (y:Int)]).run Tryz.prog V3=.ok (.round l fn tmps assign body) V3:=hyy;clear hyy;gi_wp2;have hR':RoundIn (Fence.wide.inRound l1) 8 Tryz.prog l fn tmps assign body V3 (fun e W'=>Fr (jM B T (fun k=>C k\/k=Bt\/k=Bf)) V3 W'/\((e=.returned (.bool true)/\J (pre.filter p++[y]) W')\/(e=.returned (.bool false)/\Jx (pre.filter p++[y]) W'))):=hR;clear hR;refine hR'.mono ?_;intro e V4 h4;obtain⟨f4,h4⟩:=h4;have fc1:Fr (jM w1.heap.size T (fun k=>C k\/k=Bt\/k=Bf)) V2 V4:=(Fr.of_gr hg:Fr _ V2 V3).trans (f4.mono fun k o _ q=>q.elim .inl fun q=>.inr ⟨by omega,q.2⟩);rcases h4 with⟨rfl,hJ4⟩|⟨rfl,hx4⟩
   ·gi_wp2;refine⟨fc1,f4.same _ _ z1 (.inr ⟨hB,hTm.no (by decide)⟩),?_,z3.ext f4 (fun k o _ q=>.inl q)⟩;rw[List.filter_append];simpa[hp]using hJ4
   ·gi_wp2;exact⟨fc1,rfl,_,qx1 p hx hp,hx4⟩
structure Ch(gN:Nat->Nat)(lbN:Nat->Array Value)(l B Wb Bp Bg:Nat)(C:Nat->Prop)(w:World)(Ds:List Nat)(W:World):Prop where
 yb:W.heap[Wb]?=some (.cells #[.func (.yield l) #[] #[]] 255)
 cp:W.cell? ⟨Bp,0,none⟩=some (.slice (some ⟨Bg,0,none⟩) 2 2)
 cg:∀k,k<2->W.cell? ⟨Bg,k,none⟩=some (.func (.func (gN k)) #[] (lbN k))
 fw:Fr (fun k _=>C k) w W
 ms:zY B Ds W
theorem Ch.fr{gN:Nat->Nat}{lbN:Nat->Array Value}{l B Wb Bp Bg:Nat}{C:Nat->Prop}{w:World}{Ds:List Nat}{W W':World}{Q:Nat->Obj->Prop}(h:Ch gN lbN l B Wb Bp Bg C w Ds W)(f:Fr Q W W')(hq:∀k o,(k=Wb\/k=Bp\/k=Bg\/(C k/\k<w.heap.size)\/k∈Ds)->W.heap[k]?=some o->Q k o):Ch gN lbN l B Wb Bp Bg C w Ds W' :=
  ⟨f.same _ _ h.yb (hq _ _ (by simp) h.yb),f.cell h.cp (fun o e=>hq _ o (by simp) e),fun k hk=>f.cell (h.cg k hk) (fun o e=>hq _ o (by simp) e),
   h.fw.ext f (fun k o e q=>hq k o (.inr (.inr (.inr (.inl ⟨q,(qB.1 e).1⟩)))) (h.fw.same k o e q)),h.ms.fr f (fun k o _ _ e hk=>hq k o (by simp[hk]) e)⟩
theorem Ch.below{gN:Nat->Nat}{lbN:Nat->Array Value}{l B Wb Bp Bg:Nat}{C:Nat->Prop}{w:World}{Ds:List Nat}{W W' W0:World}{T:Obj->Prop}{n:Nat}(h0:Ch gN lbN l B Wb Bp Bg C w Ds W0)(hn:W0.heap.size<=n)(h:Ch gN lbN l B Wb Bp Bg C w Ds W)(f:Fr (yv n T) W W'):Ch gN lbN l B Wb Bp Bg C w Ds W':=h.fr f (fun k o hk _=>by
 refine .inl ?_;have lc:∀{p:Addr}{v:Value},W0.cell? p=some v->p.block<n:=fun hp=>qN (World.block_lt_of_cell? _ _ hp) hn
 rcases hk with rfl|rfl|rfl|⟨_,hk⟩|hk
 ·exact qN (qB.1 h0.yb).1 hn
 ·exact lc h0.cp
 ·exact lc (h0.cg 0 (by omega))
 ·exact qN hk (q7 h0.fw.size hn)
 ·exact qN (qB.1 (h0.ms.2 k hk).2).1 hn)
theorem Ch.rnd{gN:Nat->Nat}{lbN:Nat->Array Value}{l B Wb Bp Bg:Nat}{C:Nat->Prop}{w:World}{Ds:List Nat}{W W':World}{T:Obj->Prop}(h:Ch gN lbN l B Wb Bp Bg C w Ds W)(hT:z6 T)(hB:B<=Wb)(f:Fr (jM B T (fun k=>C k\/k=Bp\/k=Bg)) W W'):Ch gN lbN l B Wb Bp Bg C w Ds W':=h.fr f (fun k o hk e=>by
 rcases hk with rfl|hk|hk|hk|hk
 ·rw[h.yb]at e;cases e;exact .inr ⟨hB,hT.no (by decide)⟩
 ·exact .inl (by simp[hk])
 ·exact .inl (by simp[hk])
 ·exact .inl (.inl hk.1)
 ·rw[(h.ms.2 k hk).2]at e;cases e;exact .inr ⟨(h.ms.2 k hk).1,fun q=>by have:=hT.cells _ q;cases this⟩)
theorem Ch.cons{gN:Nat->Nat}{lbN:Nat->Array Value}{l B Wb Bp Bg D:Nat}{C:Nat->Prop}{w:World}{Ds:List Nat}{W:World}(h:Ch gN lbN l B Wb Bp Bg C w Ds W)(hD:B<=D)(hn:D∉Ds)(hK:W.heap[D]?=some (.deferred (some []))):Ch gN lbN l B Wb Bp Bg C w (D :: Ds) W :=
 ⟨h.yb,h.cp,h.cg,h.fw,jx h.ms hD hn hK⟩
def cV(xsN:Nat->List Nat)(k:Nat):List Nat:=(List.range k).flatMap xsN
theorem qkt(xsN:Nat->List Nat)(k:Nat):cV xsN (k+1)=cV xsN k++xsN k:=by
 unfold cV;rw[List.range_succ,List.flatMap_append];simp
theorem CS(xsN:Nat->List Nat){k:Nat}(hk:k<2):cV xsN k++xsN k <+: cV xsN 2:=by
 rw[<-qkt];have:k=0\/k=1:=by omega
 rcases this with rfl|rfl
 ·rw[qkt xsN 1];exact List.prefix_append _ _
 ·exact List.prefix_rfl
theorem CR(xsN:Nat->List Nat):cV xsN 2=xsN 0++xsN 1:=by
 show xsN 0++(xsN 1++[])=_;rw[List.append_nil]
def ChI(gN:Nat->Nat)(lbN:Nat->Array Value)(xsN:Nat->List Nat)(l B Wb Bp Bg:Nat)(C:Nat->Prop)(w:World)(J:List Nat->World->Prop)(gk:Nat)(a:Act)(wr:World):Prop :=
 ∃(k:Nat)(Ds:List Nat)(u3 u4 u5 u9 u10 u11 u12 u13 u14 u15 u16 u17 u18:Value),k+gk=2/\a={ tmps:=#[.func (.yield l) #[] #[],.pointer (some ⟨Bp,0,none⟩),.pointer (some ⟨Wb,0,none⟩),u3,u4,u5,.slice (some ⟨Bg,0,none⟩) 2 2,.int .i64 2,.int .i64 (k:Int),u9,u10,u11,u12,u13,u14,u15,u16,u17,u18],defers:=Ds.map uK }/\Ch gN lbN l B Wb Bp Bg C w Ds wr/\J (cV xsN k) wr
theorem aP{gN:Nat->Nat}{lbN:Nat->Array Value}{xsN:Nat->List Nat}{T:Obj->Prop}{C:Nat->Prop}{w:World}(hit:∀k,k<2->It Tryz.prog (gN k) (lbN k) yh T C (xsN k) w)(heg:∀k,k<2->∀args w,(callFunc (gN k) args).run Tryz.prog w=.ok (.enter (gN k) args) w)
  (hTm:z6 T) (hCb:∀k,C k->k<w.heap.size) (Bp Bg:Nat) (hp:w.cell? ⟨Bp,0,none⟩=some (.slice (some ⟨Bg,0,none⟩) 2 2)) (hg:∀k,k<2->w.cell? ⟨Bg,k,none⟩=some (.func (.func (gN k)) #[] (lbN k))) :
  It Tryz.prog 314 #[.pointer (some ⟨Bp,0,none⟩)] yh T (fun k=>C k\/k=Bp\/k=Bg) (xsN 0++xsN 1) w:=by
 rw[<-CR];intro l B J Jx W f0 hB hJ hJx hY h0
 have hA0:Ch gN lbN l B W.heap.size Bp Bg C w [] (W.alloc (.cells #[.func (.yield l) #[] #[]] 255)):=by
  have f1:=f0.trans ((Fr.refl (fun k _=>C k\/k=Bp\/k=Bg) W).alloc (.cells #[.func (.yield l) #[] #[]] 255));exact⟨World.alloc_heap_new W _,f1.cell hp (fun _ _=>by simp),fun k hk=>f1.cell (hg k hk) (fun _ _=>by simp),f1.mono (fun k o _ q=>.inl q),⟨List.nodup_nil,fun D hD=>absurd hD List.not_mem_nil⟩⟩
 have hJ0:=hJ _ _ _ h0 ((Fr.refl _ W).alloc (.cells #[.func (.yield l) #[] #[]] 255));refine(callsIn_wide (n:=9)).1 ?_;refine callsIn_of_wp_marks Tryz.func314 rfl trivial ?_ rfl;simp only[Tryz.ntmps314,List.size_toArray,List.length_cons,List.length_nil,Nat.reduceAdd,Nat.reduceSub,Array.replicate_succ,Array.replicate_zero,List.push_toArray,List.append_toArray,List.nil_append,List.cons_append];refine wpIn_wide.2 ?_;clear h0 f0 hp hg;have c0:=hA0.cp;go_wp2_with fail;generalize W.alloc (.cells #[.func (.yield l) #[] #[]] 255)=w1 at hA0 hJ0 c0 ⊢;generalize W.heap.size=Wb at hA0 hB ⊢;clear c0;refine wpIn_wide.1 (wpIn_loop_ghost (rm:=9) (ChI gN lbN xsN l B Wb Bp Bg C w J) 2 ?start ?round)
 case start=>exact⟨0,[],undef,undef,undef,undef,undef,undef,undef,undef,undef,undef,undef,undef,undef,rfl,rfl,hA0,hJ0⟩
 case round =>
  clear hA0 hJ0;rintro gk a wr ⟨k,Ds,u3,u4,u5,u9,u10,u11,u12,u13,u14,u15,u16,u17,u18,hk,rfl,hM,hJk⟩;have hM':=qC hM;have hJk':=qC hJk;clear hJk;by_cases hlt:k<2
  ·have hsc:Hid (cV xsN (k+1)=cV xsN k++xsN k):=qC (qkt xsN k);have hpr:Hid (cV xsN k++xsN k <+: cV xsN 2):=qC (CS xsN hlt);have c1:=hM.cg k hlt;have hitk:=hit k hlt;have hegk:=heg k hlt;clear hM;have hDs:∀D∈Ds,D<wr.heap.size:=fun D hD=>(qB.1 ((qa hM').ms.2 D hD).2).1
   have hWb6:Wb<wr.heap.size:=(qB.1 (qa hM').yb).1;have hk0:(0:Int)<=(k:Int):=by omega
   have hk2:(k:Int)<2:=by omega
   have hB6:B<=wr.heap.size:=by omega
   generalize xsN k=xs at hitk hsc hpr;generalize gN k=g at c1 hitk hegk;generalize lbN k=lb at c1 hitk;refine wpIn_wide.2 ?_;go_wp2_with fail
   refine wpIn_wide.1 (xj (n:=9) (gf:=g) (lb:=lb) rfl hegk hitk hTm.cells (fun j hj=>qN (hCb j hj) (qa hM').fw.size) (qa hM').fw (fun _=>rfl)
    (fun pre V=>Ch gN lbN l B Wb Bp Bg C w Ds V/\J (cV xsN k++pre) V)
    (fun c _ V=>c=.ret/\zY B Ds V/\∃q,q <+: cV xsN 2/\Jx q V)
    ?sI ?sX ⟨qa hM',by simpa using qa hJk'⟩ ?rnd ?done ?stop)
   case sI=>exact fun s V V' h f=>⟨(qa hM').below (qL _) h.1 f,qo hJ hB6 _ _ _ h.2 f⟩
   case sX=>exact fun c s V V' h f=>⟨h.1,h.2.1.fr f (fun j o _ _ _ hj=>.inl (hDs _ hj)),h.2.2.elim fun q hq=>⟨q,hq.1,qo hJx hB6 _ _ _ hq.2 f⟩⟩
   case done =>
    rintro D V hD ⟨hMV,hJV⟩ hK;go_wp2_with fail;exact⟨gk-1,by omega,k+1,D :: Ds,_,_,_,_,_,_,_,_,_,_,_,_,_,by omega,rfl,hMV.cons (by omega) (fun h=>by have:=hDs D h;omega) hK,by rw[qa hsc];exact hJV⟩
   case stop =>
    rintro D c pre V hD hpre ⟨rfl,hms,q,hq1,hq2⟩ hK;refine wpIn_wide.2 ?_;go_wp2_with fail;exact xc (T:=T) Tryz.results314 hTm.cells (D :: Ds) V (jx hms (by omega) (fun h=>by have:=hDs D h;omega) hK) (fun v w' f=>⟨⟨v,rfl⟩,.inr ⟨q,hq1,hJx _ _ _ hq2 f⟩⟩)
   case rnd =>
    intro l1 pre y V hbl hxy hI hl;simp only[yh];gi_wp2;refine⟨Fr.refl _ _,?_⟩;intro V2 f2 hI2 hl2;obtain⟨hM2,hJ2⟩:=hI2;have cy:=(qi hM2.yb).1
    have hpy:cV xsN k++pre++[y] <+: cV xsN 2:=by
     refine List.IsPrefix.trans ?_ (qa hpr);rw[qS];exact(List.prefix_append_right_inj _).2 hxy
    obtain⟨fn,tmps,assign,body,hyy,hR⟩:=jb (m':=8) (hY (cV xsN k++pre) y V2 hpy hJ2);have hy':(Instr.yield l #[.int .i64 (y:Int)]).run Tryz.prog V2=.ok (.round l fn tmps assign body) V2:=hyy;clear hyy;have hM2':=qC hM2;clear hM2 hI hl f2;gi_wp2;have hR':RoundIn (Fence.wide.inRound l1) 8 Tryz.prog l fn tmps assign body V2 (fun e W'=>Fr (jM B T (fun k=>C k\/k=Bp\/k=Bg)) V2 W'/\((e=.returned (.bool true)/\J (cV xsN k++pre++[y]) W')\/(e=.returned (.bool false)/\Jx (cV xsN k++pre++[y]) W'))):=hR;clear hR;refine hR'.mono ?_;clear hR' hy';intro e V4 h4;obtain⟨f4,h4⟩:=h4;have fc1':Hid (Fr (jM wr.heap.size T C) V2 V4):=qC (f4.mono fun j o _ q=>q.elim (fun q=>.inl (.inl q)) (fun q=>.inr ⟨by omega,q.2⟩));have hM4':Hid (Ch gN lbN l B Wb Bp Bg C w Ds V4):=qC ((qa hM2').rnd hTm hB f4);rcases h4 with⟨rfl,hJ4⟩|⟨rfl,hx4⟩
    ·gi_wp2;exact⟨qa fc1',qa hM4',by rw[<-qS];exact hJ4⟩
    ·gi_wp2;exact⟨qa fc1',rfl,(qa hM4').ms,_,hpy,hx4⟩
  ·have hk2:k=2:=by omega
   subst hk2;clear hM;refine wpIn_wide.2 ?_;go_wp2_with fail;exact xc (T:=T) Tryz.results314 hTm.cells Ds wr (qa hM').ms (fun v w' f=>⟨⟨v,rfl⟩,.inl (hJ _ _ _ (qa hJk') f)⟩)
end
section
attribute [local go_sem] qd qe
def jD(c:UInt8):Bool:=((c.toNat:Int)==80)||((c.toNat:Int)==112)
def jA(c:UInt8):Bool:=((c.toNat:Int)==75)||((c.toNat:Int)==107)
theorem xz(c:UInt8)(w:World):Calls Tryz.prog 121 #[.int .u8 (c.toNat:Int)] w fun e w'=>e=.returned (.bool (jD c))/\w'=w:=by
 obtain⟨v,hv⟩:∃v,Hid (v=jD c):=⟨_,qC rfl⟩;rw[<-qa hv];have hv2:Hid (v=(((c.toNat:Int)==80)||((c.toNat:Int)==112))):=hv;go_enter Tryz.func121,Tryz.ntmps121;go_wp2
 all_goals
  go_ret;refine⟨zl ?_,rfl⟩;rw[qa hv2]
  try simp[*]
theorem qjk(c:UInt8)(w:World):Calls Tryz.prog 120 #[.int .u8 (c.toNat:Int)] w fun e w'=>e=.returned (.bool (jA c))/\w'=w:=by
 obtain⟨v,hv⟩:∃v,Hid (v=jA c):=⟨_,qC rfl⟩;rw[<-qa hv];have hv2:Hid (v=(((c.toNat:Int)==75)||((c.toNat:Int)==107))):=hv;go_enter Tryz.func120,Tryz.ntmps120;go_wp2
 all_goals
  go_ret;refine⟨zl ?_,rfl⟩;rw[qa hv2]
  try simp[*]
structure Ps(z:Nat->UInt8)(wh:Bool)(fc:Nat->Bool)(b:Int)(Bp:Nat)(W:World):Prop where
 bd:Bz z Bp W
 wh:W.cell? ⟨Bp,64,none⟩=some (.bool wh)
 c:∀i,i<4->W.cell? ⟨Bp,65+i,none⟩=some (.bool (fc i))
 b:W.cell? ⟨Bp,69,none⟩=some (.int .i64 b)
theorem Ps.of{z:Nat->UInt8}{wh:Bool}{fc:Nat->Bool}{b h g:Int}{PA:Array Value}(r:jE z wh fc b h g PA){Bp:Nat}{W:World}{t:TypeId}(hp:W.heap[Bp]?=some (.cells PA t)):Ps z wh fc b Bp W :=
 ⟨fun i hi=>by rw[cell_of_row _ _ _ _ _ _ hp];exact r.sq i hi,by rw[cell_of_row _ _ _ _ _ _ hp];exact r.wh,fun i hi=>by rw[cell_of_row _ _ _ _ _ _ hp];exact r.c i hi,by rw[cell_of_row _ _ _ _ _ _ hp];exact r.b⟩
theorem Ps.fr{z:Nat->UInt8}{wh:Bool}{fc:Nat->Bool}{b:Int}{Bp:Nat}{W W':World}{Q:Nat->Obj->Prop}(h:Ps z wh fc b Bp W)(f:Fr Q W W')(hq:∀o,W.heap[Bp]?=some o->Q Bp o):Ps z wh fc b Bp W' :=
 ⟨fun i hi=>f.cell (h.bd i hi) (fun o e=>hq o e),f.cell h.wh (fun o e=>hq o e),fun i hi=>f.cell (h.c i hi) (fun o e=>hq o e),f.cell h.b (fun o e=>hq o e)⟩
theorem Ps.gr{z:Nat->UInt8}{wh:Bool}{fc:Nat->Bool}{b:Int}{Bp:Nat}{W W':World}(h:Ps z wh fc b Bp W)(g:Gr W W'):Ps z wh fc b Bp W':=h.fr (Q:=fun _ _=>True) (Fr.of_gr g) (fun _ _=>trivial)
theorem Ps.lt{z:Nat->UInt8}{wh:Bool}{fc:Nat->Bool}{b:Int}{Bp:Nat}{W:World}(h:Ps z wh fc b Bp W):Bp<W.heap.size:=World.block_lt_of_cell? _ _ h.wh
def yG(z:Nat->UInt8)(wh:Bool)(b:Int)(f t:Nat):Bool:=if jD (z f)then((t:Int)==b)||kw (z t) (!wh)else !(kw (z t) wh)
theorem ma{z:Nat->UInt8}{wh:Bool}{fc:Nat->Bool}{b:Int}{Bp:Nat}{w:World}(h:Ps z wh fc b Bp w)(f t:Nat)(hf:f<64)(ht:t<64) :
  Calls Tryz.prog 268 #[.pointer (some ⟨Bp,0,none⟩),.int .i64 (f:Int),.int .i64 (t:Int)] w fun e w'=>e=.returned (.bool (yG z wh b f t))/\Gr w w':=by
 have c1:=h.bd f hf;have c2:=h.bd t ht;have c3:=h.wh;have c4:=h.b;have hp:=qC (fun W=>xz (z f) W);have hm:=qC (fun x W=>qxy (z t) x W);obtain⟨v,hv⟩:∃v,Hid (v=yG z wh b f t):=⟨_,qC rfl⟩;rw[<-qa hv];have hv2:Hid (v=if jD (z f)then((t:Int)==b)||kw (z t) (!wh)else !(kw (z t) wh)):=hv;clear hv h;generalize jD (z f)=pw at hp hv2;have hf0:(0:Int)<=(f:Int):=by omega
 have hf1:(f:Int)<64:=by omega
 have ht0:(0:Int)<=(t:Int):=by omega
 have ht1:(t:Int)<64:=by omega
 cases pw
 ·go_enter Tryz.func268,Tryz.ntmps268;go_upto_region 3 with(go_at_call 121;refine(qa hp _).mono ?_;rintro e w' ⟨rfl,rfl⟩);go_quiet((go_at_call 148;exact Calls.quiet_of_same (qa hm _ _)));go_wp2;go_ret;refine⟨zl ?_,(Gr.refl _).drewN _⟩;rw[qa hv2];simp
 ·obtain⟨q,hq⟩:∃q,((t:Int)==b)=q:=⟨_,rfl⟩;rw[hq]at hv2;cases q
  ·go_enter Tryz.func268,Tryz.ntmps268;go_upto_region 2 with(go_at_call 121;refine(qa hp _).mono ?_;rintro e w' ⟨rfl,rfl⟩);go_quiet((go_at_call 148;exact Calls.quiet_of_same (qa hm _ _)));go_wp2;go_ret;refine⟨zl ?_,(Gr.refl _).drewN _⟩;rw[qa hv2];simp
  ·go_enter Tryz.func268,Tryz.ntmps268;go_upto_region 2 with(go_at_call 121;refine(qa hp _).mono ?_;rintro e w' ⟨rfl,rfl⟩);go_quiet((go_at_call 148;exact Calls.quiet_of_same (qa hm _ _)));go_wp2;go_ret;refine⟨zl ?_,(Gr.refl _).drewN _⟩;rw[qa hv2];simp
theorem sS{z:Nat->UInt8}{wh:Bool}{fc:Nat->Bool}{b:Int}{Bp:Nat}{w:World}(h:Ps z wh fc b Bp w)(B1 B2:Nat)(f t:Nat)(hf:f<64)(ht:t<64)(h1:w.cell? ⟨B1,0,none⟩=some (.pointer (some ⟨Bp,0,none⟩)))(h2:w.cell? ⟨B2,0,none⟩=some (.int .i64 (f:Int))) :
  Calls Tryz.prog 267 #[.int .i64 (t:Int),.pointer (some ⟨B1,0,none⟩),.pointer (some ⟨B2,0,none⟩)] w fun e w'=>e=.returned (.bool (yG z wh b f t))/\Gr w w':=by
 have hm:=qC (ma h f t hf ht);clear h;go_enter Tryz.func267,Tryz.ntmps267;go_wp2_with(go_at_call 268;refine(qa hm).mono ?_;rintro e w' ⟨rfl,hg⟩);go_ret;exact⟨rfl,hg⟩
theorem iB{z:Nat->UInt8}{A x:Nat}(hx:x<64)(w:World)(hb:Bz z A w):Calls Tryz.prog 266 #[.pointer (some ⟨A,0,none⟩),.int .i64 (x:Int)] w fun e w'=>e=.returned (.func (.func 313) #[] #[.pointer (some ⟨w.heap.size+2,0,none⟩),.pointer (some ⟨w.heap.size,0,none⟩),.pointer (some ⟨w.heap.size+1,0,none⟩)])/\w'.heap[w.heap.size]?=some (.cells #[.pointer (some ⟨A,0,none⟩)] 224)/\w'.heap[w.heap.size+1]?=some (.cells #[.int .i64 (x:Int)] 3)/\w'.heap[w.heap.size+2]?=some (.cells #[.int .u8 ((z x).toNat:Int)] 5)/\Gr w w'/\w'.heap.size=w.heap.size+3:=by
 have hmf:∀(fn:Fn)(first cap:Array Value)(w:World),(Instr.makeFunc fn first cap).run Tryz.prog w=.ok (.func fn first cap) w:=fun _ _ _ _=>rfl
 have hg0:Gr w ((w.alloc (.cells #[.pointer (some ⟨A,0,none⟩)] 224)).alloc (.cells #[.int .i64 (x:Int)] 3)):=((Gr.refl w).alloc _ _).alloc _ _;obtain⟨h1,h2⟩:=x6 w (.cells #[.pointer (some ⟨A,0,none⟩)] 224) (.cells #[.int .i64 (x:Int)] 3);have c1:=(qi h1).1;have c2:=(qi h2).1;have cx:=(Below.cell hg0 (World.block_lt_of_cell? _ _ (hb x hx))).trans (hb x hx);have hx0:(0:Int)<=(x:Int):=by omega
 have hx1:(x:Int)<64:=by omega
 have hs0:((w.alloc (.cells #[.pointer (some ⟨A,0,none⟩)] 224)).alloc (.cells #[.int .i64 (x:Int)] 3)).heap.size=w.heap.size+2:=by simp
 go_enter Tryz.func266,Tryz.ntmps266;go_upto_region 1 with fail;generalize ((w.alloc (.cells #[.pointer (some ⟨A,0,none⟩)] 224)).alloc (.cells #[.int .i64 (x:Int)] 3))=w2 at hg0 h1 h2 c1 c2 cx hs0 ⊢;have hin:Hid (∀w',Gr w2 w'->Gr w2 w'/\w'.cell? ⟨w.heap.size,0,none⟩=some (.pointer (some ⟨A,0,none⟩))/\w'.cell? ⟨w.heap.size+1,0,none⟩=some (.int .i64 (x:Int))/\w'.cell? ⟨A,x,none⟩=some (.int .u8 ((z x).toNat:Int))):=qC (fun w' g=>⟨g,(Below.cell g (World.block_lt_of_cell? _ _ c1)).trans c1,(Below.cell g (World.block_lt_of_cell? _ _ c2)).trans c2,(Below.cell g (World.block_lt_of_cell? _ _ cx)).trans cx⟩);go_region_held3 (fun w'=>Gr w2 w'/\w'.cell? ⟨w.heap.size,0,none⟩=some (.pointer (some ⟨A,0,none⟩))/\w'.cell? ⟨w.heap.size+1,0,none⟩=some (.int .i64 (x:Int))/\w'.cell? ⟨A,x,none⟩=some (.int .u8 ((z x).toNat:Int))) (first|exact qa hin _ (Gr.refl _).drew|exact qa hin _ ((Gr.refl _).alloc _ _).drew) (fail);have e0:=World.alloc_heap_new w2 (.cells #[.int .u8 ((z x).toNat:Int)] 5);have e1:=(Below.heap_alloc w2 (.cells #[.int .u8 ((z x).toNat:Int)] 5) w.heap.size (by omega)).trans h1;have e2:=(Below.heap_alloc w2 (.cells #[.int .u8 ((z x).toNat:Int)] 5) (w.heap.size+1) (by omega)).trans h2;rw[hs0]at e0;go_wp2;go_ret;exact⟨rfl,e1,e2,e0,(hg0.alloc _ _).drew,by show(w2.alloc _).heap.size=_;rw[World.size_alloc,hs0]⟩
theorem sC(g gf:Nat)(lb lf:Array Value)(w:World):Calls Tryz.prog 265 #[.func (.func g) #[] lb,.func (.func gf) #[] lf] w fun e w'=>e=.returned (.func (.func 312) #[] #[.pointer (some ⟨w.heap.size,0,none⟩),.pointer (some ⟨w.heap.size+1,0,none⟩)])/\w'.heap[w.heap.size]?=some (.cells #[.func (.func g) #[] lb] 207)/\w'.heap[w.heap.size+1]?=some (.cells #[.func (.func gf) #[] lf] 255)/\Gr w w':=by
 have hmf:∀(fn:Fn)(first cap:Array Value)(w:World),(Instr.makeFunc fn first cap).run Tryz.prog w=.ok (.func fn first cap) w:=fun _ _ _ _=>rfl
 obtain⟨h1,h2⟩:=x6 w (.cells #[.func (.func g) #[] lb] 207) (.cells #[.func (.func gf) #[] lf] 255);go_enter Tryz.func265,Tryz.ntmps265;go_wp2;go_ret;exact⟨rfl,h1,h2,((Gr.refl w).alloc _ _).alloc _ _⟩
theorem aO(v:Value)(w:World)(hv:v.oneCell'=true):Calls Tryz.prog 269 #[v] w fun e w'=>e=.returned (.func (.func 314) #[] #[.pointer (some ⟨w.heap.size,0,none⟩)])/\w'.heap[w.heap.size]?=some (.cells #[v] 358)/\Gr w w':=by
 have hmf:∀(fn:Fn)(first cap:Array Value)(w:World),(Instr.makeFunc fn first cap).run Tryz.prog w=.ok (.func fn first cap) w:=fun _ _ _ _=>rfl
 go_enter Tryz.func269,Tryz.ntmps269;go_wp2;go_ret;exact⟨rfl,World.alloc_heap_new w _,(Gr.refl w).alloc _ _⟩
end
end Go.Proofs.YtnfakamfmkhlbabGreatDoor.C
