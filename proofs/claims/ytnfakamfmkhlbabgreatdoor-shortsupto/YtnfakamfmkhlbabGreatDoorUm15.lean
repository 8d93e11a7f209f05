import Derived.Test.YtnfakamfmkhlbabGreatDoorUm14
import Derived.Test.YtnfakamfmkhlbabGreatDoorUm2
import Derived.OrdersHeld
import Derived.OrdersIn
import Derived.Test.YtnfakamfmkhlbabGreatDoorKz2
import Derived.Test.YtnfakamfmkhlbabGreatDoorKz3
set_option maxRecDepth 100000
set_option maxHeartbeats 4000000
set_option linter.unusedSimpArgs false
namespace Go.Proofs.YtnfakamfmkhlbabGreatDoor.C
open Go.ChangeShapes Go.WideShapes Go.ChangeAt Go.RowKit Go.Shelf Go.Proofs.YtnfakamfmkhlbabGreatDoor.P
section
attribute [local go_sem] qd qe Oper.semAt_some
def cW(z:Nat->UInt8)(most:Nat)(xs:List Nat):List Nat:=(xs.take most).takeWhile fun v=>z v==46
theorem ue{p:Nat->Bool}:∀(l:List Nat),(∀v∈l,p v=true)->∀r,(l++r).takeWhile p=l++r.takeWhile p
 | [],_,r=>rfl
 | a :: l,h,r=>by
   rw[List.cons_append,List.takeWhile_cons,h a (List.mem_cons_self ..),qI rfl,ue l (fun v hv=>h v (List.mem_cons_of_mem _ hv)) r,List.cons_append]
theorem ld{z:Nat->UInt8}{most:Nat}{pre xs:List Nat}{y:Nat}(h:pre++[y] <+: xs)(hp:∀v∈pre,z v=46)(hl:pre.length<=most)(hs:pre.length=most\/z y≠46):cW z most xs=pre:=by
 obtain⟨r,rfl⟩:=h;have hp':∀v∈pre,(z v==46)=true:=fun v hv=>by rw[hp v hv];rfl
 unfold cW;rw[qS,List.take_append];by_cases e:pre.length=most
 ·rw[List.take_of_length_le (by omega),show most-pre.length=0 by omega,List.take_zero,ue pre hp'];simp
 ·rcases hs with hs|hs
  ·exact absurd hs e
  ·obtain⟨k,hk⟩:∃k,most-pre.length=k+1:=⟨most-pre.length-1,by omega⟩;rw[List.take_of_length_le (by omega),hk,ue pre hp'];simp[hs]
theorem Cq{z:Nat->UInt8}{most:Nat}{pre xs:List Nat}{y:Nat}(h:pre++[y] <+: xs)(hp:∀v∈pre,z v=46)(hl:pre.length<most)(hs:z y=46):pre++[y] <+: cW z most xs:=by
 obtain⟨r,rfl⟩:=h
 have hp':∀v∈pre++[y],(z v==46)=true:=fun v hv=>by
  rcases List.mem_append.1 hv with hv|hv
  ·rw[hp v hv];rfl
  ·rw[qT.1 hv,hs];rfl
 unfold cW;rw[List.take_append,List.take_of_length_le (by simp;omega),ue _ hp'];exact List.prefix_append _ _
theorem Ez{z:Nat->UInt8}{most:Nat}{xs:List Nat}(hp:∀v∈xs,z v=46)(hl:xs.length<=most):cW z most xs=xs:=by
 unfold cW;rw[List.take_of_length_le hl];have:=ue xs (p:=fun v=>z v==46) (fun v hv=>by rw[hp v hv];rfl) [];simpa using this
structure Ah(z:Nat->UInt8)(wh:Bool)(fc:Nat->Bool)(b:Int)(f:Nat)(a c:Int)(most B1 B2 B3 B4 Bp:Nat)(W:World):Prop where
 b1:W.cell? ⟨B1,0,none⟩=some (.pointer (some ⟨Bp,0,none⟩))
 b2:W.cell? ⟨B2,0,none⟩=some (.int .i64 (f:Int))
 b3:W.cell? ⟨B3,0,none⟩=some (.int .i64 a)
 b3':W.cell? ⟨B3,1,none⟩=some (.int .i64 c)
 b4:W.cell? ⟨B4,0,none⟩=some (.int .i64 (most:Int))
 ps:Ps z wh fc b Bp W
theorem Ah.fr{z:Nat->UInt8}{wh:Bool}{fc:Nat->Bool}{b:Int}{f:Nat}{a c:Int}{most B1 B2 B3 B4 Bp:Nat}{W W':World}{Q:Nat->Obj->Prop}(h:Ah z wh fc b f a c most B1 B2 B3 B4 Bp W)(g:Fr Q W W')(hq:∀k o,(k=B1\/k=B2\/k=B3\/k=B4\/k=Bp)->W.heap[k]?=some o->Q k o):Ah z wh fc b f a c most B1 B2 B3 B4 Bp W' :=
 ⟨g.cell h.b1 (fun o e=>hq _ o (by simp) e),g.cell h.b2 (fun o e=>hq _ o (by simp) e),g.cell h.b3 (fun o e=>hq _ o (by simp) e),g.cell h.b3' (fun o e=>hq _ o (by simp) e),g.cell h.b4 (fun o e=>hq _ o (by simp) e),h.ps.fr g (fun o e=>hq _ o (by simp) e)⟩
theorem Ah.gr{z:Nat->UInt8}{wh:Bool}{fc:Nat->Bool}{b:Int}{f:Nat}{a c:Int}{most B1 B2 B3 B4 Bp:Nat}{W W':World}(h:Ah z wh fc b f a c most B1 B2 B3 B4 Bp W)(g:Gr W W'):Ah z wh fc b f a c most B1 B2 B3 B4 Bp W':=h.fr (Q:=fun _ _=>True) (Fr.of_gr g) (fun _ _ _ _=>trivial)
theorem Ah.lt{z:Nat->UInt8}{wh:Bool}{fc:Nat->Bool}{b:Int}{f:Nat}{a c:Int}{most B1 B2 B3 B4 Bp:Nat}{W:World}(h:Ah z wh fc b f a c most B1 B2 B3 B4 Bp W):∀k,(k=B1\/k=B2\/k=B3\/k=B4\/k=Bp)->k<W.heap.size:=by
 rintro k (rfl|rfl|rfl|rfl|rfl)
 ·exact World.block_lt_of_cell? _ _ h.b1
 ·exact World.block_lt_of_cell? _ _ h.b2
 ·exact World.block_lt_of_cell? _ _ h.b3
 ·exact World.block_lt_of_cell? _ _ h.b4
 ·exact h.ps.lt
theorem wS{z:Nat->UInt8}{wh:Bool}{fc:Nat->Bool}{b:Int}{f:Nat}(hf:f<64){a c:Int}(hsm:small (a,c))(hnz:a≠0\/c≠0){most:Nat}(hmo:most<=2){B1 B2 B3 B4 Bp:Nat}(T:Obj->Prop)(hTm:z6 T)(w:World)(hw:Ah z wh fc b f a c most B1 B2 B3 B4 Bp w) :
  It Tryz.prog 315 #[.pointer (some ⟨B1,0,none⟩),.pointer (some ⟨B2,0,none⟩),.pointer (some ⟨B3,0,none⟩),.pointer (some ⟨B4,0,none⟩)] yh T (fun k=>k=B1\/k=B2\/k=B3\/k=B4\/k=Bp) (cW z most (kq z (a,c) f)) w:=by
 intro l B J Jx W f0 hB hJ hJx hY h0;have hW:=hw.fr f0 (fun k o hk _=>hk);clear f0 hw;refine(callsIn_wide (n:=9)).1 ?_;refine callsIn_of_wp_marks Tryz.func315 rfl trivial ?_ rfl;simp only[Tryz.ntmps315,List.size_toArray,List.length_cons,List.length_nil,Nat.reduceAdd,Nat.reduceSub,Array.replicate_succ,Array.replicate_zero,List.push_toArray,List.append_toArray,List.nil_append,List.cons_append];refine wpIn_wide.2 ?_;obtain⟨x1,x2⟩:=x6 W (.cells #[.func (.yield l) #[] #[]] 255) (.cells #[.int .i64 0] 3);have hg2:Gr W ((W.alloc (.cells #[.func (.yield l) #[] #[]] 255)).alloc (.cells #[.int .i64 0] 3)):=((Gr.refl W).alloc _ _).alloc _ _;have hs2:((W.alloc (.cells #[.func (.yield l) #[] #[]] 255)).alloc (.cells #[.int .i64 0] 3)).heap.size=W.heap.size+2:=by simp
 go_upto_region 2 with fail;generalize ((W.alloc (.cells #[.func (.yield l) #[] #[]] 255)).alloc (.cells #[.int .i64 0] 3))=w2 at x1 x2 hg2 hs2 ⊢;have hA2:=hW.gr hg2;have c1:=hA2.b1;have c2:=hA2.b2;have c3:=hA2.b3;have c4:=hA2.b3';have hin:Hid (∀w',Gr w2 w'->Gr w2 w'/\w'.cell? ⟨B1,0,none⟩=some (.pointer (some ⟨Bp,0,none⟩))/\w'.cell? ⟨B2,0,none⟩=some (.int .i64 (f:Int))/\w'.cell? ⟨B3,0,none⟩=some (.int .i64 a)/\w'.cell? ⟨B3,1,none⟩=some (.int .i64 c)):=qC (fun w' g=>⟨g,(hA2.gr g).b1,(hA2.gr g).b2,(hA2.gr g).b3,(hA2.gr g).b3'⟩);have hmk:=qC (fun W=>dB Bp f a c W);go_region_held3 (fun w'=>Gr w2 w'/\w'.cell? ⟨B1,0,none⟩=some (.pointer (some ⟨Bp,0,none⟩))/\w'.cell? ⟨B2,0,none⟩=some (.int .i64 (f:Int))/\w'.cell? ⟨B3,0,none⟩=some (.int .i64 a)/\w'.cell? ⟨B3,1,none⟩=some (.int .i64 c)) (first|exact qa hin _ (Gr.refl _).drew|exact qa hin _ (by assumption)) (first|(go_at_call 147;refine(qa hmk _).mono ?_;rintro e w6 ⟨rfl,hwk,hg6,hs6⟩;have hg7:=Gr.trans (Gr.refl w2).drew hg6));go_wp2_with fail;have hgw:=Gr.trans hg2 hg7;have hA6:=hW.gr hgw;have hsz:w2.drew.heap.size=W.heap.size+2:=hs2;rw[hsz]at hwk hs6;have hJ6:=hJ _ _ _ h0 (Fr.of_gr hgw);have k0:=(Below.block hg7 _ (qB.1 x1).1).trans x1;have k1:=(Below.block hg7 _ (qB.1 x2).1).trans x2;have hs7:W.heap.size+2+3<=w6.heap.size:=by omega
 have hpos2:=hW.lt;have hpos:Bp<W.heap.size:=hW.ps.lt;clear hs6 hg6 hg7 hgw x1 x2 hg2 hs2 hsz hA2 c1 c2 c3 c4 hin hmk hW h0;generalize W.heap.size=Wb at hB hwk hs7 k0 k1 hpos hpos2 ⊢;have hlt6:=hA6.lt;have hwk6:=hwk.wk hA6.ps.bd;have hB6:B<=w6.heap.size:=by omega
 have hms:∀{D:Nat}{V:World},w6.heap.size<=D->V.heap[D]?=some (.deferred (some []))->zY B [D] V:=fun hD hK=>⟨by simp,fun D' hD'=>by rw[qT]at hD';subst hD';exact⟨by omega,hK⟩⟩
 refine wpIn_wide.1 (xj (n:=9) (gf:=220) (lb:=wkA (Wb+2)) rfl (enters_of Tryz.func220 (by kernel_rfl) rfl)
  (dC z f hf a c hsm hnz (Wb+2+1) (Wb+2+2) (Wb+2) Bp T w6 hwk6) hTm.cells (by rintro j (rfl|rfl|rfl|rfl);exact(by omega);exact(by omega);exact(by omega);exact hA6.ps.lt) (Fr.refl _ _) (fun _=>rfl)
  (fun pre V=>Ah z wh fc b f a c most B1 B2 B3 B4 Bp V/\ap Bp f a c (Wb+2) V/\V.heap[Wb]?=some (.cells #[.func (.yield l) #[] #[]] 255)/\V.heap[Wb+1]?=some (.cells #[.int .i64 (pre.length:Int)] 3)/\(∀v∈pre,z v=46)/\pre.length<=most/\J pre V)
  (fun k _ V=>k=.ret/\(J (cW z most (kq z (a,c) f)) V\/∃q,q <+: cW z most (kq z (a,c) f)/\Jx q V))
  ?sI ?sX ⟨hA6,hwk,k0,k1,fun v hv=>absurd hv List.not_mem_nil,Nat.zero_le _,hJ6⟩ ?rnd ?done ?stop)
 case sI=>exact fun s V V' h g=>⟨h.1.fr g (fun k o hk _=>.inl (hlt6 k hk)),⟨g.same _ _ h.2.1.b0 (.inl (by omega)),g.same _ _ h.2.1.b1 (.inl (by omega)),g.same _ _ h.2.1.b2 (.inl (by omega))⟩,g.same _ _ h.2.2.1 (.inl (by omega)),g.same _ _ h.2.2.2.1 (.inl (by omega)),h.2.2.2.2.1,h.2.2.2.2.2.1,qo hJ hB6 _ _ _ h.2.2.2.2.2.2 g⟩
 case sX=>exact fun k s V V' h g=>⟨h.1,h.2.imp (fun h=>qo hJ hB6 _ _ _ h g) (fun h=>h.elim fun q hq=>⟨q,hq.1,qo hJx hB6 _ _ _ hq.2 g⟩)⟩
 case done =>
  rintro D V hD ⟨_,_,_,_,hall,hlen,hJV⟩ hK;have e:=qC (Ez hall hlen);clear hall hlen;go_wp2_with fail;exact xc (T:=T) Tryz.results315 hTm.cells [D] V (hms hD hK) (fun v w' g=>⟨⟨v,rfl⟩,.inl (by rw[qa e];exact hJ _ _ _ hJV g)⟩)
 case stop =>
  rintro D k pre V hD hpre ⟨rfl,hjx⟩ hK;refine wpIn_wide.2 ?_;go_wp2_with fail;exact xc (T:=T) Tryz.results315 hTm.cells [D] V (hms hD hK) (fun v w' g=>⟨⟨v,rfl⟩,hjx.imp (fun h=>hJ _ _ _ h g) (fun h=>h.elim fun q hq=>⟨q,hq.1,hJx _ _ _ hq.2 g⟩)⟩)
 case rnd =>
  intro l1 pre y V hbl hxy hI hl;simp only[yh];gi_wp2;refine⟨Fr.refl _ _,?_⟩;intro V2 f2 hI2 hl2;obtain⟨hA2,hwk2,hy2,hm2,hall,hlen,hJ2⟩:=hI2;have hy64:y<64:=ce hf (C9 hxy);have hy0:(0:Int)<=(y:Int):=by omega
  have hy1:(y:Int)<64:=by omega
  have d1:=hA2.b1;have d4:=hA2.b4;have dy:=hA2.ps.bd y hy64;have dm:=(qi hm2).1;have dyb:=(qi hy2).1;have hA2':=qC hA2;have hwk2':=qC hwk2;have hy2':=qC hy2;have hm2':=qC hm2;have hall':=qC hall;clear hA2 hwk2 hy2 hm2 hall hI hl f2;by_cases hq:pre.length=most
  ·have e:=qC (ld hxy (qa hall') hlen (.inl hq));rw[hq]at dm;gi_wp2;refine⟨fun _ h=>(by cases h),?_⟩;gi_wp2;exact⟨Fr.refl _ _,rfl,.inl (by rw[qa e];exact hJ2)⟩
  ·have hql:pre.length<most:=by omega
   have hqb:((pre.length:Int)==(most:Int))=false:=by simp;omega
   by_cases h46:z y=46
   ·have hz:((z y).toNat:Int)=46:=by rw[h46];rfl
    rw[hz]at dy;have hpy:=Cq hxy (qa hall') hql h46;obtain⟨fn,tmps,assign,body,hyy,hR⟩:=jb (m':=8) (hY pre y V2 hpy hJ2);have hy':(Instr.yield l #[.int .i64 (y:Int)]).run Tryz.prog V2=.ok (.round l fn tmps assign body) V2:=hyy;clear hyy;have hpy':=qC hpy;clear hpy;gi_wp2;have hR':RoundIn (Fence.wide.inRound l1) 8 Tryz.prog l fn tmps assign body V2 (fun e W'=>Fr (jM B T (fun k=>k=B1\/k=B2\/k=B3\/k=B4\/k=Bp)) V2 W'/\((e=.returned (.bool true)/\J (pre++[y]) W')\/(e=.returned (.bool false)/\Jx (pre++[y]) W'))):=hR;clear hR;refine hR'.mono ?_;clear hR' hy';intro e V4 h4;obtain⟨f4,h4⟩:=h4
    have fc1:Fr (jM w6.heap.size T (fun j=>j=Wb+2+1\/j=Wb+2+2\/j=Wb+2\/j=Bp)) V2 V4:=eR f4 hTm hB6 (by
     rintro j (rfl|rfl|rfl|rfl)
     ·exact .inr (qu (by omega) (by decide) (qa hwk2').b1)
     ·exact .inr (qu (by omega) (by decide) (qa hwk2').b2)
     ·exact .inr (qu (by omega) (by decide) (qa hwk2').b0)
     ·exact .inl (by simp))
    rcases h4 with⟨rfl,hJ4⟩|⟨rfl,hx4⟩
    ·have hA4:Ah z wh fc b f a c most B1 B2 B3 B4 Bp V4:=(qa hA2').fr f4 (fun k o hk _=>.inl hk);have hwk4:ap Bp f a c (Wb+2) V4:=⟨(qu (by omega) (by decide) (qa hwk2').b0).keep hTm f4 (qa hwk2').b0,(qu (by omega) (by decide) (qa hwk2').b1).keep hTm f4 (qa hwk2').b1,(qu (by omega) (by decide) (qa hwk2').b2).keep hTm f4 (qa hwk2').b2⟩;have hy4:=(qu (by omega) (by decide) (qa hy2')).keep hTm f4 (qa hy2');have hm4:=(qu (by omega) (by decide) (qa hm2')).keep hTm f4 (qa hm2');obtain⟨m1,m2⟩:=qi hm4;have hlt4:=hA4.lt;have hwr:IntKind.i64.wrap ((pre.length:Int)+1)=(pre.length:Int)+1:=by rw[IntKind.wrap_i64];omega
     have fs:Fr (fun k o=>k≠Wb+1) V4 (V4.setCell ⟨Wb+1,0,none⟩ (.int .i64 ((pre.length:Int)+1))):=(Fr.refl _ _).setCell _ (fun o _ q=>q rfl)
     have fin:Hid (Fr (jM w6.heap.size T (fun j=>j=Wb+2+1\/j=Wb+2+2\/j=Wb+2\/j=Bp)) V2 (V4.setCell ⟨Wb+1,0,none⟩ (.int .i64 ((pre.length:Int)+1)))/\Ah z wh fc b f a c most B1 B2 B3 B4 Bp (V4.setCell ⟨Wb+1,0,none⟩ (.int .i64 ((pre.length:Int)+1)))/\ap Bp f a c (Wb+2) (V4.setCell ⟨Wb+1,0,none⟩ (.int .i64 ((pre.length:Int)+1)))/\(V4.setCell ⟨Wb+1,0,none⟩ (.int .i64 ((pre.length:Int)+1))).heap[Wb]?=some (.cells #[.func (.yield l) #[] #[]] 255)/\(V4.setCell ⟨Wb+1,0,none⟩ (.int .i64 ((pre.length:Int)+1))).heap[Wb+1]?=some (.cells #[.int .i64 ((pre++[y]).length:Int)] 3)/\(∀v∈pre++[y],z v=46)/\(pre++[y]).length<=most/\J (pre++[y]) (V4.setCell ⟨Wb+1,0,none⟩ (.int .i64 ((pre.length:Int)+1)))):=qC (by
      refine⟨fc1.setCell _ ?_,hA4.fr fs (fun k o hk e he=>?_),⟨fs.same _ _ hwk4.b0 (by omega),fs.same _ _ hwk4.b1 (by omega),fs.same _ _ hwk4.b2 (by omega)⟩,fs.same _ _ hy4 (by omega),?_,?_,by simp;omega,hJ _ _ _ hJ4 ((Fr.refl _ _).setCell _ ?_)⟩
      ·rintro o-(q|q)
       ·simp only at q;rcases q with q|q|q|q
        ·omega
        ·omega
        ·omega
        ·have:=hpos;omega
       ·have:=q.1;simp only at this;omega
      ·subst he;have:=hpos2 _ hk;omega
      ·rw[jm hm4];simp
      ·intro v hv;rcases List.mem_append.1 hv with hv|hv
       ·exact qa hall' v hv
       ·rw[qT.1 hv];exact h46
      ·intro o e q;rw[hm4]at e;cases e;rcases q with q|q
       ·simp only at q;omega
       ·exact hTm.no (by decide) q)
     gi_wp2;exact qa fin
    ·gi_wp2;exact⟨fc1,rfl,.inr ⟨_,qa hpy',hx4⟩⟩
   ·have e:=qC (ld hxy (qa hall') hlen (.inr h46))
    have hz:(((z y).toNat:Int) != 46)=true:=by
     simp only[qU];intro h;apply h46;apply q6.1;have:(z y).toNat=46:=by omega
     rw[this];rfl
    gi_wp2;refine⟨fun _ h=>(by cases h),?_⟩;gi_wp2;exact⟨Fr.refl _ _,rfl,.inl (by rw[qa e];exact hJ2)⟩
end
section
attribute [local go_sem] qd qe
def zL(z:Nat->UInt8):List Value:=(List.range 64).map fun i=>.int .u8 ((z i).toNat:Int)
theorem ub(z:Nat->UInt8):(zL z).length=64:=by simp[zL]
theorem Cw(z:Nat->UInt8)(i:Nat)(hi:i<64):(zL z)[i]?=some (.int .u8 ((z i).toNat:Int)):=by simp[zL,hi]
theorem gu(z:Nat->UInt8):(zL z).toArray.size=64/\∀i,i<64->(zL z).toArray[i]?=some (.int .u8 ((z i).toNat:Int)):=⟨by simp[ub],fun i hi=>by rw[List.getElem?_toArray];exact Cw z i hi⟩
theorem DU(z:Nat->UInt8):∀v∈zL z,v.oneCell'=true:=by
 intro v hv;obtain⟨i,_,rfl⟩:=List.mem_map.1 hv;rfl
theorem Bz.range{z:Nat->UInt8}{a:Nat}{w:World}(h:Bz z a w):w.rangeAt a 0 (zL z):=fun j v hv=>by
 have hj:j<64:=by
  have:=(List.getElem?_eq_some_iff.1 hv).1
  rwa[ub]at this
 rw[Cw z j hj]at hv;rw[Nat.zero_add,<-hv];exact h j hj
def kC(k s:Int)(i:Nat):Nat:=(k+(i:Int)*s).toNat
def wn(z:Nat->UInt8)(k s:Int)(n:Nat):Bool:=(List.range n).all fun i=>z (kC k s (i+1))==46
def DD(z:Nat->UInt8)(wh:Bool)(k s:Int):Bool:=(List.range 3).all fun i=>!(vL z (kC k s i) (!wh))
def az(z:Nat->UInt8)(wh:Bool)(k s:Int)(n:Nat):Bool:=wn z k s n&&DD z wh k s
theorem Da{k s:Int}{n i:Nat}(hs:s=1\/s=-1)(h0:0<=k)(h1:k<=63)(h2:0<=k+((n:Int)+1)*s)(h3:k+((n:Int)+1)*s<=63)(hi:i<=n+1):k+(i:Int)*s=(kC k s i:Nat)/\kC k s i<64/\((kC k s i:Nat):Int)+s=k+((i+1:Nat):Int)*s/\(i<=n->((kC k s i:Nat):Int)≠k+((n:Int)+1)*s):=by
 unfold kC;rcases hs with rfl|rfl
 ·simp only[Int.mul_one]at *;omega
 ·simp only[Int.mul_neg,Int.mul_one]at *;omega
theorem qxs{z:Nat->UInt8}{wh:Bool}{fc:Nat->Bool}{b:Int}{Bp:Nat}{w:World}(h:Ps z wh fc b Bp w)(hS:vT w)(k s:Int)(n:Nat)(hs:s=1\/s=-1)(hn:1<=n)(h0:0<=k)(h1:k<=63)(h2:0<=k+((n:Int)+1)*s)(h3:k+((n:Int)+1)*s<=63) :
  Calls Tryz.prog 317 #[.pointer (some ⟨Bp,0,none⟩),.int .i64 k,.int .i64 (k+((n:Int)+1)*s),.int .i64 s] w fun e w'=>e=.returned (.bool (az z wh k s n))/\Gr w w':=by
 have hsq:=qC (fun i hi=>Da (i:=i) (n:=n) hs h0 h1 h2 h3 hi);have hsb0:-1<=s:=by omega
 have hsb1:s<=1:=by omega
 have hP0:Hid (k+s=(kC k s 1:Nat)):=qC (by have:=(qa hsq 1 (by omega)).1;omega);obtain⟨E,hE⟩:∃E,Hid (E=wn z k s n):=⟨_,qC rfl⟩;obtain⟨Q,hQ⟩:∃Q,Hid (Q=DD z wh k s):=⟨_,qC rfl⟩;have hB:Hid (az z wh k s n=(E&&Q)):=qC (by rw[qa hE,qa hQ];rfl);have hE2:Hid (E=(List.range n).all fun i=>z (kC k s (i+1))==46):=hE;have hQ2:Hid (Q=(List.range 3).all fun i=>!(vL z (kC k s i) (!wh))):=hQ;rw[qa hB];have hfin:Hid (k+((n:Int)+1)*s=(kC k s (n+1):Nat)):=qC (by have:=(qa hsq (n+1) (by omega)).1;simpa using this);generalize hr:k+((n:Int)+1)*s=r at h2 h3 hsq hfin ⊢;clear hr hE hQ hB;have e1:wrap64 (k+s)=k+s:=by unfold wrap64;omega
 have hps:=qC h;have hS':=qC hS;clear h hS;have hu:=Tryz.underlying67;have hl:=ub z;have hi64:(Tryz.prog.info? 67).map (·.size)=some (zL z).length:=by rw[hl];exact x7
 have h1c:=DU z;generalize hz:zL z=L at hl hi64 h1c;have hz':=qC hz;clear hz;go_enter Tryz.func317,Tryz.ntmps317;go_wp2;go_loopg [9] n (fun g v wr=>∃j:Nat,j+g=n/\v=.int .i64 ((kC k s (j+1):Nat):Int)/\wr=w/\∀i,i<j->z (kC k s (i+1))=46)
 case atStart=>exact⟨0,by omega,by rw[qa hP0],rfl,fun i hi=>absurd hi (Nat.not_lt_zero i)⟩
 case round =>
  obtain⟨j,k1,rfl,rfl,hem⟩:=hrel;have hem':=qC hem;clear hem;obtain⟨-,q2,q3,q4⟩:=qa hsq (j+1) (by omega);have q5:=(qa hsq (j+1+1));by_cases hlt:j<n
  ·have hne:=q4 (by omega);have hx:=(q5 (by omega)).1;rw[<-q3]at hx;have hcell:=(qa hps).bd (kC k s (j+1)) q2;have hj0:Hid (z (kC k s (j+1))=z (kC k s (j+1))):=qC rfl;generalize hy:kC k s (j+1)=y at q2 q3 hne hx hcell ⊢;have hy':=qC hy;clear hy q3 q4 q5 hj0;have hy0:(0:Int)<=(y:Int):=by omega
   have hy1:(y:Int)<64:=by omega
   have hwr:wrap64 ((y:Int)+s)=(y:Int)+s:=by unfold wrap64;omega
   have hneb:((y:Int) != r)=true:=qU.2 hne;by_cases h46:z y=46
   ·have hz:((z y).toNat:Int)=46:=by rw[h46];rfl
    rw[hz]at hcell;have hx':=qC hx;clear hx hne;go_wp2;go_roundg (gk-1)
    case measure=>omega
    case rel=>exact⟨j+1,by omega,by rw[qa hx'],rfl,fun i hi=>by
     by_cases e:i=j
     ·subst e;rw[qa hy'];exact h46
     ·exact qa hem' i (by omega)⟩
   ·have hz:(((z y).toNat:Int) != 46)=true:=by
     simp only[qU];intro h;apply h46;apply q6.1;have:(z y).toNat=46:=by omega
     rw[this];rfl
    have hEf:Hid (E=false):=qC (by
     rw[qa hE2,List.all_eq_false];exact⟨j,qK.2 hlt,by rw[qa hy'];simpa using h46⟩)
    clear hx hne h46;go_wp2;go_ret;exact⟨by rw[qa hEf];rfl,Gr.refl _⟩
  ·have ej:j=n:=by omega
   subst ej
   have hEt:Hid (E=true):=qC (by
    rw[qa hE2,qW];intro i hi;rw[qa hem' i (qK.1 hi)];rfl)
   have hnb:(((kC k s (j+1):Nat):Int) != r)=false:=by rw[qa hfin];simp
   have hat:=qC (fun(x:Nat)(hx:x<64) W hS=>ah z (zL z).toArray (gu z).1 (gu z).2 x hx (!wh) W hS);rw[qa hz']at hat;clear hfin q2 q3 q4 q5 hE2 hem';go_wp2;clear hnb;go_loopg [10,27] 3 (fun g _ v w2=>∃i:Nat,i+g=3/\v=.int .i64 (i:Int)/\Gr wr w2/\∀m,m<i->vL z (kC k s m) (!wh)=false)
   case atStart=>exact⟨0,by omega,rfl,Gr.refl _,fun m hm=>absurd hm (Nat.not_lt_zero m)⟩
   case round =>
    obtain⟨i,i1,rfl,hgr,hno⟩:=hrel;have hno':=qC hno;clear hno;by_cases hi3:i<3
    ·obtain⟨q1,q2,-,-⟩:=qa hsq i (by omega)
     have hp:-2<=(i:Int)*s/\(i:Int)*s<=2:=by
      rcases hs with rfl|rfl
      ·simp only[Int.mul_one];omega
      ·simp only[Int.mul_neg,Int.mul_one];omega
     have e2:IntKind.i64.wrap ((i:Int)*s)=(i:Int)*s:=by rw[IntKind.wrap_i64];omega
     have e3:IntKind.i64.wrap (k+(i:Int)*s)=((kC k s i:Nat):Int):=by rw[q1,IntKind.wrap_i64];omega
     have hps2:=(qa hps).gr hgr;have c64:=hps2.wh;have crg:=hps2.bd.range;rw[qa hz']at crg;have hS2:=(qa hS').gr hgr;have hlt2:=hps2.lt;have hin:Hid (∀w',Gr wr w'->Gr wr w'/\w'.rangeAt Bp 0 L/\w'.cell? ⟨Bp,64,none⟩=some (.bool wh)):=qC (fun w' g=>⟨g,fun j v hv=>(Below.cell g (p:=⟨Bp,0+j,none⟩) hlt2).trans (crg j v hv),(Below.cell g (p:=⟨Bp,64,none⟩) hlt2).trans c64⟩)
     have hno2:Hid (vL z (kC k s i) (!wh)=false->∀m,m<i+1->vL z (kC k s m) (!wh)=false):=qC (fun h m hm=>by
      by_cases e:m=i
      ·subst e;exact h
      ·exact qa hno' m (by omega))
     have hyes:Hid (vL z (kC k s i) (!wh)=true->Q=false):=qC (fun h=>by
      rw[qa hQ2,List.all_eq_false];exact⟨i,qK.2 hi3,by rw[h];simp⟩)
     have hati:=qC (fun W g=>qa hat (kC k s i) q2 W (hS2.gr g));generalize kC k s i=y at q2 e3 hno2 hyes hati;obtain⟨v,hv⟩:∃v,vL z y (!wh)=v:=⟨_,rfl⟩;rw[hv]at hno2 hyes hati;clear q1 hat hS2 hps2;go_upto_region 9 with fail;go_region_held3 (fun w'=>Gr wr w'/\w'.rangeAt Bp 0 L/\w'.cell? ⟨Bp,64,none⟩=some (.bool wh)) (first|exact qa hin _ (Gr.refl _).drew|exact qa hin _ (by assumption)) (first|(go_at_call 64;refine(qa hati _ (vy (by assumption))).mono ?_;rintro e w6 ⟨rfl,hg6⟩;have hg7:=Gr.trans (vy (by assumption)) hg6));cases v
     ·go_wp2;go_roundg (gk-1)
      case measure=>omega
      case rel=>exact⟨i+1,by omega,by go_num,Gr.trans hgr hg7,qa hno2 (by trivial)⟩
     ·go_wp2;go_ret;exact⟨by rw[qa hyes (by trivial),Bool.and_false];rfl,Gr.trans hgr hg7⟩
    ·have ei:i=3:=by omega
     subst ei
     have hQt:Hid (Q=true):=qC (by
      rw[qa hQ2,qW];intro m hm;rw[qa hno' m (qK.1 hm)];rfl)
     go_wp2;go_ret;exact⟨by rw[qa hEt,qa hQt];rfl,hgr⟩
end
section
attribute [local go_sem] Oper.semAt_some
theorem gO:∀t,t<64->kP.getLsbD t=(decide (t/8=0)||decide (t/8=7)):=by decide +kernel
theorem AN(c:UInt8)(f t:Nat)(ht:t<64)(hn:(jD c&&kP.getLsbD t)=false)(l B:Nat)(T:Obj->Prop)(C:Nat->Prop)(J Jx:List Mv->World->Prop)(pre:List Mv)(W:World)
    (hY:YieldAt Fence.wide 0 Tryz.prog l (vr (f,t,0)) W fun e W'=>Fr (jM B T C) W W'/\((e=.returned (.bool true)/\J (pre++[(f,t,0)]) W')\/(e=.returned (.bool false)/\Jx (pre++[(f,t,0)]) W'))) :
    Calls Tryz.prog 225 #[.int .u8 (c.toNat:Int),.int .i64 (f:Int),.int .i64 (t:Int),.func (.yield l) #[] #[]] W fun e W'=>Fr (jM B T C) W W'/\((e=.returned (.bool true)/\J (pre++[(f,t,0)]) W')\/(e=.returned (.bool false)/\Jx (pre++[(f,t,0)]) W')):=by
  obtain⟨fn,tmps,assign,body,hy,hR⟩:=hY
  have hp:=qC (fun W=>xz c W)
  have hy':(Instr.yield l #[.agg #[.int .i64 (f:Int),.int .i64 (t:Int),.int .u8 0]]).run Tryz.prog W=.ok (.round l fn tmps assign body) W:=hy
  clear hy
  rw[gO t ht]at hn
  refine(callsIn_wide (n:=1)).1 ?_
  refine callsIn_of_wp Tryz.func225 rfl trivial ?_ rfl
  simp only[Tryz.ntmps225,List.size_toArray,List.length_cons,List.length_nil,Nat.reduceAdd,Nat.reduceSub,Array.replicate_succ,Array.replicate_zero,List.push_toArray,List.append_toArray,List.nil_append,List.cons_append]
  generalize jD c=pw at hp hn
  cases pw
  · clear hn
    gi_wp2_with (first
      | (refine⟨trivial,?_⟩;gi_at_call 121;refine(callsIn_wide.2 (qa hp _)).mono ?_;rintro e w' ⟨rfl,rfl⟩)
      | (with_reducible refine And.intro (zw _) ?_))
    all_goals first
      | (refine hR.mono ?_
         rintro e W3 ⟨f3,⟨rfl,hJ3⟩|⟨rfl,hJx3⟩⟩
         · gi_wp2
           go_ret
           exact⟨f3,.inl ⟨rfl,hJ3⟩⟩
         · gi_wp2
           go_ret
           exact⟨f3,.inr ⟨rfl,hJx3⟩⟩)
      | (exfalso;rename_i xx bb h1 h2;exact absurd h1 (by simp[undef]))
      | (exfalso;rename_i xx bb h1;exact absurd h1 (by simp[undef]))
  · have hn2:t/8≠0/\t/8≠7:=by simpa using hn
    have n0:((t:Int)/8 != 0)=true:=by simp only[qU];omega
    have n7:((t:Int)/8 != 7)=true:=by simp only[qU];omega
    clear hn hn2
    gi_wp2_with (first
      | (refine⟨trivial,?_⟩;gi_at_call 121;refine(callsIn_wide.2 (qa hp _)).mono ?_;rintro e w' ⟨rfl,rfl⟩)
      | (with_reducible refine And.intro (zw _) ?_))
    refine hR.mono ?_
    rintro e W3 ⟨f3,⟨rfl,hJ3⟩|⟨rfl,hJx3⟩⟩
    · gi_wp2
      go_ret
      exact⟨f3,.inl ⟨rfl,hJ3⟩⟩
    · gi_wp2
      go_ret
      exact⟨f3,.inr ⟨rfl,hJx3⟩⟩
theorem GU(w:World):(Instr.index 9 (.string ⟨#[113,114,98,110]⟩) (.int .i64 0)).run Tryz.prog w=.ok (.int .u8 113) w:=by kernel_rfl
theorem GT(w:World):(Instr.index 9 (.string ⟨#[113,114,98,110]⟩) (.int .i64 1)).run Tryz.prog w=.ok (.int .u8 114) w:=by kernel_rfl
theorem GS(w:World):(Instr.index 9 (.string ⟨#[113,114,98,110]⟩) (.int .i64 2)).run Tryz.prog w=.ok (.int .u8 98) w:=by kernel_rfl
theorem GR(w:World):(Instr.index 9 (.string ⟨#[113,114,98,110]⟩) (.int .i64 3)).run Tryz.prog w=.ok (.int .u8 110) w:=by kernel_rfl
theorem Bi(k:Nat)(hk:k<4)(w:World):(Instr.index 9 (.string ⟨#[113,114,98,110]⟩) (.int .i64 (k:Int))).run Tryz.prog w=.ok (.int .u8 ((uA k).toNat:Int)) w:=by
 have:k=0\/k=1\/k=2\/k=3:=by omega
 rcases this with rfl|rfl|rfl|rfl
 ·exact GU w
 ·exact GT w
 ·exact GS w
 ·exact GR w
theorem oD(c:UInt8)(hc:jD c=true)(f t:Nat)(ht:t<64)(hn:kP.getLsbD t=true)(l B:Nat)(T:Obj->Prop)(C:Nat->Prop)(J Jx:List Mv->World->Prop)(pre:List Mv)(W:World)
  (hY:∀k W1,k<4->J (pre++(List.range k).map fun i=>(f,t,uA i)) W1->YieldAt Fence.wide 0 Tryz.prog l (vr (f,t,uA k)) W1 fun e W'=>Fr (jM B T C) W1 W'/\((e=.returned (.bool true)/\J (pre++(List.range (k+1)).map fun i=>(f,t,uA i)) W')\/(e=.returned (.bool false)/\Jx (pre++(List.range (k+1)).map fun i=>(f,t,uA i)) W'))) (h0:J pre W) :
  Calls Tryz.prog 225 #[.int .u8 (c.toNat:Int),.int .i64 (f:Int),.int .i64 (t:Int),.func (.yield l) #[] #[]] W fun e W'=>Fr (jM B T C) W W'/\((e=.returned (.bool true)/\J (pre++(List.range 4).map fun i=>(f,t,uA i)) W')\/(e=.returned (.bool false)/\∃k,k<4/\Jx (pre++(List.range (k+1)).map fun i=>(f,t,uA i)) W')):=by
 have hp:=qC (fun W=>xz c W);rw[hc]at hp;clear hc;rw[gO t ht]at hn;have hn2:t/8=0\/t/8=7:=by simpa using hn
 clear hn;refine(callsIn_wide (n:=1)).1 ?_;refine callsIn_of_wp Tryz.func225 rfl trivial ?_ rfl;simp only[Tryz.ntmps225,List.size_toArray,List.length_cons,List.length_nil,Nat.reduceAdd,Nat.reduceSub,Array.replicate_succ,Array.replicate_zero,List.push_toArray,List.append_toArray,List.nil_append,List.cons_append];have key:∀{Z:Prop},(∀a8:Int,(a8=0\/a8=7)->(t:Int)/8=a8->Z)->Z:=fun h=>h _ (by omega) rfl
 refine key fun a8 ha8 he8=>?_
 clear key hn2;rcases ha8 with rfl|rfl
 all_goals
  gi_wp2_with (first
   | (refine⟨trivial,?_⟩;gi_at_call 121;refine(callsIn_wide.2 (qa hp _)).mono ?_;rintro e w' ⟨rfl,rfl⟩)
   | (with_reducible refine And.intro (zw _) ?_))
  gi_loopw [9,28] (fun _ p wr=>∃k:Nat,k<=4/\p=.int .i64 (k:Int)/\J (pre++(List.range k).map fun i=>(f,t,uA i)) wr/\Fr (jM B T C) w' wr) (fun _ p _=>4-(intOf p).toNat)
  case atStart=>exact⟨0,by omega,rfl,by simpa using h0,Fr.refl _ _⟩
  case round =>
   obtain⟨k,hk,rfl,hJk,fk⟩:=hrel;by_cases h4:k<4
   ·have hck:=Bi k h4;obtain⟨fn,tmps,assign,body,hy,hR⟩:=hY k wr h4 hJk;have hy':(Instr.yield l #[.agg #[.int .i64 (f:Int),.int .i64 (t:Int),.int .u8 ((uA k).toNat:Int)]]).run Tryz.prog wr=.ok (.round l fn tmps assign body) wr:=hy;clear hy;gi_wp2;refine hR.mono ?_;rintro e W3 ⟨f3,⟨rfl,hJ3⟩|⟨rfl,hJx3⟩⟩
    ·gi_wp2;go_roundw
     case rel=>exact⟨k+1,by omega,by go_num,hJ3,fk.trans f3⟩
     case measure=>simp only[intOf];omega
    ·gi_wp2;go_ret;exact⟨fk.trans f3,.inr ⟨rfl,k,h4,hJx3⟩⟩
   ·have:k=4:=by omega
    subst this;gi_wp2;go_ret;exact⟨fk,.inl ⟨rfl,hJk⟩⟩
theorem AO(c:UInt8)(f t:Nat)(ht:t<64)(l B:Nat)(T:Obj->Prop)(C:Nat->Prop)(J Jx:List Mv->World->Prop)(xs dn:List Mv)(hpre:dn++xT (jD c) f t <+: xs)
  (hY:∀pre x W1,pre++[x] <+: xs->J pre W1->YieldAt Fence.wide 0 Tryz.prog l (vr x) W1 fun e W'=>Fr (jM B T C) W1 W'/\((e=.returned (.bool true)/\J (pre++[x]) W')\/(e=.returned (.bool false)/\Jx (pre++[x]) W')))
  (W:World) (h0:J dn W) :
  Calls Tryz.prog 225 #[.int .u8 (c.toNat:Int),.int .i64 (f:Int),.int .i64 (t:Int),.func (.yield l) #[] #[]] W fun e W'=>Fr (jM B T C) W W'/\((e=.returned (.bool true)/\J (dn++xT (jD c) f t) W')\/(e=.returned (.bool false)/\∃q,q <+: xs/\Jx q W')):=by
 by_cases hn:(jD c&&kP.getLsbD t)=true
 ·have hn2:=hn;rw[qH]at hn2;have e4:xT (jD c) f t=(List.range 4).map fun i=>((f,t,uA i):Mv):=by unfold xT;rw[hn,qI rfl];rfl
  rw[e4]at hpre ⊢;have hp4:∀k,k<4->dn++(List.range (k+1)).map (fun i=>((f,t,uA i):Mv)) <+: xs:=fun k hk=>(List.prefix_append_right_inj dn).2 (pj f t k hk) |>.trans hpre
  refine(oD c hn2.1 f t ht hn2.2 l B T C J Jx dn W (fun k W1 hk hj=>?_) h0).mono ?_
  ·have:=hY (dn++(List.range k).map fun i=>(f,t,uA i)) (f,t,uA k) W1 (by
    have:=hp4 k hk
    rwa[List.range_succ,List.map_append,<-qS]at this) hj
   rw[List.range_succ,List.map_append,<-qS];exact this
  ·rintro e W' ⟨f1,⟨h1,h2⟩|⟨h1,k,hk,h2⟩⟩
   ·exact⟨f1,.inl ⟨h1,h2⟩⟩
   ·exact⟨f1,.inr ⟨h1,_,hp4 k hk,h2⟩⟩
 ·have hn':(jD c&&kP.getLsbD t)=false:=by simpa using hn
  have e1:xT (jD c) f t=[(f,t,0)]:=by unfold xT;rw[hn'];rfl
  rw[e1]at hpre ⊢;refine(AN c f t ht hn' l B T C J Jx dn W (hY dn _ W hpre h0)).mono ?_;rintro e W' ⟨f1,⟨h1,h2⟩|⟨h1,h2⟩⟩
  ·exact⟨f1,.inl ⟨h1,h2⟩⟩
  ·exact⟨f1,.inr ⟨h1,_,hpre,h2⟩⟩
end
section
section
variable {n:Nat}{P:Program}{md:Region.Mode}{ops:Array Oper}{Q:Exit->Act->World->Prop}{S:World->Prop}
def yA(n:Nat)(P:Program)(md:Region.Mode)(ops:Array Oper)(Q:Exit->Act->World->Prop)(S:World->Prop):Nat->Array Bool->Act->World->Prop
 | 0,L,a,w=>Region.ready md ops L=[]/\Q .normal a w
 | f+1,L,a,w=>(Region.ready md ops L=[]->Q .normal a w)/\∀i∈Region.ready md ops L,wpOpIn Fence.wide n P ops Q i (fun a' w'=>S w'/\yA n P md ops Q S f (L.setIfInBounds i true) a' w') a w
theorem yA.any:∀{f:Nat}{L:Array Bool}{a:Act}{w:World},yA n P md ops Q S f L a w->wpAnyIn Fence.wide n P md ops Q f L a w
 | 0,_,_,_,h=>h
 | _+1,_,_,_,h=>⟨h.1,fun i hi=>wpOpIn_mono (fun _ _ k=>yA.any k.2) (h.2 i hi)⟩
theorem eF{o:Oper}{d:Option Tmp}{v:Value}{Y:Act->Prop}{K:Act->World->Prop}{a:Act}(hY:∀a u,Y a->Y (a.put o.dst u))(hD:∀x,Y { a with defers:=x :: a.defers })(ha:Y a)
  (hc:∀(b:Act)(u:Value),(b.put d v).put o.dst u=(b.put o.dst u).put d v) (hQ:∀c b w,Q (.panic c) (b.put d v) w->Q (.panic c) b w) :
  ∀r,o.uponIn Fence.wide n P (a.put d v) K Q r->o.uponIn Fence.wide n P a (fun a' w'=>Y a'/\K (a'.put d v) w') Q r:=by
 have one:∀u w',K ((a.put d v).put o.dst u) w'->Y (a.put o.dst u)/\K ((a.put o.dst u).put d v) w':=fun u w' h=>⟨hY a u ha,by rw[<-hc];exact h⟩
 rintro(⟨x,w'⟩|⟨x,w'⟩)
 ·cases x with
  | value u=>exact one u w'
  | skip=>exact one undef w'
  | defer x =>
   intro h;have h':K (({ a with defers:=x :: a.defers }.put d v).put o.dst undef) w':=by rw[<-Act.put_defers];exact h
   exact⟨hY _ _ (hD x),by rw[<-hc];exact h'⟩
  | enter f args =>
   intro h;refine⟨h.1,h.2.mono fun e w'' he=>?_⟩;cases e with
   | returned u=>exact one u w'' he
   | panicked c=>exact hQ _ _ _ he
   | outgrown=>exact he
  | row row args=>exact fun h=>⟨h.1,h.2.mono fun u w'' he=>one u w'' he⟩
  | round l f tmps assign body =>
   intro h;refine⟨h.1,h.2.mono fun e w'' he=>?_⟩;cases e with
   | returned u=>exact one u w'' he
   | panicked c=>exact hQ _ _ _ he
   | outgrown=>exact he
  | _=>exact id
 ·cases x with
  | panic u=>exact hQ _ _ _
  | _=>exact id
theorem pc{i:Nat}{o:Oper}{v:Value}{a:Act}{w:World}{K:Act->World->Prop}(hi:ops[i]?=some o)(hy:YieldsIf P ops S o v a)(hS:S w)(h:K (a.put o.dst v) w):wpOpIn Fence.wide n P ops Q i K a w:=by
 refine wpOpIn_step hi fun K' hK=>?_
 rcases hy with⟨h1,h2⟩|⟨h1,rfl⟩
 ·rw[qI h1];refine⟨fun _ _=>trivial,?_⟩;show o.uponIn Fence.wide n P a K' Q ((o.semAt none a.eval).run P w);rw[Oper.semAt_none,h2 w hS];exact hK _ _ h
 ·rw[qF (by rw[h1];decide)];exact⟨fun _ _=>trivial,hK _ _ h⟩
theorem sB{j:Nat}{oi oj:Oper}{v:Value}{a:Act}{w:World}{K:Act->World->Prop}(hj:ops[j]?=some oj)(hap:oi.apart ops oj=true)(hsi:∀cs b,oi.op≠.select cs b)(hsj:∀cs b,oj.op≠.select cs b)
  (hQ:∀c b w,Q (.panic c) (b.put oi.dst v) w->Q (.panic c) b w) (hy:YieldsIf P ops S oi v a) (h:wpOpIn Fence.wide n P ops Q j K (a.put oi.dst v) w) :
  wpOpIn Fence.wide n P ops Q j (fun a' w'=>YieldsIf P ops S oi v a'/\K (a'.put oi.dst v) w') a w:=by
 obtain⟨h1,h2,h3⟩:=Oper.apart_spec hap;have hY:∀b u,YieldsIf P ops S oi v b->YieldsIf P ops S oi v (b.put oj.dst u):=fun b u k=>k.of_same (execOp_put oi hsi b oj.dst u h3) (wanted_put oi b oj.dst u h3)
 unfold wpOpIn at h ⊢;rw[hj]at h ⊢;simp only at h ⊢;rw[wanted_put oj a oi.dst v h1]at h;by_cases hw:Region.wanted oj (yielded ops a.tmps)=true
 ·rw[qI hw]at h ⊢;have he:oj.semAt none (a.put oi.dst v).eval=oj.semAt none a.eval:=by rw[Oper.semAt_none,Oper.semAt_none,execOp_put oj hsj a oi.dst v h1]
  refine⟨fun _ _=>trivial,eF hY (fun x=>hy.of_same rfl rfl) hy (fun b u=>Act.put_comm b v u h2) hQ _ ?_⟩;have:=h.2
  rwa[show Fence.wide.round=none from rfl,he]at this
 ·rw[qF hw]at h ⊢;exact⟨fun _ _=>trivial,hY _ _ hy,by rw[<-Act.put_comm a v undef h2];exact h.2⟩
theorem yA.take{i:Nat}{oi:Oper}{v:Value}(hi:ops[i]?=some oi)(hs:Region.noSelect ops=true)(hQ:∀c b w,Q (.panic c) (b.put oi.dst v) w->Q (.panic c) b w) :
  ∀{f:Nat}{L:Array Bool}{a:Act}{w:World},(∀j oj,ops[j]?=some oj->j≠i->L.getD j true=false->(∀e∈oj.after,Region.binds md e=true->e.on≠i)->oi.apart ops oj=true) →
   i∈Region.ready md ops L->YieldsIf P ops S oi v a->S w->yA n P md ops Q S f (L.setIfInBounds i true) (a.put oi.dst v) w->yA n P md ops Q S (f+1) L a w:=by
 intro f;induction f with
 | zero =>
  intro L a w _ hr hy hS H;refine⟨fun h=>(by rw[h]at hr;cases hr),fun j hj=>?_⟩;by_cases e:j=i
  ·subst e;exact pc hi hy hS ⟨hS,H⟩
  ·have:=ready_mono hj e;rw[H.1]at this;cases this
 | succ f ih =>
  intro L a w hfree hr hy hS H;refine⟨fun h=>(by rw[h]at hr;cases hr),fun j hj=>?_⟩;by_cases e:j=i
  ·subst e;exact pc hi hy hS ⟨hS,H⟩
  ·obtain⟨hun,oj,hoj,hall⟩:=mem_ready.1 hj;have hun0:=(mem_ready.1 hr).1
   have hno:∀x∈oj.after,Region.binds md x=true->x.on≠i:=fun x hx hb hxi=>by
    have h1:=hall x hx hb;rw[hxi]at h1;by_cases hlt:i<L.size
    ·simp only[Array.getD,hlt,dif_pos]at h1 hun0;rw[hun0]at h1;cases h1
    ·simp only[Array.getD,hlt,dif_neg,not_false_eq_true]at h1;cases h1
   refine wpOpIn_mono ?_ (sB hoj (hfree j oj hoj e hun hno) (fun cs b=>Region.noSelect_spec hs i oi cs b hi) (fun cs b=>Region.noSelect_spec hs j oj cs b hoj) hQ hy (H.2 j (ready_mono hj e)));rintro a' w' ⟨hy',hS',H'⟩;refine⟨hS',ih (fun k ok hk hki hku hkn=>hfree k ok hk hki ?_ hkn) (ready_mono hr (fun h=>e h.symm)) hy' hS' ?_⟩
   ·by_cases hjk:j=k
    ·subst hjk;exact hun
    ·rw[getD_set_ne true hjk]at hku;exact hku
   ·rw[Array.setIfInBounds_comm _ _ e];exact H'
theorem ng{i:Nat}{oi:Oper}{v:Value}{f:Nat}{L:Array Bool}{a:Act}{w:World}(hi:ops[i]?=some oi)(hs:Region.noSelect ops=true)(hf:Region.free md ops L i=true)(hr:(Region.ready md ops L).contains i=true)
  (hQ:∀c b w,Q (.panic c) (b.put oi.dst v) w->Q (.panic c) b w) (hy:YieldsIf P ops S oi v a) (hS:S w) (h:yA n P md ops Q S f (L.setIfInBounds i true) (a.put oi.dst v) w):yA n P md ops Q S (f+1) L a w :=
 yA.take hi hs hQ (Region.free_spec hi hf) (by simpa using hr) hy hS h
theorem yb(i:Nat)(v:Value){oi:Oper}{f:Nat}{L:Array Bool}{a a':Act}{w:World}(hS:S w)(h:yA n P md ops Q S f (L.setIfInBounds i true) a' w)(hi:ops[i]?=some oi:=by rfl)(ha:a.put oi.dst v=a':=by conv=>lhs;simp only[C.py])(hy:YieldsIf P ops S oi v a:=by exact Or.inl ⟨by rfl,fun w hw=>(by go_simp)⟩)
 (hs:Region.noSelect ops=true:=by kernel_rfl) (hf:Region.free md ops L i=true:=by kernel_rfl) (hr:(Region.ready md ops L).contains i=true:=by kernel_rfl)
 (hQ:∀c b w,Q (.panic c) (b.put oi.dst v) w->Q (.panic c) b w:=by exact fun _ _ _ h=>h):yA n P md ops Q S (f+1) L a w:=ng hi hs hf hr hQ hy hS (ha▸h)
theorem xm{i:Nat}{oi:Oper}{f:Nat}{L:Array Bool}{a:Act}{w:World}(hi:ops[i]?=some oi)(hr:Region.ready md ops L=[i])
  (h:∀K:Act->World->Prop,(∀a' w',S w'->(S w'->yA n P md ops Q S f (L.setIfInBounds i true) a' w')->K a' w')->if Region.wanted oi (yielded ops a.tmps)=true then Oper.wpIn Fence.wide n P oi a w K Q else(∀g,oi.about P w a.eval=some g->Fence.wide.fn g)/\K (a.put oi.dst undef) w):yA n P md ops Q S (f+1) L a w :=
 ⟨fun h0=>(by rw[hr]at h0;cases h0),fun j hj=>by
  rw[hr,qT]at hj;subst hj;exact wpOpIn_step hi fun K hK=>h K fun a' w' hs hk=>hK _ _ ⟨hs,hk hs⟩⟩
theorem FH{L:Array Bool}{a:Act}{w:World}(hr:Region.ready md ops L=[])(h:Q .normal a w):∀f,yA n P md ops Q S f L a w
 | 0=>⟨hr,h⟩
 | _+1=>⟨fun _=>h,by rw[hr];simp⟩
theorem qza{id:Nat}{a:Act}{w:World}(hm:P.follows .mixedOrders=true)(hS:S w.drew)(h:S w.drew->yA n P .any ops Q S ops.size (Array.replicate ops.size false) a w.drew):(Code.region id ops true).wpIn Fence.wide n P Q a w :=
 wpIn_region_any hm (h hS).any
end
end
end Go.Proofs.YtnfakamfmkhlbabGreatDoor.C
