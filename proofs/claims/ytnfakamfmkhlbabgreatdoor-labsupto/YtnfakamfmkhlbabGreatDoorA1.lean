import Derived.Test.YtnfakamfmkhlbabGreatDoorA0
import Derived.Test.YtnfakamfmkhlbabGreatDoorProg
import Derived.Conc.MuLone
import Derived.Deep.DeepWitnessRowRef
import Derived.Deep.RegionHeld3
import Derived.Lay
import Derived.Lib.AppendIntMem
import Derived.Lib.LaidU8
import Derived.Lib.SlBytesConst
import Derived.LoopNIn
import Derived.MakeChecks
import Derived.Maps.AppendAt
import Derived.OpenShut
import Derived.OwnWalkIn
import Derived.ProofKit
import Derived.RangeFuncBound
import Derived.RangeFuncNested
import Derived.Shelf.RegionOpen
import Derived.Sort.LoopGhostIn
import Derived.WalkLawsBesides
set_option linter.all false
namespace Go.Proofs.YtnfakamfmkhlbabGreatDoor.C
theorem p1 {α:Type _}{xs:List α}{i:Nat}(h:i < xs.toArray.size):xs.toArray[i]=xs[i]'(by simpa using h):=List.getElem_toArray h
theorem p2 {α:Type _}{a:α}{bs:List α}(h:0 < (a :: bs).length):(a :: bs)[0]=a:=rfl
theorem p3 {α:Type _}{a:α}{bs:List α}{i:Nat}(h:i + 1 < (a :: bs).length):(a :: bs)[i + 1]=bs[i]'(Nat.lt_of_succ_lt_succ h):=rfl
theorem p4 {α:Type _}{l:List α}{i:Nat}{a:α}:l.toArray.setIfInBounds i a=(l.set i a).toArray:=List.setIfInBounds_toArray ..
theorem p5 {α:Type _}{a b:α}{bs:List α}:(a :: bs).set 0 b=b :: bs:=rfl
theorem p6 {α:Type _}{a b:α}{bs:List α}{i:Nat}:(a :: bs).set (i + 1) b=a :: bs.set i b:=rfl
theorem pz:(∀ (a:Act)(d:Tmp)(v:Value),a.put (some d) v={ a with tmps:=a.tmps.setIfInBounds d v })/\(∀ (a:Act)(v:Value),a.put none v=a):=⟨fun _ _ _=>rfl,fun _ _=>rfl⟩
section
variable {P:Program}{md:Region.Mode}{ops:Array Oper}{Q:Exit->Act->World->Prop}{S:World->Prop}
theorem tk (i:Nat)(v:Value){oi:Oper}{fuel:Nat}{listed:Array Bool}{a:Act}{w:World}(hi:ops[i]?=some oi)(hy:YieldsIf P ops S oi v a)(hS:S w)
 (h:wpAnyH P md ops Q S fuel (listed.setIfInBounds i true) (a.put oi.dst v) w)(hs:Region.noSelect ops=true:=by kernel_rfl)(hf:Region.free md ops listed i=true:=by kernel_rfl)(hr:(Region.ready md ops listed).contains i=true:=by kernel_rfl)
 (hQ:∀ c a w,Q (.panic c) (a.put oi.dst v) w->Q (.panic c) a w:=by exact fun _ _ _ h=>h):wpAnyH P md ops Q S (fuel + 1) listed a w:=wpAnyH_take hi hs hf hr hQ hy hS h
theorem ty (i:Nat)(v:Value){oi:Oper}{fuel:Nat}{listed:Array Bool}{a a':Act}{w:World}(hi:ops[i]?=some oi)(hy:YieldsIf P ops S oi v a)(hS:S w)
 (h:wpAnyH P md ops Q S fuel (listed.setIfInBounds i true) a' w)(ha:a.put oi.dst v=a':=by conv=>lhs; simp only [Act.put,p1,p2,p3,p4,p5,p6])
 (hs:Region.noSelect ops=true:=by kernel_rfl)(hf:Region.free md ops listed i=true:=by kernel_rfl)(hr:(Region.ready md ops listed).contains i=true:=by kernel_rfl)
 (hQ:∀ c a w,Q (.panic c) (a.put oi.dst v) w->Q (.panic c) a w:=by exact fun _ _ _ h=>h):wpAnyH P md ops Q S (fuel + 1) listed a w:=wpAnyH_take hi hs hf hr hQ hy hS (ha ▸ h)
theorem tq (i:Nat)(v:Value){oi:Oper}{fuel:Nat}{listed:Array Bool}{a a':Act}{w:World}(hS:S w)
 (h:wpAnyH P md ops Q S fuel (listed.setIfInBounds i true) a' w)(hi:ops[i]?=some oi:=by rfl)(ha:a.put oi.dst v=a':=by conv=>lhs; simp only [Act.put,p1,p2,p3,p4,p5,p6])(hy:YieldsIf P ops S oi v a:=by exact Or.inl ⟨by rfl,fun w hw=>(by go_simp)⟩)
 (hs:Region.noSelect ops=true:=by kernel_rfl)(hf:Region.free md ops listed i=true:=by kernel_rfl)(hr:(Region.ready md ops listed).contains i=true:=by kernel_rfl)
 (hQ:∀ c a w,Q (.panic c) (a.put oi.dst v) w->Q (.panic c) a w:=by exact fun _ _ _ h=>h):wpAnyH P md ops Q S (fuel + 1) listed a w:=wpAnyH_take hi hs hf hr hQ hy hS (ha ▸ h)
theorem rd (i:Nat){o:Oper}{fuel:Nat}{listed:Array Bool}{a:Act}{w:World}
 (h:∀ K':Act->World->Prop,Shut (∀ a w,S w->(S w->wpAnyH P md ops Q S fuel (listed.setIfInBounds i true) a w)->K' a w)->if Region.wanted o (yielded ops a.tmps)=true then Oper.wp P o a w K' Q else K' (a.put o.dst undef) w)
 (hr:Region.ready md ops listed=[i]:=by kernel_rfl)(ho:ops[i]?=some o:=by rfl):wpAnyH P md ops Q S (fuel + 1) listed a w:=wpAnyH_ready hr (by simp) (AllReadyH.cons ho h AllReadyH.nil)
end
end Go.Proofs.YtnfakamfmkhlbabGreatDoor.C
namespace Go.Proofs.YtnfakamfmkhlbabGreatDoor.C
theorem py:(∀ (a:Act)(d:Tmp)(v:Value),a.put (some d) v={ a with tmps:=a.tmps.setIfInBounds d v })/\(∀ (a:Act)(v:Value),a.put none v=a)/\(∀ (α:Type)(xs:List α)(i:Nat)(h:i < xs.toArray.size),xs.toArray[i]=xs[i]'(by simpa using h))/\(∀ (α:Type)(a:α)(bs:List α)(h:0 < (a :: bs).length),(a :: bs)[0]=a)/\(∀ (α:Type)(a:α)(bs:List α)(i:Nat)(h:i + 1 < (a :: bs).length),(a :: bs)[i + 1]=bs[i]'(Nat.lt_of_succ_lt_succ h))/\(∀ (α:Type)(l:List α)(i:Nat)(a:α),l.toArray.setIfInBounds i a=(l.set i a).toArray)/\(∀ (α:Type)(a b:α)(bs:List α),(a :: bs).set 0 b=b :: bs)/\(∀ (α:Type)(a b:α)(bs:List α)(i:Nat),(a :: bs).set (i + 1) b=a :: bs.set i b):=
 ⟨fun _ _ _=>rfl,fun _ _=>rfl,fun _ _ _ h=>p1 h,fun _ _ _ h=>p2 h,fun _ _ _ _ h=>p3 h,fun _ _ _ _=>p4,fun _ _ _ _=>p5,fun _ _ _ _ _=>p6⟩
end Go.Proofs.YtnfakamfmkhlbabGreatDoor.C
namespace Go
namespace RowKit
theorem Hid.a{p:Prop}(h:Hid p):p:=h
end RowKit
end Go
namespace Go.Proofs.YtnfakamfmkhlbabGreatDoor
open Go.RowKit
abbrev I0:=Array Value
abbrev I1:=List UInt8
abbrev I2:=Nat->UInt8
abbrev I3:=List ByteArray
abbrev I4:=ByteArray
abbrev I5:=Nat->Bool
abbrev I8:=Nat->BitVec 64
variable{p:Prop}
theorem X(h:p):Hid p:=h
theorem R{α:Sort _}{a:α}:a=a:=rfl
theorem Zn{α:Sort _}(a:α):∃x,Hid (a=x):=⟨a,rfl⟩
theorem Zo{α:Sort _}(a:α):∃x,a=x:=⟨a,rfl⟩
theorem O(h:p:=by omega):p:=h
theorem WR(h:p:=by kernel_rfl):p:=h
theorem WS(h:p:=by decide +kernel):p:=h
theorem WU(h:p:=by simp):p:=h
theorem WV(h:p:=by obtain⟨m,l,p,B,E,F⟩:=i;go_simp):p:=h
theorem WW(h:p:=by decide):p:=h
theorem WX(h:p:=by simp;omega):p:=h
theorem WY(h:p:=by obtain⟨G,H,v⟩:=a.pm.cells;have k:=a.pm.at d.a.wh;have l:=a.pm.at (d.a.c 0 WW);have m:=a.pm.at (d.a.c 1 WW);have n:=a.pm.at (d.a.c 2 WW);have o:=a.pm.at (d.a.c 3 WW);go_simp):p:=h
theorem WZ(h:p:=by obtain⟨A,y,x,cf,o⟩:=Rm.cells p i r j;go_simp):p:=h
theorem W8(h:p:=by have c1:=d.b1;have c2:=d.b2;have c3:=d.b3;have g:=d.ps.c (jC wh+1) O;rw[m]at g;go_simp):p:=h
theorem W9(h:p:=by have c1:=d.b1;have c2:=d.b2;have c3:=d.b3;have g:=d.ps.c (jC wh) O;rw[j]at g;go_simp):p:=h
theorem Va(h:p:=by have i:=a.1.cell d.a.own;have j:=a.1.cell d.a.oth;have k:=a.1.cell d.a.beh;go_simp):p:=h
theorem Vb(h:p:=by rfl):p:=h
theorem Vc(h:p:=by rw[YO];omega):p:=h
theorem Vd(h:p:=by have c1:=p.1.cell d.a.wh;have c2:=p.2;have c3:=p.1.cell (d.a.men (bg wh+k) VT);go_simp):p:=h
theorem Ve(h:p:=by rintro k (rfl|rfl|rfl|rfl)<;>first|exact qu O WW y|exact qu O WW ((ZE a x))|exact qu O WW ((ZE a i))|exact qu O WW ((ZE a d))):p:=h
theorem Vf(h:p:=by have q:=a.wh;have u:=a.c0;have y:=a.c1;have A:=a.c2;have B:=a.c3;go_simp):p:=h
theorem Vg(h:p:=by go_num):p:=h
theorem Vh(h:p:=by rw[IntKind.wrap_u64];omega):p:=h
theorem Vi(h:p:=by simp[Value.oneCell']):p:=h
theorem Vj(h:p:=by rw[Z3];omega):p:=h
theorem Vk(h:p:=by unfold maxLen;omega):p:=h
theorem Vl(h:p:=by simp only[Value.cells];omega):p:=h
theorem Vm(h:p:=by obtain⟨c0,c1,A,p,v,y,cf,o⟩:=Bm.cells l m r i;go_simp):p:=h
theorem Vn(h:p:=by cases wh<;>decide):p:=h
theorem Vo(h:p:=by injection e with _ e;injection e):p:=h
theorem Vp(h:p:=by rw[qM];omega):p:=h
theorem Vq(h:p:=by simpa using h):p:=h
theorem Vr(h:p:=by simp[results,Tryz.results215,go_sem]):p:=h
theorem Vs(h:p:=by unfold maxLen;show a.toArray.size<=_;rw[Ya];omega):p:=h
theorem Vt(h:p:=by simp[results,results198,go_sem]):p:=h
theorem Vu(h:p:=by rw[Int.tmod_eq_emod_of_nonneg O];omega):p:=h
theorem Vv(h:p:=by obtain⟨c0,c1,G,D,E,F,cf,A⟩:=Bm.cells p q r j;go_simp):p:=h
theorem Vw(h:p:=by rw[r.size];omega):p:=h
theorem Vx(h:p:=by rw[Array.size_setIfInBounds];exact r.size):p:=h
theorem Vy(h:p:=by rw[a.a];rfl):p:=h
theorem Vz(h:p:=by rw[xF];exact q9):p:=h
theorem VA(h:p:=by have v:=E.fa.cell u.a.wh;go_simp):p:=h
theorem VB(h:p:=by rw[<-j];have:=ZQ (w.alloc (.deferred (some []))) (.loop { state:=.ready,pending:=none,fn,tmps:=a.tmps,params:=ps,assign,body,defers:=w.heap.size });rwa[Z3]at this):p:=h
theorem VC(h:p:=by simp[results,results196,go_sem]):p:=h
theorem VD(h:p:=by simp[undef]):p:=h
theorem VE(h:p:=by simpa using b):p:=h
theorem VF(h:p:=by simp[yielded,Region.wanted]):p:=h
theorem VG(h:p:=by simpa using d):p:=h
theorem VH(h:p:=by have c1:=(qm hw.mv).1;go_simp):p:=h
theorem VI(h:p:=by simpa using e):p:=h
theorem VJ(h:p:=by rw[Zu O];exact h.p):p:=h
theorem VK(h:p:=by rw[Zu O,Zu O];exact Zt r2):p:=h
theorem VL(h:p:=by simp only[List.map_toArray,YM,Wi];exact qzw M f.a wh p o fc):p:=h
theorem VM(h:p:=by simp[a]):p:=h
theorem VN(h:p:=by simp only[qU];intro e;exact q (pE (e.trans WS))):p:=h
theorem VO(h:p:=by rw[qT]at i;subst i;exact⟨O,hK⟩):p:=h
theorem VP(h:p:=by rw[show(1:Int)=U 1#64 from WS];exact bJ r 1#64):p:=h
theorem VQ(h:p:=by unfold ev;rw[qF he];show _=(match doS n7 a.data.toList with|some (s',l)=>(s',rs++l)|none=>(n7,rs++[Me (r+1)]));rw[p8]):p:=h
theorem VR(h:p:=by split at h<;>(try split at h)<;>omega):p:=h
theorem VS(h:p:=by simpa using a):p:=h
theorem VT(h:p:=by have:=io wh;omega):p:=h
theorem VU(h:p:=by rw[r.size];exact jJ):p:=h
theorem VV(h:p:=by rw[Zs h.m];rfl):p:=h
theorem VW(h:p:=by rw[Zu O,Zu O];with_reducible exact y3):p:=h
theorem VX(h:p:=by have cw:=hw.1.at' (l2.a f B);go_simp):p:=h
theorem VY(h:p:=by unfold xN;rw[d.a,F.a,qE q,XU];rfl):p:=h
theorem VZ(h:p:=by unfold xN;rw[d.a,E.a,qE m,XK];rfl):p:=h
theorem V0(h:p:=by have e0:w.cell? ⟨W.heap.size,0,none⟩=some (svN g n):=(by rw[Zs hw.2.1];rfl);unfold svN at e0 |-;go_simp):p:=h
theorem V1(h:p:=by have c0:=o.c0;have c1:=o.c1;have c2:=o.c2;go_simp;rfl):p:=h
theorem V3(h:p:=by rw[qU];omega):p:=h
theorem V5(h:p:=by rw[g];exact q9):p:=h
theorem V6(h:p:=by simp only[List.map_toArray,YM,Wi];exact qkx _ _):p:=h
theorem V7(h:p:=by rw[f.a];exact x7):p:=h
theorem V8(h:p:=by rw[J.a];try rfl):p:=h
theorem V9(h:p:=by rw[Lib.join_cons,Lib.join_cons];simp[Lib.joinTail]):p:=h
theorem Ua(h:p:=by have c1:=i.q;obtain⟨a0,M,a1⟩:=qm i.mv;go_simp):p:=h
theorem Ub(h:p:=by cases h):p:=h
theorem Uc(h:p:=by simp only[List.map_toArray,YM,Wi];exact a5.a):p:=h
theorem Ud(h:p:=by rw[m0.a]):p:=h
theorem Ue(h:p:=by rw[Zu O];exact Zt r4):p:=h
theorem Uf(h:p:=by rw[b];exact a):p:=h
theorem Ug(h:p:=by rw[Z8 _ _ _ _ rfl];rfl):p:=h
theorem Uh(h:p:=by rw[Int.tdiv_eq_ediv_of_nonneg O];omega):p:=h
theorem Ui(h:p:=by rw[d.a,b.a];simp):p:=h
theorem Uj(h:p:=by rw[p.a];unfold yO;rw[qF en.a,a0.a];rfl):p:=h
theorem Uk(h:p:=by have y:w'.cell? ⟨w.heap.size+1,64,none⟩=some (.bool wh):=(by rw[Zs k.pa];exact l);go_simp):p:=h
theorem Ul(h:p:=by simpa using q):p:=h
theorem Um(h:p:=by unfold maxLen;show(x.data.toList.drop 2).toArray.size<=_;rw[Ya,List.length_drop];omega):p:=h
theorem Un(h:p:=by rw[o.a];rfl):p:=h
theorem Uo(h:p:=by rw[e.a];rfl):p:=h
theorem Up(h:p:=by rw[B.a];rfl):p:=h
theorem Uq(h:p:=by simpa using f):p:=h
theorem Ur(h:p:=by rw[b3.a];try rfl):p:=h
theorem Us(h:p:=by rw[h];rfl):p:=h
theorem Ut(h:p:=by rw[d];exact r.sq _ O):p:=h
theorem Uu(h:p:=by rw[Zu O];with_reducible exact y2):p:=h
theorem Uv(h:p:=by obtain⟨c0,c1,H,e,J,cs⟩:=n.cells;go_simp):p:=h
theorem Uw(h:p:=by simpa[Value.ownBlock]using a):p:=h
theorem Ux(h:p:=by rw[a,b];decide):p:=h
theorem Uy(h:p:=by rw[vl hz];exact Hg):p:=h
theorem UA(h:p:=by rw[Z3,Z3];omega):p:=h
theorem UB(h:p:=by rw[Zs Zw];exact qQ _):p:=h
theorem UD(h:p:=by rw[<-a.a];simp[xX,i];omega):p:=h
theorem UE(h:p:=by show(z t).toNat=46;omega):p:=h
theorem UF(h:p:=by have T:w.cell? ⟨Bp,64,none⟩=some (.bool wh):=(by rw[Zs P.pa];exact H);go_simp):p:=h
theorem UG(h:p:=by rw[p.a]):p:=h
theorem UH(h:p:=by rw[l.a,<-F6,<-b.a,<-b.a];exact Xy W _ _ (by rw[b.a,b.a];show 2+2<=_;decide)):p:=h
theorem UI(h:p:=by with_reducible exact y1):p:=h
theorem UJ(h:p:=by simp only;omega):p:=h
theorem UK(h:p:=by rw[qn h.mv];rfl):p:=h
theorem UL(h:p:=by have a8:=E.1.fa.cell u.a.beh;go_simp):p:=h
theorem UM(h:p:=by cases wh<;>simp[bg]):p:=h
theorem UN(h:p:=by rw[h.1];unfold depI;rw[l]):p:=h
theorem UO(h:p:=by rw[Zu (by have:=h.lm;omega)];exact h.m):p:=h
theorem UP(h:p:=by rw[YF];omega):p:=h
theorem UQ(h:p:=by first|exact .inl rfl|exact .inr rfl):p:=h
theorem UR(h:p:=by have:=(qB.1 e).1;omega):p:=h
theorem US(h:p:=by unfold zO;rw[qE (show ¬ t/8=0 from O),qE (show ¬ t/8=7 from O)];rfl):p:=h
theorem UT(h:p:=by have:=b.a.2;rw[Xt]at this;omega):p:=h
theorem UU(h:p:=by have:=x.b2;omega):p:=h
theorem UV(h:p:=by have:=x.b1;omega):p:=h
theorem UW(h:p:=by simp[h]):p:=h
theorem UX(h:p:=by rw[d];exact q9):p:=h
theorem UY(h:p:=by rw[Array.getElem?_extract,qI Vw,Z2];exact r.sq i k):p:=h
theorem UZ(h:p:=by have o:=n.1.cell b.a.wh;go_simp):p:=h
theorem U0(h:p:=by unfold ur;split<;>simp):p:=h
theorem U1(h:p:=by rw[ZX,r.size];exact jJ):p:=h
theorem U2(h:p:=by simp at d;omega):p:=h
theorem U3(h:p:=by rw[World.size_setCell];exact h.sz):p:=h
theorem U4(h:p:=by first|(simp;done)|(simp;omega)):p:=h
theorem U6(h:p:=by rw[h9.a];rfl):p:=h
theorem U7(h:p:=by have:=xe j.p;have:=j.lo;omega):p:=h
theorem U8(h:p:=by unfold zW;rw[b.a]):p:=h
theorem U9(h:p:=by rw[vl xF];exact Hg):p:=h
theorem Ta(h:p:=by rw[qn E];rfl):p:=h
theorem Tc(h:p:=by rw[b.a];rfl):p:=h
theorem Td(h:p:=by rw[D.a];rfl):p:=h
theorem Te(h:p:=by unfold yx;simp[F]):p:=h
theorem Tf(h:p:=by simp[e]):p:=h
theorem Tg(h:p:=by rw[e];rfl):p:=h
theorem Th(h:p:=by obtain⟨c,ty,fr,q1,a⟩:=h.2;exact⟨c,ty,fr,q1,(ZE g a)⟩):p:=h
theorem Ti(h:p:=by unfold wrap64;omega):p:=h
theorem Tj(h:p:=by rw[b.a,hN.a]):p:=h
theorem Tk(h:p:=by rw[a.a];exact h.a):p:=h
theorem Tl(h:p:=by rw[a.1]at e;cases e):p:=h
theorem Tn(h:p:=by rw[<-Q.a];cases wh<;>decide):p:=h
theorem To(h:p:=by rw[v];unfold maxLen;omega):p:=h
theorem Tp(h:p:=by rw[j.a];rfl):p:=h
theorem Tq(h:p:=by have h1:=(H.a.gr r).b1;have h2:=(H.a.gr r).b4;omega):p:=h
theorem Tr(h:p:=by rw[<-this];simp[q]):p:=h
theorem Ts(h:p:=by rw[<-this];exact a):p:=h
theorem Tt(h:p:=by have:=hD _ q;omega):p:=h
theorem Tu(h:p:=by have:=ZR n;omega):p:=h
theorem Tv(h:p:=by have:10 ^ s.size<=10 ^ 9:=X8 O O;omega):p:=h
theorem Tw(h:p:=by cases b<;>simp[bg]):p:=h
theorem Tx(h:p:=by rw[r];omega):p:=h
theorem Ty(h:p:=by rw[c4.a];rfl):p:=h
theorem T0(h:p:=by rw[b3.a];rfl):p:=h
theorem T1(h:p:=by rw[f];rfl):p:=h
theorem T6(h:p:=by with_reducible exact z2):p:=h
theorem T7(h:p:=by rw[qn q.cw.c];rfl):p:=h
theorem T8(h:p:=by rw[f];exact q9):p:=h
theorem SM(h:p:=by rw[BW];simp[x]):p:=h
theorem Ri(h:p:=by rw[BW];simp[a]):p:=h
theorem RA(h:p:=by cases wh<;>rfl):p:=h
theorem Oa(h:p:=by unfold xE;split<;>(try split)<;>(try split)<;>omega):p:=h
theorem Ob(h:p:=by unfold hN;split<;>omega):p:=h
theorem Oc(h:p:=by rw[Zu O];exact j):p:=h
theorem Od(h:p:=by rw[Zu O];exact i):p:=h
theorem Oe(h:p:=by rw[Int.tmod_eq_emod_of_nonneg O];exact m1):p:=h
theorem Og(h:p:=by simp only[Yj,not_or];exact⟨λe=>d e.symm,g⟩):p:=h
theorem Oh(h:p:=by rw[g];exact a):p:=h
theorem Oi(h:p:=by rw[d];simp):p:=h
theorem Oj(h:p:=by rw[a.a,qI rfl];apply ByteArray.ext;simp[xJ]):p:=h
theorem Ol(h:p:=by rw[<-j];exact(YP _ _ _ WU).trans (ZQ w _)):p:=h
theorem Om(h:p:=by simp[List.isPrefixOf];exact λe=>a e.symm):p:=h
theorem On(h:p:=by rw[xl f.a];exact ky):p:=h
theorem Oo(h:p:=by rw[qU];exact hk):p:=h
theorem Oq(h:p:=by rw[Zz g h.lt];exact h.p):p:=h
theorem Ot(h:p:=by have:=g0.a;rw[p7]at this;simpa using this.symm):p:=h
theorem Ou(h:p:=by rw[c2];omega):p:=h
theorem Ov(h:p:=by rw[c1];omega):p:=h
theorem Ow(h:p:=by simp only[Yq];omega):p:=h
theorem Ox(h:p:=by rcases b with rfl|rfl|rfl|rfl|rfl|rfl<;>omega):p:=h
theorem Oy(h:p:=by obtain⟨c,ty,fr,q1,a⟩:=h.2;exact(qB.1 a).1):p:=h
theorem Zp(h:p:=by
 refine ZT (S:=Pl w PA f t u) WR k.drew (λj=>?_);skip;refine tq 0 (ZI (w.heap.size+1)) j ?_;refine ZB 1 (I L f) rfl (λw hw=>VH) j ?_;refine tq 2 (I L d) j ?_;refine tq 3 (ZI (w.heap.size+1)) j ?_;refine ZB 4 (I L f) rfl (λw hw=>VH) j ?_;refine tq 5 (I L a) j ?_;refine tq 6 (ZI (w.heap.size+1)) j ?_;refine ZB 7 (I L f) rfl (λw hw=>VH) j ?_;refine tq 8 (I L a) j ?_;refine tq 9 (.pointer (S ⟨w.heap.size+3,a,N⟩)) j ?_;have G:D.drew.heap[w.heap.size+3]?=S (Z F 67):=l;have g1:=n6 n.a.2 G a l3;have g2:=n6 n.a.2 G d l1;have g3:=xr (i:=d) G;refine rd 10 λK hK=>?_;go_simp;refine hK.out _ _ j λj=>?_;clear hK K;refine tq 11 (.pointer (S ⟨w.heap.size+3,d,N⟩)) j ?_;refine rd 12 λK hK=>?_;go_simp;refine hK.out _ _ (j.set d _) λj=>?_;clear hK K;have o:=qv (i:=d) (v:=I Zg (q a).toNat) G;have J:Y (cT (vW q d (q a)) (F.setIfInBounds d (I Zg (q a).toNat))):=X (n.a.set d (q a));change Pl w PA f t u (D.drew.setCell ⟨w.heap.size+3,d,N⟩ (I Zg (q a).toNat))at j;change wpAnyH _ _ _ _ _ _ _ _ (D.drew.setCell ⟨w.heap.size+3,d,N⟩ (I Zg (q a).toNat));generalize D.drew.setCell ⟨w.heap.size+3,d,N⟩ (I Zg (q a).toNat)=wa at j o |-;generalize F.setIfInBounds d (I Zg (q a).toNat)=A7 at o J;have g4:=n6 J.a.2 o a l3;have g5:=xr (i:=a) o;refine tq 13 (.pointer (S ⟨w.heap.size+3,a,N⟩)) j ?_;refine rd 14 λK hK=>?_;go_simp;refine hK.out _ _ (j.set a _) λj=>?_;clear hK K;have P:=qv (i:=a) (v:=I Zg 46) o;have T:Y (cT (zE z b (f,t,u)) (A7.setIfInBounds a (I Zg 46))):=X (by rw[g8.a];exact J.a.set a 46);change Pl w PA f t u (wa.setCell ⟨w.heap.size+3,a,N⟩ (I Zg 46))at j;change wpAnyH _ _ _ _ _ _ _ _ (wa.setCell ⟨w.heap.size+3,a,N⟩ (I Zg 46));generalize wa.setCell ⟨w.heap.size+3,a,N⟩ (I Zg 46)=wb at j P |-;generalize A7.setIfInBounds a (I Zg 46)=A8 at P T;refine ZZ WR ?_ _;obtain⟨E,r2,r3,r4,r5⟩:=a1.a _ _ T.a j P;have B:=j.rs;clear k l G o g1 g2 g3 g4 g5 b1 b2 b3 b4 j J n;go_wp2_with(first
  | (refine ZV rfl 67 _ rfl (w.heap.size+3) rfl 67 A8 (0,0) _ P underlying67 rfl E ?_)
  | (refine ZU rfl 67 _ _ rfl (w.heap.size+2) A8 rfl rfl 67 kQ B E r2.symm r3 ?_))
 exact ZS (v:=Zc A8) (Yp results98 _ _ (w.heap.size+2) 67 A8 (0,0) _ rfl r4 underlying67 rfl E) rfl ⟨_,rfl,T.a,r5⟩):p:=h
theorem ZK(h:p:=by have d:=X (a.a.1 WU);clear a p;go_wp2_with(refine ZC w.heap.size zeroCells70 hR.a.2.1 xF xH ?_);exact ZS (v:=Ze #[Zc zeroCells70,Za Zl]) (qj results62 _ _ w.heap.size 70 _ (0,0) _ R (Zt hR.a.2.1) underlying70 rfl Vz) R ⟨d.a,hR.a.2.2.2.2.2.setRow _ Zy _⟩):p:=h
theorem ZM(h:p:=by rw[c3,l]at a;rw[c1,c2]at b;try rw[a];try rw[b];have k:Y (yd x y=Zk\/yg x y=Zk):=X Ux;clear a b;go_enter func247,ntmps247;go_wp2_with(first|(go_at_call 197;refine Z1 (xh _ O O _) ?_)|(refine ZV R 67 _ R w.heap.size R 67 A (0,0) _ Zv underlying67 rfl (by rw[o];exact x7) ?_)|(go_at_call 299;refine Z0 (zh A f m.a x y d g h j (pI x y) (LI x y) (FC x y d g h j k.a) (IX x y) (FF x y) (FD x y d g h j k.a) (Dp x y d g h j k.a) (FE x y d g h j k.a) _) λw' n=>?_));go_ret;exact⟨R,ZN.trans n⟩):p:=h
theorem Ww(h:p:=by
 skip;go_wp2_with(first
  | (go_at_call 196;refine Z1 (q.a d G _) ?_)
  | (go_at_call 116;refine Z0 (y.a _) λa1 a=>?_;obtain⟨e,J,K⟩:=v.a _ (Gr.trans l.a a);have m:=X (Gr.trans l.a a);clear a)
  | (refine ql Vb _ R w.heap.size R a0 p.a ?_))
 go_roundg C
 case measure=>omega
 case rel=>exact⟨d+1,O,R,m.a,n.a⟩):p:=h
theorem Wx(h:p:=by
 rw[c1,c2]at b;try rw[a]
 try rw[b]
 clear a b;go_enter func247,ntmps247;go_wp2_with((go_at_call 197;refine Z1 (xh _ O O _) ?_));go_ret;exact⟨R,ZN⟩):p:=h
theorem Wy(h:p:=by go_enter func195,ntmps195;go_wp2;go_ret;exact⟨R,R⟩):p:=h
theorem Wz(h:p:=by go_wp2;go_ret;exact⟨R,R⟩):p:=h
theorem WA(h:p:=by
 have a:=X f;have b:=X h;clear f h;obtain⟨e,hN⟩:∃e,e=T.length:=⟨_,R⟩;rw[<-hN]at i |-;go_enter func27,ntmps27;go_upto_region 3 with fail;go_wp2_with fail;go_loopg [5] e (λg v wr=>∃(j d:Nat),j+g=e/\v=I L j/\wr=w.drewN d)
 case atStart=>exact⟨0,0,O,R,R⟩
 case round=>
  obtain⟨j,d,x,rfl,rfl⟩:=hrel;by_cases m:j<e
  .obtain⟨r,rfl,n⟩:=a.a j O;obtain⟨u,rfl,o⟩:=b.a j O;have k:0<=(j:Int):=O;have l:(j:Int)<e:=O;generalize T[j]' O=y at n o;have q:=i6 y;go_upto_region 6 with fail;go_quiet(fail);all_goals
    go_wp2;go_roundg (gk-1)
    case measure=>omega
    case rel=>exact⟨j+1,_,O,Vg,R⟩
  .have p:j=e:=O;go_wp2;go_ret;exact⟨R,Gr.drewN (Gr.refl w) _⟩):p:=h
theorem WB(h:p:=by go_ret;exact⟨R,R⟩):p:=h
theorem WC(h:p:=by
 go_wp2_with(first
  | (refine ZV rfl 67 _ rfl (w.heap.size+3) rfl 67 F (0,0) _ l underlying67 rfl E ?_)
  | (refine ZU rfl 67 _ _ rfl (w.heap.size+2) F rfl rfl 67 kQ B E r2.symm r3 ?_))
 exact ZS (v:=Zc F) (Yp results98 _ _ (w.heap.size+2) 67 F (0,0) _ rfl r4 underlying67 rfl E) rfl ⟨_,rfl,y.a,r5⟩):p:=h
theorem WE(h:p:=by go_wp2;go_quiet(fail);go_wp2;go_ret;exact⟨Uo,Gr.trans u.a (Gr.drewN (a.a.alloc _ _) _)⟩):p:=h
theorem WF(h:p:=by subst e;clear a;go_enter func144,ntmps144;go_wp2;go_ret;exact⟨R,ZN⟩):p:=h
theorem WG(h:p:=by go_enter func144,ntmps144;go_wp2;go_ret;exact⟨R,ZN⟩):p:=h
theorem WH(h:p:=by
 clear f T H G u F;cases E
 .go_wp2_with(first
   | (refine Yo R 117 _ R b6 0 R QB.toList _ D underlying117 rfl Ri ?_;rw[Yb])
   | (refine Yo R 117 _ R (w.heap.size+1) 0 R Q.toList _ c6 underlying117 rfl SM ?_;rw[Yb])
   | (refine ax R _ _ R R R CQ.a ?_))
  go_ret2;exact⟨Zi R,M.a⟩
 .have hp:=J.a R;subst hp;go_wp2_with(first
   | (refine Yo R 117 _ R b6 0 R QB.toList _ D underlying117 rfl Ri ?_;rw[Yb])
   | (refine Yo R 117 _ R (w.heap.size+1) 0 R Q.toList _ c6 underlying117 rfl SM ?_;rw[Yb])
   | (refine ax R _ _ R R R CQ.a ?_))
  go_ret2;exact⟨Zj R,M.a⟩):p:=h
theorem WI(h:p:=by clear a;go_wp2_with(refine ZU R 87 _ _ R w.heap.size #[I L 0,I L 0,I Zg 0] R R 87 #[I L 0,I L 0,I Zg 0] k xW R Vi ?_);exact ZS (v:=Ze #[Zc #[I L 0,I L 0,I Zg 0],Za Zl]) (qj results56 _ _ w.heap.size 87 _ (0,0) _ R (Zt k) underlying87 rfl xW) R ⟨Tc,i.a.setRow _ Zy _⟩):p:=h
theorem WJ(h:p:=by
 rw[c3,k]at a;rw[c1,c2]at b;try rw[a]
 try rw[b]
 have l:Y (yd x y=Zk\/yg x y=Zk):=X Ux;clear a b;go_enter func247,ntmps247;go_wp2_with(first|(go_at_call 197;refine Z1 (xh _ O O _) ?_)|(refine ZV R 67 _ R w.heap.size R 67 A (0,0) _ Zv underlying67 rfl (by rw[q];exact x7) ?_)|(go_at_call 299;refine Z0 (zh A f m.a x y d g h j (pI x y) (LI x y) (FC x y d g h j l.a) (IX x y) (FF x y) (FD x y d g h j l.a) (Dp x y d g h j l.a) (FE x y d g h j l.a) _) λw' n=>?_));go_ret;exact⟨R,ZN.trans n⟩):p:=h
theorem WK(h:p:=by
 skip;have M:Y (V=xB f n 0):=X Uj;clear p a;go_wp2_with(first
  | (refine ZV R 186 _ R (w.heap.size+2) R 186 (xB f n 0) (0,0) _ F.a underlying186 rfl vI ?_)
  | (refine ZU R 186 _ _ R (w.heap.size+1) (xB f n 0) R R 186 (xB Zl 0 0) B.a vI R (xw _ _ _) ?_))
 exact ZS (v:=Zc (xB f n 0)) (Yp results112 _ _ (w.heap.size+1) 186 (xB f n 0) (0,0) _ R (Zt B.a) underlying186 rfl vI) R ⟨by rw[M.a],Gr.setRow g7.a _ O _⟩):p:=h
theorem WL(h:p:=by refine ZB 11 (Za Zl) R (λw i=>WV) j ?_;refine ZB 12 (Za Zl) R (λw i=>WV) j ?_;refine ZA 13 j ?_;refine ZA 14 j ?_;refine ZA 15 j ?_;refine ZA 16 j ?_;refine ZA 17 j ?_;refine ZA 18 j ?_;refine ZA 19 j ?_;refine ZA 20 j ?_;refine ZA 21 j ?_;refine ZA 22 j ?_;refine ZA 23 j ?_;refine ZB 24 (Za Zl) R (λw i=>WV) j ?_;refine ZZ WR ?_ _;gi_wp2;exact m1.a _ _ _ _ a9.a.drew (Fr.drew ZP) Ud Ud Ud):p:=h
theorem WM(h:p:=by go_ret;exact⟨R,ZN⟩):p:=h
theorem WN(h:p:=by
 obtain E|E:=E;all_goals
  obtain⟨u,x,y,z,A,B,C,D,rfl⟩:=uU hR.a;clear hR;go_wp2;go_region;go_wp2_with(go_at_call 200;refine Z1 (Tryz.strings_IndexByte _ _ _) ?_);refine ZS (v:=Ze #[Zc #[I Zg u,I Zg x,I Zg y,I Zg z,I Zg A,I Zg B,I Zg C,I Zg D],Za Zl]) Vr R ⟨Zj ⟨l.a,_,_,_,_,_,_,_,_,R⟩,?_⟩
  repeat(first|exact ZO|apply Gr.drew|apply Gr.drewN|apply Gr.alloc)):p:=h
theorem WO(h:p:=by
 go_wp2_with(go_at_call 190;refine Z0 (a9.a _ _) λw5 a=>?_;have c2:=(ZW a (p:=⟨r,2,N⟩) i).trans c2;have M:=(ZW a (p:=⟨w.heap.size+1,0,N⟩) g).trans M;have m1:=(ZW a (p:=⟨w.heap.size+1,1,N⟩) g).trans m1;have m2:=(ZW a (p:=⟨w.heap.size+1,2,N⟩) g).trans m2;have b:=b.next a;have i:=qN i (ZR a);have g:=qN g (ZR a));go_meet
 case rel=>exact⟨Un,b⟩):p:=h
theorem WP(h:p:=by clear F v x i d C D;go_wp2_with fail;go_ret;obtain⟨j,l,m,n,rfl,rfl,rfl,rfl,V,J⟩:=r.a;exact⟨_,_,_,_,R,V,J⟩):p:=h
theorem WQ(h:p:=by
 have e5:0<=(n:Int):=O;have e6:(n:Int)<64:=O;have cn:=F.at (b7.a n a8);have B:Y (V=(((z n).toNat:Int)==46)):=X (by
  rw[d2.a,qJ d3,hn.a];by_cases e:z n=46
  .rw[e];rfl
  .have:¬ ((z n).toNat:Int)=46:=λq=>e (q6.1 (by show(z n).toNat=46;omega));rw[qE e,qM.2 this];rfl)
 clear d3 d1 hn;go_wp2_with fail;go_ret;exact⟨Up,j.a⟩):p:=h
theorem Oz(h:p:=by
 rw[qF c1];by_cases c2:n=f
 .rw[qI c2,xp];refine⟨λe=>O,λe=>?_⟩;have:=(d f a.hf).2 (c2.symm.trans e);rw[a.hc]at this;omega
 .rw[qF c2];by_cases c3:n=cs
  .rw[qI c3,xp];refine⟨λe=>O,λe=>?_⟩;have:=(d n j).2 e;obtain g|g:=l
   .exact absurd (c3.trans g) c1
   .rw[c3,g]at this;omega
  .rw[qF c3];exact d n j):p:=h
theorem OA(h:p:=by
 refine rd 6 λK hK=>?_;go_simp;refine Z0 (v.a _ i.k.ct.tab i.k.tb.cas i.k.ct.homes) λa4 q=>?_;have j:=(ZE q j);refine hK.out _ _ (i.next x q) λi=>?_;clear hK K;try simp only[py]
 refine tq 7 (Ze #[Zc (ZJ f t u),Za ok]) i ?_;refine tq 8 (Zc (ZJ f t u)) i ?_;refine tq 9 (Za ok) i ?_;generalize a4=M at j i |-):p:=h
theorem OB(h:p:=by
 go_wp2_with fail;go_meet
 case rel=>exact⟨UG,R⟩):p:=h
theorem OC(h:p:=by repeat(first|exact ZO|apply Gr.drew|apply Gr.drewN|apply Gr.alloc)):p:=h
theorem OD(h:p:=by
 go_wp2_with fail;go_meet
 case rel=>exact⟨V8,R⟩):p:=h
theorem OE(h:p:=by rw[qQ a]at this;rw[qP this];rfl):p:=h
theorem OF(h:p:=by
 subst a5;clear z1 z2 w7 M;go_upto_region 18 with(go_at_call 110;refine Z0 (k.a _) λV E=>?_);have c4:=X (h6.a.next E);obtain⟨n0,n1,n2⟩:=qm c4.a.mv;clear E;go_wp2_with fail;go_meet
 case rel=>exact⟨Ur,c4.a⟩):p:=h
theorem OG(h:p:=by
 refine F.mono ?_;rintro e W4 ⟨f4,⟨rfl,M⟩|⟨rfl,E⟩⟩
 .gi_wp2;go_end0;exact⟨⟨_,R⟩,Zi (by rw[<-h.a];exact M)⟩
 .gi_wp2;go_end0;exact⟨⟨_,R⟩,Zj ⟨_,by rw[<-h.a];exact List.prefix_refl _,E⟩⟩):p:=h
theorem OH(h:p:=by split at h<;>(try split at h)<;>omega):p:=h
theorem OI(h:p:=by
 refine ZB 15 (Za Zk) R (λw j=>WZ) l ?_;refine ZZ WR ?_ _;have B:=X l;clear l hR;go_wp2_with fail;go_roundg (gk-1)
 case measure=>omega
 case rel=>exact⟨k+1,O,Vg,by rw[m.a.1],by rw[m.a.2.1],by rw[m.a.2.2],B.a⟩):p:=h
theorem OJ(h:p:=by
 refine rd 5 λK hK=>?_;go_simp;refine Z0 (p.a _ d.k.ct.tab d.k.tb.cas) λJ r=>?_;have j:=(ZE r j);refine hK.out _ _ (d.next x r) λd=>?_;clear hK K;try simp only[py]
 generalize J=b3 at j d |-):p:=h
theorem OL(h:p:=by rcases a with rfl|rfl|rfl|rfl<;>decide):p:=h
theorem OM(h:p:=by
 gi_wp2_with ((with_reducible apply YB);(first|exact trivial|(intro _ _;trivial)));go_roundw
 case rel=>exact⟨k+1,O,R,c0,j.a,by rw[i.a];exact a.a⟩
 case measure=>simp only[intOf];omega):p:=h
theorem ON(h:p:=by
 go_wp2_with(first
  | (go_at_call 291;refine Z0 M.a λw3 a5=>?_)
  | (go_at_call 159;refine Z0 (J.a _ a5) λw4⟨a2,a3⟩=>?_;have z:=X (YB a2 a3);clear a2 a3))
 go_end0;exact⟨R,z.a⟩):p:=h
theorem OO(h:p:=by
 have c3:=K.cell c0 (λ_ _=>Zi (Zi R));have c4:=j.a.fr K (λ_ _=>Zi (Zj R));gi_wp2;go_roundw
 case rel=>exact⟨k+1,O,R,c3,c4,by rw[u.a];exact A⟩
 case measure=>simp only[intOf];omega):p:=h
theorem OP(h:p:=by
 go_wp2_with fail;go_meet
 case rel=>exact⟨Ty,R⟩):p:=h
theorem OQ(h:p:=by clear F a9 hg a7;go_wp2_with(go_at_call 196;refine Z1 (d4.a _) ?_);go_quiet((go_at_call 195;exact YT (f2.a _ _ UQ)));go_wp2;go_ret;exact⟨Vy,Gr.trans o.a (Gr.drewN i.a _)⟩):p:=h
theorem OR(h:p:=by
 go_wp2_with fail;go_roundg (gk-1)
 case measure=>omega
 case rel=>exact⟨k+1,O,Vg,Tj,h.a⟩):p:=h
theorem OS(h:p:=by rw[c3,l]at a;rw[c1,c2]at b;try rw[a];try rw[b];clear a b;go_enter func247,ntmps247;go_wp2_with((go_at_call 197;refine Z1 (xh _ O O _) ?_));go_ret;exact⟨R,ZN⟩):p:=h
theorem OT(h:p:=by refine ZZ WR ?_ _;go_wp2_with fail;go_ret;exact⟨R,a.gr⟩):p:=h
theorem OU(h:p:=by go_wp2;go_ret;first|exact⟨R,R⟩|exact⟨xo e.symm,R⟩):p:=h
theorem OV(h:p:=by
 obtain h|h|h:=h
 .omega
 .omega
 .have:=dt s O;rw[h.2]at this;simpa using this.symm):p:=h
theorem OW(h:p:=by
 obtain q|q:=q
 .exact Or.inl q
 .right;have:=dt s O;rw[this]at q;have:s[0]≠48:=λe=>q (by rw[e]);simp only[qM];intro e;exact this (q6.mp WX)):p:=h
theorem OX(h:p:=by refine ZZ WR ?_ _;go_wp2_with fail;exact ZS (qj results278 _ _ w.heap.size 70 _ (0,0) _ R (Zt a0) underlying70 rfl T8) R ⟨g.a,a.gr⟩):p:=h
theorem OY(h:p:=by simpa using this):p:=h
theorem OZ(h:p:=by
 go_wp2_with fail;go_meet
 case rel=>exact⟨R,R⟩):p:=h
theorem O0(h:p:=by clear P Q;go_wp2_with(go_at_call 69;refine Z0 (hN.a _) λw5 j=>?_);have B:=X (Gr.trans d.gr j);clear d j;go_ret;exact⟨Td,B.a⟩):p:=h
theorem O1(h:p:=by rcases this with rfl|rfl|rfl|rfl<;>rfl):p:=h
theorem O2(h:p:=by go_wp2;go_ret;exact⟨Vy,s9.a⟩):p:=h
theorem O3(h:p:=by
 clear H E v h1 D Q T hV;go_wp2_with fail;all_goals
  go_meet
  case rel=>exact⟨by first|(rw[h3.a];done)|(rw[h3.a];simp[*]),R⟩):p:=h
theorem O4(h:p:=by go_enter Tryz.func217,Tryz.ntmps217;go_wp2;go_ret2;exact⟨a.a,R⟩):p:=h
theorem O5(h:p:=by go_wp2_with fail;go_ret2;exact⟨a.a _ _,F⟩):p:=h
theorem O6(h:p:=by go_simp;refine hK.out _ _ l λl=>?_;clear hK K;refine ZZ WR ?_ _;go_wp2_with fail;go_ret;exact⟨by rw[hN.a];rfl,l.2⟩):p:=h
theorem O7(h:p:=by exact absurd (Xn List.length h) (by simp[zF])):p:=h
theorem O8(h:p:=by
 intro k a;obtain⟨rfl,_⟩|⟨g,cap,cur,rfl,b,_⟩:=h.2
 .simp[Value.ownBlock]at a
 .simp[Value.ownBlock]at a;omega):p:=h
theorem O9(h:p:=by
 intro q a;obtain⟨rfl,_⟩|⟨b,cap,cur,rfl,d,_⟩:=h.2
 .simp[Value.ownBlock]at a
 .obtain rfl:b=q:=Uw;exact d):p:=h
theorem No(h:p:=by
 intro k a;obtain⟨rfl,_⟩|⟨g,cap,cur,rfl,b,_⟩:=h.2
 .simp[Value.ownBlock]at a
 .obtain rfl:g=k:=Uw;exact b):p:=h
theorem MW(h:p:=by go_ret2;exact⟨R,R⟩):p:=h
theorem JE(h:p:=by
 have b3:=X w3;subst J;clear m d A x k l v D x3 b2 w3;go_wp2_with fail;go_meet
 case rel=>exact⟨T0,H.a⟩):p:=h
theorem Ia(h:p:=by subst y;have z:Y (xJ (uY f t 0)=k):=X Oj;clear a;go_wp2_with fail;go_ret;exact⟨by rw[z.a];rfl,q.a⟩):p:=h
theorem Ic(h:p:=by obtain⟨B,b,d,_⟩:=FM s p a;have:=gC b d;exact⟨jV p,Zk,R,this.1,this.2,λ_=>⟨p,a,R⟩,λh=>Ub⟩):p:=h
theorem Id(h:p:=by have B:Y (V=Zl):=X (by rw[d2.a,qE d1,qE o];rfl);clear d1 o;go_wp2_with fail;go_ret;exact⟨Up,j.a⟩):p:=h
theorem Ie(h:p:=by
 go_wp2_with(first
  | (go_at_call 115;refine Z1 (g9.a _ _) ?_))
 go_ret;exact⟨by rw[a5.a];rfl,j.a⟩):p:=h
theorem If(h:p:=by
 by_cases e:z t=46
 .rw[e];rfl
 .have:((z t).toNat:Int)≠46:=λq=>e (q6.1 UE);rw[qU.2 this,qE e];rfl):p:=h
theorem Ih(h:p:=by obtain⟨q,l,e⟩:=jw g s v;rw[e]at h;injection h with h _;exact absurd h.symm (FR (q%8) O 0 O).2):p:=h
theorem Ii(h:p:=by obtain⟨⟨v,base,rfl,_,g⟩,d⟩:=h;obtain⟨p1,c1,rfl,b⟩:=PH g;exact⟨⟨p1,c1,R,b⟩,d⟩):p:=h
theorem Ij(h:p:=by
 have:i=0\/i=1\/i=2\/i=3:=O;obtain rfl|rfl|rfl|rfl:=this
 .exact c0
 .exact c1
 .exact c2
 .exact c3):p:=h
theorem Ik(h:p:=by have h:((n:Int)-8).toNat=n-8:=O;have i:((n:Int)+8).toNat=n+8:=O;unfold xX;rw[e,f,g,h,i,YE];rfl):p:=h
theorem Im(h:p:=by obtain⟨q,l,e⟩:=jw f t u;rw[e]at h;injection h with h _;exact absurd h (FR (q%8) O 0 O).2):p:=h
theorem In(h:p:=by go_wp2;go_ret;exact⟨Vy,s7.a _ _⟩):p:=h
theorem Io(h:p:=by show(match f (Lib.join [a,b,c,d] [32]++zoT)with|some x=>(prs r).map (x,·)|none=>N)=_;rw[h]):p:=h
theorem Ip(h:p:=by
 go_meet
 case rel=>exact⟨Ur,P.a⟩):p:=h
theorem Iq(h:p:=by
 by_cases e:u=0
 .subst e;rfl
 .have:(u.toNat:Int)≠0:=λh=>e (q6.1 Vq);rw[qU.2 this,qJ e]):p:=h
theorem Ir(h:p:=by
 go_wp2_with fail;go_roundg (gk-1)
 case measure=>omega
 case rel=>exact⟨k+1,O,Vg,C.a⟩):p:=h
theorem Is(h:p:=by unfold recP;rw[e];show(match f (h++zoT)with|some a=>(pL t).map (a,·)|none=>N)=_;rw[b]):p:=h
theorem Iu(h:p:=by
 split
 .omega
 .split<;>omega):p:=h
theorem Iv(h:p:=by
 go_roundg (gk-1)
 case measure=>omega
 case rel=>exact⟨k+1,O,Vg,Tj,Gr.trans h.a q⟩):p:=h
theorem Iw(h:p:=by
 go_meet
 case rel=>exact⟨Td,R⟩):p:=h
theorem Iy(h:p:=by simp[World.setCell,d,Array.getElem_modify,a]):p:=h
theorem Iz(h:p:=by gi_wp2;refine⟨λ_ h=>Ub,?_⟩;gi_wp2;exact⟨ZP,R,Zi (by rw[e.a];exact a2)⟩):p:=h
theorem IA(h:p:=by unfold zQ at h;rw[k.cap]at h;injection h with h _;exact absurd h.symm (E9 j A)):p:=h
theorem IB(h:p:=by
 go_wp2_with fail;go_meet
 case rel=>exact⟨_,R,w6.a,by rw[p.a];exact F.a⟩):p:=h
theorem IC(h:p:=by
 go_wp2_with fail;go_meet
 case rel=>exact⟨_,R,G.a,by rw[T.a];exact b0.a⟩):p:=h
theorem ID(h:p:=by
 constructor
 .rintro⟨a,b⟩;omega
 .rintro(⟨a,b⟩|⟨a,b,c,d⟩)<;>omega):p:=h
theorem IE(h:p:=by rw[UInt8.ofNat_toNat]at this;exact this h):p:=h
theorem IF(h:p:=by unfold zQ at h;rw[d.cap]at h;injection h with h _;exact absurd h (E9 i w)):p:=h
theorem IG(h:p:=by refine⟨by simp[r.size],λi a=>?_⟩;rw[Xu,Yv,qI a,qO];exact r.sq i a):p:=h
theorem IH(h:p:=by rw[qz O];exact r.sq j a):p:=h
theorem II(h:p:=by go_enter func190,ntmps190;go_wp2_with fail;go_ret;exact⟨R,b.a⟩):p:=h
theorem IJ(h:p:=by go_enter func102,ntmps102;go_wp2_with fail;go_ret;exact⟨R,a.a⟩):p:=h
theorem IK(h:p:=by obtain⟨E,r2,r3,r4,r5⟩:=a1.a _ _ y.a k l;have B:=(k).rs;clear m Q R v n;go_upto_region 11 with(first|(go_at_call 121;refine(g6.a _).mono ?_;rintro e w' ⟨rfl,rfl⟩)|(go_at_call 120;refine(a2.a _).mono ?_;rintro e D ⟨rfl,rfl⟩));exact WC):p:=h
theorem IL(h:p:=by obtain⟨u,x,y,z,A,B,C,D,rfl⟩:=uU hR.a;clear hR;go_wp2;go_region;go_wp2;refine ZS (v:=Ze #[Zc #[I Zg u,I Zg x,I Zg y,I Zg z,I Zg A,I Zg B,I Zg C,I Zg D],Za Zl]) Vr R ⟨Zj ⟨l.a,_,_,_,_,_,_,_,_,R⟩,?_⟩;exact OC):p:=h
theorem IM(h:p:=by go_wp2_with(first|(go_at_call 251;refine(qkl _ _).mono ?_;rintro e w' ⟨rfl,rfl⟩)|(go_at_call 252;refine(qj9 _ _).mono ?_;rintro e w' ⟨rfl,rfl⟩)|(go_at_call 253;refine Z1 (Dw _ _ _ WW WW) ?_));exact WB):p:=h
theorem IN(h:p:=by go_wp2_with(first|(go_at_call 307;refine(gp _ _ _ a b _).mono ?_;rintro e w' ⟨rfl,rfl⟩)|(go_at_call 253;refine Z1 (Dw _ _ _ O O) ?_));exact WB):p:=h
theorem IW(h:p:=by go_enter func199,ntmps199;exact Wz):p:=h
theorem IP(h:p:=by rw[a.a];clear r d;have e:Zl=v:=UD;exact WF):p:=h
theorem IQ(h:p:=by
 cases b
 .show Calls prog 195 #[I L 5,I L (-1)] w _;exact Wy
 .show Calls prog 195 #[I L 5,I L 1] w _;exact Wy):p:=h
theorem IR(h:p:=by
 cases b
 .show Calls prog 195 #[I L 3,I L (-1)] w _;exact Wy
 .show Calls prog 195 #[I L 3,I L 1] w _;exact Wy):p:=h
theorem IS(h:p:=by
 cases b
 .show Calls prog 195 #[I L 0,I L (-1)] w _;exact Wy
 .show Calls prog 195 #[I L 0,I L 1] w _;exact Wy):p:=h
theorem IT(h:p:=by clear y d a7 A x k l v;exact OD):p:=h
theorem IU(h:p:=by
 go_simp;refine hK.out _ _ a λa=>?_;clear hK K;try simp only[py]
 exact OT):p:=h
open Go.RowKit Go.ChangeShapes Go.WideShapes Go.ChangeAt Go.Shelf
theorem Zr{α:Type _}:(∀l:List α,l.toArray.size=l.length)∧(∀(a:α) l,(a::l).length=l.length+1)∧(([]:List α).length=0)∧(∀(a:α) n,Array.replicate (n+1) a=(Array.replicate n a).push a)∧(∀a:α,Array.replicate 0 a=#[])∧(∀(l:List α) a,l.toArray.push a=(l++[a]).toArray)∧(∀(l m:List α),l.toArray++m.toArray=(l++m).toArray)∧(∀l:List α,[]++l=l)∧(∀(a:α) l m,(a::l)++m=a::(l++m)):=⟨@List.size_toArray α,@List.length_cons α,@List.length_nil α,fun a n=>Array.replicate_succ,fun a=>Array.replicate_zero,@List.push_toArray α,@List.append_toArray α,@List.nil_append α,@List.cons_append α⟩
theorem Zs{w:World}{g j:Nat}{cs:Array Value}{t:TypeId}{fr:Nat×Nat}(h:w.heap[g]?=some (.cells cs t fr)):w.cell? ⟨g,j,none⟩=cs[j]?:=cell_of_row _ _ _ _ _ _ h
theorem Zt{w:World}{g:Nat}{old cs:Array Value}{t:TypeId}{fr:Nat×Nat}(h:w.heap[g]?=some (.cells old t fr)):(w.setRow g cs).heap[g]?=some (.cells cs t fr):=setRow_heap _ _ _ _ _ _ h
theorem Zu{w:World}{g k:Nat}{cs:Array Value}(h:k≠g):(w.setRow g cs).heap[k]?=w.heap[k]?:=setRow_other _ _ _ _ h
theorem Zv{w:World}{o:Obj}:(w.alloc o).heap[w.heap.size]?=some o:=World.alloc_heap_new w o
theorem Zw{w:World}{A B:Obj}:((w.alloc A).alloc B).heap[w.heap.size+1]?=some B:=heap_alloc2_new w A B
theorem Zx{w:World}{a:Addr}{u:Value}(h:w.cell? a=some u):a.block<w.heap.size:=World.block_lt_of_cell? _ _ h
theorem Zy{n:Nat}:n<=n:=Nat.le_refl n
theorem Zz{B k:Nat}{w v:World}(h:Below B w v)(l:k<B):v.heap[k]?=w.heap[k]?:=Below.block h k l
theorem ZQ:type_of% @World.alloc_heap_new:=@World.alloc_heap_new
theorem ZR:type_of% @Below.size:=@Below.size
theorem ZS:type_of% @bodyPost_ret:=@bodyPost_ret
theorem ZT:type_of% @wp_region_held_drew:=@wp_region_held_drew
theorem ZU:type_of% @wpList_store_row:=@wpList_store_row
theorem ZV:type_of% @wpList_load_row:=@wpList_load_row
theorem ZW:type_of% @Below.cell:=@Below.cell
theorem ZX:type_of% @Array.length_toList:=@Array.length_toList
theorem ZY:type_of% @callsIn_wide:=@callsIn_wide
theorem ZZ:type_of% @wpAnyH_done:=@wpAnyH_done
theorem Z2:type_of% @Nat.zero_add:=@Nat.zero_add
theorem Z3:type_of% @World.size_alloc:=@World.size_alloc
theorem Z5:type_of% @List.getElem?_eq_some_iff:=@List.getElem?_eq_some_iff
theorem Z6:type_of% @Array.getElem?_eq_none:=@Array.getElem?_eq_none
theorem Z7:type_of% @heap_alloc_new:=@heap_alloc_new
theorem Z8:type_of% @World.cell?_alloc_at:=@World.cell?_alloc_at
theorem Z9:type_of% @wpIn_wide:=@wpIn_wide
theorem Ya:type_of% @List.size_toArray:=@List.size_toArray
theorem Yb:type_of% @Array.toArray_toList:=@Array.toArray_toList
theorem Yc:type_of% @AllReadyH.cons:=@AllReadyH.cons
theorem Yd:type_of% @List.take_succ_eq_append_getElem:=@List.take_succ_eq_append_getElem
theorem Ye:type_of% @World.block_lt_of_cell?:=@World.block_lt_of_cell?
theorem Yf:type_of% @List.getElem?_eq_getElem:=@List.getElem?_eq_getElem
theorem Yg:type_of% @Below.heap_setCell:=@Below.heap_setCell
theorem Yh:type_of% @List.append_nil:=@List.append_nil
theorem Yi:type_of% @List.mem_append:=@List.mem_append
theorem Yj:type_of% @List.mem_cons:=@List.mem_cons
theorem Yk:type_of% @List.take_of_length_le:=@List.take_of_length_le
theorem Yl:type_of% @BitVec.getLsbD_and:=@BitVec.getLsbD_and
theorem Ym:type_of% @Bool.or_eq_true:=@Bool.or_eq_true
theorem Yn:type_of% @ByteArray.size_append:=@ByteArray.size_append
theorem Yo:type_of% @wpList_load_mid:=@wpList_load_mid
theorem Yp:type_of% @results_cell_row:=@results_cell_row
theorem Yq:type_of% @List.length_cons:=@List.length_cons
theorem Yr:type_of% @Below.setCell:=@Below.setCell
theorem Ys:type_of% @List.map_append:=@List.map_append
theorem Yt:type_of% @Int.eq_ofNat_of_zero_le:=@Int.eq_ofNat_of_zero_le
theorem Yu:type_of% @Array.getElem?_setIfInBounds:=@Array.getElem?_setIfInBounds
theorem Yv:type_of% @List.getElem?_take:=@List.getElem?_take
theorem Yw:type_of% @Array.getElem?_append_right:=@Array.getElem?_append_right
theorem Yx:type_of% @BitVec.getLsbD_or:=@BitVec.getLsbD_or
theorem Yy:type_of% @Nat.not_lt_zero:=@Nat.not_lt_zero
theorem Yz:type_of% @List.length_eq_zero_iff:=@List.length_eq_zero_iff
theorem YA:type_of% @List.cons_append:=@List.cons_append
theorem YB:type_of% @And.intro:=@And.intro
theorem YC:type_of% @enters_of:=@enters_of
theorem YD:type_of% @List.length_map:=@List.length_map
theorem YE:type_of% @Int.toNat_natCast:=@Int.toNat_natCast
theorem YF:type_of% @beq_iff_eq:=@beq_iff_eq
theorem YG:type_of% @Below.block:=@Below.block
theorem YH:type_of% @if_false:=@if_false
theorem YI:type_of% @List.range_succ:=@List.range_succ
theorem YJ:type_of% @List.filter_append:=@List.filter_append
theorem YK:type_of% @Bool.not_eq_true':=@Bool.not_eq_true'
theorem YL:type_of% @List.mem_map:=@List.mem_map
theorem YM:type_of% @List.map_cons:=@List.map_cons
theorem YN:type_of% @List.getElem?_map:=@List.getElem?_map
theorem YO:type_of% @IntKind.wrap_i64:=@IntKind.wrap_i64
theorem YP:type_of% @Below.heap_alloc:=@Below.heap_alloc
theorem YQ:type_of% @wp_store_row:=@wp_store_row
theorem YR:type_of% @List.getD_eq_getElem?_getD:=@List.getD_eq_getElem?_getD
theorem YS:type_of% @if_true:=@if_true
theorem YT:type_of% @Calls.quiet_of_same:=@Calls.quiet_of_same
theorem YU:type_of% @run_takeDeferred:=@run_takeDeferred
theorem YV:type_of% @Array.ext_getElem?:=@Array.ext_getElem?
theorem YW:type_of% @Bool.eq_iff_iff:=@Bool.eq_iff_iff
theorem YX:type_of% @List.mem_flatMap:=@List.mem_flatMap
theorem YY:type_of% @ByteArray.size_data:=@ByteArray.size_data
theorem YZ:type_of% @World.cell?_alloc_past:=@World.cell?_alloc_past
theorem Y7:type_of% @Array.getElem?_append:=@Array.getElem?_append
theorem Y8:type_of% @List.length_filter_le:=@List.length_filter_le
theorem Y9:type_of% @List.getElem?_eq_none:=@List.getElem?_eq_none
theorem Xa:type_of% @size_setRow:=@size_setRow
theorem Xb:type_of% @AllReadyH.nil:=@AllReadyH.nil
theorem Xc:type_of% @Bool.true_and:=@Bool.true_and
theorem Xd:type_of% @Classical.byContradiction:=@Classical.byContradiction
theorem Xe:type_of% @CallsIn.inRound:=@CallsIn.inRound
theorem Xf:type_of% @List.all_append:=@List.all_append
theorem Xg:type_of% @List.mem_cons_of_mem:=@List.mem_cons_of_mem
theorem Xh:type_of% @Option.some.injEq:=@Option.some.injEq
theorem Xi:type_of% @List.getElem?_take_of_lt:=@List.getElem?_take_of_lt
theorem Xj:type_of% @List.flatMap_append:=@List.flatMap_append
theorem Xk:type_of% @wpAnyH_ready:=@wpAnyH_ready
theorem Xl:type_of% @Lib.toList_data:=@Lib.toList_data
theorem Xm:type_of% @run_part_plain:=@run_part_plain
theorem Xn:type_of% @congrArg:=@congrArg
theorem Xo:type_of% @Bool.false_or:=@Bool.false_or
theorem Xp:type_of% @Option.map_eq_some_iff:=@Option.map_eq_some_iff
theorem Xq:type_of% @List.prefix_append_right_inj:=@List.prefix_append_right_inj
theorem Xr:type_of% @Option.isSome_iff_exists:=@Option.isSome_iff_exists
theorem Xs:type_of% @List.getElem_mem:=@List.getElem_mem
theorem Xt:type_of% @List.length_take:=@List.length_take
theorem Xu:type_of% @List.getElem?_toArray:=@List.getElem?_toArray
theorem Xv:type_of% @wpList_append_own:=@wpList_append_own
theorem Xw:type_of% @World.putObj_heap_other:=@World.putObj_heap_other
theorem Xx:type_of% @Array.getElem?_append_left:=@Array.getElem?_append_left
theorem Xy:type_of% @run_string_add_sum:=@run_string_add_sum
theorem Xz:type_of% @List.prefix_append:=@List.prefix_append
theorem XA:type_of% @List.take_length:=@List.take_length
theorem XB:type_of% @decide_eq_decide:=@decide_eq_decide
theorem XC:type_of% @List.not_mem_nil:=@List.not_mem_nil
theorem XD:type_of% @List.any_eq_false:=@List.any_eq_false
theorem XE:type_of% @List.mem_cons_self:=@List.mem_cons_self
theorem XF:type_of% @BitVec.eq_of_getLsbD_eq:=@BitVec.eq_of_getLsbD_eq
theorem XG:type_of% @List.map_eq_cons_iff:=@List.map_eq_cons_iff
theorem XH:type_of% @Bool.not_eq_true:=@Bool.not_eq_true
theorem XI:type_of% @List.exists_cons_of_ne_nil:=@List.exists_cons_of_ne_nil
theorem XJ:type_of% @List.getElem_cons_zero:=@List.getElem_cons_zero
theorem XK:type_of% @Bool.false_and:=@Bool.false_and
theorem XL:type_of% @Below.refl:=@Below.refl
theorem XM:type_of% @BitVec.getLsbD_zero:=@BitVec.getLsbD_zero
theorem XN:type_of% @List.length_nil:=@List.length_nil
theorem XO:type_of% @Array.getElem?_setIfInBounds_ne:=@Array.getElem?_setIfInBounds_ne
theorem XP:type_of% @List.drop_eq_getElem_cons:=@List.drop_eq_getElem_cons
theorem XQ:type_of% @List.take_append_drop:=@List.take_append_drop
theorem XR:type_of% @List.append_inj':=@List.append_inj'
theorem XS:type_of% @results_none:=@results_none
theorem XT:type_of% @Nat.mul_le_mul_right:=@Nat.mul_le_mul_right
theorem XU:type_of% @Bool.and_false:=@Bool.and_false
theorem XV:type_of% @Result.andThen_ok:=@Result.andThen_ok
theorem XW:type_of% @yieldsIf_load_mid:=@yieldsIf_load_mid
theorem XY:type_of% @List.dropLast_concat_getLast:=@List.dropLast_concat_getLast
theorem XZ:type_of% @belowK_b:=@belowK_b
theorem X0:type_of% @List.getElem_cons_succ:=@List.getElem_cons_succ
theorem X1:type_of% @List.filter_eq_nil_iff:=@List.filter_eq_nil_iff
theorem X2:type_of% @Addr.add_lit:=@Addr.add_lit
theorem X3:type_of% @Bool.not_false:=@Bool.not_false
theorem X4:type_of% @List.pairwise_flatMap:=@List.pairwise_flatMap
theorem X5:type_of% @Option.filter_eq_some_iff:=@Option.filter_eq_some_iff
theorem X6:type_of% @List.nodup_cons:=@List.nodup_cons
theorem X7:type_of% @List.cons.injEq:=@List.cons.injEq
theorem X8:type_of% @Nat.pow_le_pow_right:=@Nat.pow_le_pow_right
theorem X9:type_of% @World.cell?_of_block:=@World.cell?_of_block
theorem Wa:type_of% @Bool.eq_false_or_eq_true:=@Bool.eq_false_or_eq_true
theorem Wc:type_of% @List.all_cons:=@List.all_cons
theorem We:type_of% @info_parts:=@info_parts
theorem Wf:type_of% @dif_pos:=@dif_pos
theorem Wg:type_of% @List.take_append_of_le_length:=@List.take_append_of_le_length
theorem Wh:type_of% @results_tmp:=@results_tmp
theorem Wi:type_of% @List.map_nil:=@List.map_nil
theorem Wj:type_of% @List.nil_append:=@List.nil_append
theorem Wl:type_of% @Bool.and_true:=@Bool.and_true
theorem Wm:type_of% @List.mem_of_getElem?:=@List.mem_of_getElem?
theorem Wn:type_of% @List.not_lt:=@List.not_lt
theorem Wo:type_of% @Array.all_append:=@Array.all_append
theorem Wp:type_of% @cell_one_new:=@cell_one_new
theorem Wr:type_of% @List.getElem?_drop:=@List.getElem?_drop
theorem Ws:type_of% @List.drop_eq_nil_of_le:=@List.drop_eq_nil_of_le
theorem Wu:type_of% @ByteArray.size_extract:=@ByteArray.size_extract
theorem Wv:type_of% @List.all_eq_false:=@List.all_eq_false
end Go.Proofs.YtnfakamfmkhlbabGreatDoor
namespace Go.Proofs.YtnfakamfmkhlbabGreatDoor.C
open Go.RowKit
abbrev ZI (g:Nat):Value:=.pointer (some ⟨g,0,none⟩)
abbrev ZJ (f t:Nat)(u:UInt8):Array Value:=#[.int .i64 (f:Int),.int .i64 (t:Int),.int .u8 (u.toNat:Int)]
theorem Z0 {P:Program}{F:Nat}{a:Array Value}{w:World}{v:Value}{Q:Ending->World->Prop}{R:World->Prop}(h:Calls P F a w fun e x=>e=.returned v/\R x)(k:∀ x,R x->Q (.returned v) x):Calls P F a w Q:=h.mono fun _ x q=>q.1 ▸ k x q.2
theorem Z1 {P:Program}{F:Nat}{a:Array Value}{w:World}{v:Value}{Q:Ending->World->Prop}(h:Calls P F a w fun e x=>e=.returned v/\x=w)(k:Q (.returned v) w):Calls P F a w Q:=h.mono fun _ x q=>by rw [q.1,q.2]; exact k
section
variable {P:Program}{md:Region.Mode}{ops:Array Oper}{Q:Exit->Act->World->Prop}{S:World->Prop}
theorem ZA (i:Nat){oi:Oper}{fuel:Nat}{listed:Array Bool}{a a':Act}{w:World}(hS:S w)
 (h:wpAnyH P md ops Q S fuel (listed.setIfInBounds i true) a' w)(hi:ops[i]?=some oi:=by rfl)(ha:a.put oi.dst undef=a':=by conv=>lhs; simp only [Act.put,p1,p2,p3,p4,p5,p6])(hy:YieldsIf P ops S oi undef a:=by exact Or.inr ⟨by kernel_rfl,rfl⟩)
 (hs:Region.noSelect ops=true:=by kernel_rfl)(hf:Region.free md ops listed i=true:=by kernel_rfl)(hr:(Region.ready md ops listed).contains i=true:=by kernel_rfl)
 (hQ:∀ c a w,Q (.panic c) (a.put oi.dst undef) w->Q (.panic c) a w:=by exact fun _ _ _ h=>h):wpAnyH P md ops Q S (fuel + 1) listed a w:=wpAnyH_take hi hs hf hr hQ hy hS (ha ▸ h)
theorem ZB (i:Nat)(v:Value){oi:Oper}{fuel:Nat}{listed:Array Bool}{a a':Act}{w:World}(hi:ops[i]?=some oi)(hy:∀ w,S w->(execOp a.eval oi).run P w=.ok (.value v) w)(hS:S w)
 (h:wpAnyH P md ops Q S fuel (listed.setIfInBounds i true) a' w)(ha:a.put oi.dst v=a':=by conv=>lhs; simp only [Act.put,p1,p2,p3,p4,p5,p6])(hw:Region.wanted oi (yielded ops a.tmps)=true:=by kernel_rfl)
 (hs:Region.noSelect ops=true:=by kernel_rfl)(hf:Region.free md ops listed i=true:=by kernel_rfl)(hr:(Region.ready md ops listed).contains i=true:=by kernel_rfl)
 (hQ:∀ c a w,Q (.panic c) (a.put oi.dst v) w->Q (.panic c) a w:=by exact fun _ _ _ h=>h):wpAnyH P md ops Q S (fuel + 1) listed a w:=wpAnyH_take hi hs hf hr hQ (.inl ⟨hw,hy⟩) hS (ha ▸ h)
end
theorem ZG:(Tryz.prog.info? 70).map (·.size)=some 72:=by kernel_rfl
theorem ZC {ops:Array Oper}{rest:List Oper}{o:Oper}{a:Act}{w:World}{Q:Exit->Act->World->Prop}(g:Nat)(cs:Array Value)(hg:w.heap[g]?=some (.cells Tryz.zeroCells70 70 (0,0)))(hz:cs.size=72)(h1:cs.all (·.oneCell')=true)
 (h:wpList Tryz.prog ops Q rest (a.put o.dst undef) (w.setRow g cs)){x y:Operand}(hgd:o.guard=none:=by rfl)(ho:o.op=.store 70 x y:=by rfl)(hx:a.eval x=.pointer (some ⟨g,0,none⟩):=by rfl)(hy:a.eval y=.agg cs:=by rfl):wpList Tryz.prog ops Q (o :: rest) a w:=
 wpList_store_row hgd 70 x y ho g cs hx hy 70 _ hg (by rw [hz]; exact ZG) (by rw [hz]; kernel_rfl) h1 h
theorem ZD {ops:Array Oper}{rest:List Oper}{o:Oper}{a:Act}{w:World}{Q:Exit->Act->World->Prop}(g:Nat)(cs:Array Value)(hg:w.heap[g]?=some (.cells cs 70 (0,0)))(hz:cs.size=72)
 (h:wpList Tryz.prog ops Q rest (a.put o.dst (.agg cs)) w){x:Operand}(hgd:o.guard=none:=by rfl)(ho:o.op=.load 70 x:=by rfl)(hx:a.eval x=.pointer (some ⟨g,0,none⟩):=by rfl):wpList Tryz.prog ops Q (o :: rest) a w:=
 wpList_load_row hgd 70 x ho g hx 70 cs (0,0) _ hg Tryz.underlying70 rfl (by rw [hz]; exact ZG) h
theorem ZE {g:Nat}{w W:World}{o:Obj}(h:Below w.heap.size w W)(e:w.heap[g]?=some o):W.heap[g]?=some o:=(Below.block h _ (Array.getElem?_eq_some_iff.1 e).1).trans e
end Go.Proofs.YtnfakamfmkhlbabGreatDoor.C
