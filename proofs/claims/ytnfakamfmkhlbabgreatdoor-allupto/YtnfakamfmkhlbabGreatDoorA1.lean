import Derived.Test.YtnfakamfmkhlbabGreatDoorA0
import Derived.Test.YtnfakamfmkhlbabGreatDoorProg
import Derived.Conc.MuLone
import Derived.Deep.DeepWitnessRowRef
import Derived.Deep.RegionHeld3
import Derived.Lay
import Derived.Lib.AppendIntMem
import Derived.Lib.LaidU8
import Derived.Lib.SlBytesConst
import Derived.LoopNIn
import Derived.MakeChecks
import Derived.Maps.AppendAt
import Derived.OpenShut
import Derived.OwnWalkIn
import Derived.ProofKit
import Derived.RangeFuncBound
import Derived.RangeFuncNested
import Derived.Shelf.RegionOpen
import Derived.Sort.LoopGhostIn
import Derived.WalkLawsBesides
set_option linter.all false
namespace Go.Proofs.YtnfakamfmkhlbabGreatDoor.C
def p1 {α:Type _}{xs:List α}{i:Nat}(h:i < xs.toArray.size):xs.toArray[i]=xs[i]'(by simpa using h):=List.getElem_toArray h
def p2 {α:Type _}{a:α}{bs:List α}(h:0 < (a :: bs).length):(a :: bs)[0]=a:=rfl
def p3 {α:Type _}{a:α}{bs:List α}{i:Nat}(h:i + 1 < (a :: bs).length):(a :: bs)[i + 1]=bs[i]'(Nat.lt_of_succ_lt_succ h):=rfl
def p4 {α:Type _}{l:List α}{i:Nat}{a:α}:l.toArray.setIfInBounds i a=(l.set i a).toArray:=List.setIfInBounds_toArray ..
def p5 {α:Type _}{a b:α}{bs:List α}:(a :: bs).set 0 b=b :: bs:=rfl
def p6 {α:Type _}{a b:α}{bs:List α}{i:Nat}:(a :: bs).set (i + 1) b=a :: bs.set i b:=rfl
def pz:(∀ (a:Act)(d:Tmp)(v:Value),a.put (some d) v={ a with tmps:=a.tmps.setIfInBounds d v })/\(∀ (a:Act)(v:Value),a.put none v=a):=⟨fun _ _ _=>rfl,fun _ _=>rfl⟩
section
variable {P:Program}{md:Region.Mode}{ops:Array Oper}{Q:Exit->Act->World->Prop}{S:World->Prop}
def tk (i:Nat)(v:Value){oi:Oper}{fuel:Nat}{listed:Array Bool}{a:Act}{w:World}(hi:ops[i]?=some oi)(hy:YieldsIf P ops S oi v a)(hS:S w)
 (h:wpAnyH P md ops Q S fuel (listed.setIfInBounds i true) (a.put oi.dst v) w)(hs:Region.noSelect ops=true:=by kernel_rfl)(hf:Region.free md ops listed i=true:=by kernel_rfl)(hr:(Region.ready md ops listed).contains i=true:=by kernel_rfl)
 (hQ:∀ c a w,Q (.panic c) (a.put oi.dst v) w->Q (.panic c) a w:=by exact fun _ _ _ h=>h):wpAnyH P md ops Q S (fuel + 1) listed a w:=wpAnyH_take hi hs hf hr hQ hy hS h
def ty (i:Nat)(v:Value){oi:Oper}{fuel:Nat}{listed:Array Bool}{a a':Act}{w:World}(hi:ops[i]?=some oi)(hy:YieldsIf P ops S oi v a)(hS:S w)
 (h:wpAnyH P md ops Q S fuel (listed.setIfInBounds i true) a' w)(ha:a.put oi.dst v=a':=by conv=>lhs; simp only [Act.put,p1,p2,p3,p4,p5,p6])
 (hs:Region.noSelect ops=true:=by kernel_rfl)(hf:Region.free md ops listed i=true:=by kernel_rfl)(hr:(Region.ready md ops listed).contains i=true:=by kernel_rfl)
 (hQ:∀ c a w,Q (.panic c) (a.put oi.dst v) w->Q (.panic c) a w:=by exact fun _ _ _ h=>h):wpAnyH P md ops Q S (fuel + 1) listed a w:=wpAnyH_take hi hs hf hr hQ hy hS (ha ▸ h)
def tq (i:Nat)(v:Value){oi:Oper}{fuel:Nat}{listed:Array Bool}{a a':Act}{w:World}(hS:S w)
 (h:wpAnyH P md ops Q S fuel (listed.setIfInBounds i true) a' w)(hi:ops[i]?=some oi:=by rfl)(ha:a.put oi.dst v=a':=by conv=>lhs; simp only [Act.put,p1,p2,p3,p4,p5,p6])(hy:YieldsIf P ops S oi v a:=by exact Or.inl ⟨by rfl,fun w hw=>(by go_simp;try rfl)⟩)
 (hs:Region.noSelect ops=true:=by kernel_rfl)(hf:Region.free md ops listed i=true:=by kernel_rfl)(hr:(Region.ready md ops listed).contains i=true:=by kernel_rfl)
 (hQ:∀ c a w,Q (.panic c) (a.put oi.dst v) w->Q (.panic c) a w:=by exact fun _ _ _ h=>h):wpAnyH P md ops Q S (fuel + 1) listed a w:=wpAnyH_take hi hs hf hr hQ hy hS (ha ▸ h)
def rd (i:Nat){o:Oper}{fuel:Nat}{listed:Array Bool}{a:Act}{w:World}
 (h:∀ K':Act->World->Prop,Shut (∀ a w,S w->(S w->wpAnyH P md ops Q S fuel (listed.setIfInBounds i true) a w)->K' a w)->if Region.wanted o (yielded ops a.tmps)=true then Oper.wp P o a w K' Q else K' (a.put o.dst undef) w)
 (hr:Region.ready md ops listed=[i]:=by kernel_rfl)(ho:ops[i]?=some o:=by rfl):wpAnyH P md ops Q S (fuel + 1) listed a w:=wpAnyH_ready hr (by simp) (AllReadyH.cons ho h AllReadyH.nil)
end
end Go.Proofs.YtnfakamfmkhlbabGreatDoor.C
namespace Go.Proofs.YtnfakamfmkhlbabGreatDoor.C
def py:(∀ (a:Act)(d:Tmp)(v:Value),a.put (some d) v={ a with tmps:=a.tmps.setIfInBounds d v })/\(∀ (a:Act)(v:Value),a.put none v=a)/\(∀ (α:Type)(xs:List α)(i:Nat)(h:i < xs.toArray.size),xs.toArray[i]=xs[i]'(by simpa using h))/\(∀ (α:Type)(a:α)(bs:List α)(h:0 < (a :: bs).length),(a :: bs)[0]=a)/\(∀ (α:Type)(a:α)(bs:List α)(i:Nat)(h:i + 1 < (a :: bs).length),(a :: bs)[i + 1]=bs[i]'(Nat.lt_of_succ_lt_succ h))/\(∀ (α:Type)(l:List α)(i:Nat)(a:α),l.toArray.setIfInBounds i a=(l.set i a).toArray)/\(∀ (α:Type)(a b:α)(bs:List α),(a :: bs).set 0 b=b :: bs)/\(∀ (α:Type)(a b:α)(bs:List α)(i:Nat),(a :: bs).set (i + 1) b=a :: bs.set i b):=
 ⟨fun _ _ _=>rfl,fun _ _=>rfl,fun _ _ _ h=>p1 h,fun _ _ _ h=>p2 h,fun _ _ _ _ h=>p3 h,fun _ _ _ _=>p4,fun _ _ _ _=>p5,fun _ _ _ _ _=>p6⟩
end Go.Proofs.YtnfakamfmkhlbabGreatDoor.C
namespace Go
namespace RowKit
def Hid.a{p:Prop}(h:Hid p):p:=h
end RowKit
end Go
namespace Go.Proofs.YtnfakamfmkhlbabGreatDoor
open Go.RowKit
abbrev I0:=Array Value
abbrev I1:=List UInt8
abbrev I2:=Nat->UInt8
abbrev I3:=List ByteArray
abbrev I4:=ByteArray
abbrev I5:=Nat->Bool
abbrev I8:=Nat->BitVec 64
variable{p:Prop}
def X(h:p):Hid p:=h
def R{α:Sort _}{a:α}:a=a:=rfl
def Zn{α:Sort _}(a:α):∃x,Hid (a=x):=⟨a,rfl⟩
def Zo{α:Sort _}(a:α):∃x,a=x:=⟨a,rfl⟩
def O(h:p:=by omega):p:=h
def WR(h:p:=by kernel_rfl):p:=h
def WS(h:p:=by decide +kernel):p:=h
def WU(h:p:=by simp):p:=h
def WV(h:p:=by obtain⟨m,l,p,B,E,F⟩:=i;go_simp;try rfl):p:=h
def WW(h:p:=by decide):p:=h
def WX(h:p:=by simp;omega):p:=h
def WY(h:p:=by obtain⟨G,H,v⟩:=a.pm.cells;have k:=a.pm.at d.a.wh;have l:=a.pm.at (d.a.c 0 WW);have m:=a.pm.at (d.a.c 1 WW);have n:=a.pm.at (d.a.c 2 WW);have o:=a.pm.at (d.a.c 3 WW);go_simp;try rfl):p:=h
def WZ(h:p:=by obtain⟨A,y,x,cf,o⟩:=Rm.cells p i r j;go_simp;try rfl):p:=h
def W8(h:p:=by have c1:=d.b1;have c2:=d.b2;have c3:=d.b3;have g:=d.ps.c (jC wh+1) O;rw[m]at g;go_simp;try rfl):p:=h
def W9(h:p:=by have c1:=d.b1;have c2:=d.b2;have c3:=d.b3;have g:=d.ps.c (jC wh) O;rw[j]at g;go_simp;try rfl):p:=h
def Va(h:p:=by have i:=a.1.cell d.a.own;have j:=a.1.cell d.a.oth;have k:=a.1.cell d.a.beh;go_simp;try rfl):p:=h
def Vb(h:p:=by rfl):p:=h
def Vc(h:p:=by rw[YO];omega):p:=h
def Vd(h:p:=by have c1:=p.1.cell d.a.wh;have c2:=p.2;have c3:=p.1.cell (d.a.men (bg wh+k) VT);go_simp;try rfl):p:=h
def Ve(h:p:=by rintro k (rfl|rfl|rfl|rfl)<;>first|exact qu O WW y|exact qu O WW ((ZE a x))|exact qu O WW ((ZE a i))|exact qu O WW ((ZE a d))):p:=h
def Vf(h:p:=by have q:=a.wh;have u:=a.c0;have y:=a.c1;have A:=a.c2;have B:=a.c3;go_simp;try rfl):p:=h
def Vg(h:p:=by go_num):p:=h
def Vh(h:p:=by rw[IntKind.wrap_u64];omega):p:=h
def Vi(h:p:=by simp[Value.oneCell']):p:=h
def Vj(h:p:=by rw[Z3];omega):p:=h
def Vk(h:p:=by unfold maxLen;omega):p:=h
def Vl(h:p:=by simp only[Value.cells];omega):p:=h
def Vm(h:p:=by obtain⟨c0,c1,A,p,v,y,cf,o⟩:=Bm.cells l m r i;go_simp;try rfl):p:=h
def Vn(h:p:=by cases wh<;>decide):p:=h
def Vo(h:p:=by injection e with _ e;injection e):p:=h
def Vp(h:p:=by rw[qM];omega):p:=h
def Vq(h:p:=by simpa using h):p:=h
def Vr(h:p:=by simp[results,Tryz.results215,go_sem]):p:=h
def Vs(h:p:=by unfold maxLen;show a.toArray.size<=_;rw[Ya];omega):p:=h
def Vt(h:p:=by simp[results,results198,go_sem]):p:=h
def Vu(h:p:=by rw[Int.tmod_eq_emod_of_nonneg O];omega):p:=h
def Vv(h:p:=by obtain⟨c0,c1,G,D,E,F,cf,A⟩:=Bm.cells p q r j;go_simp;try rfl):p:=h
def Vw(h:p:=by rw[r.size];omega):p:=h
def Vx(h:p:=by rw[Array.size_setIfInBounds];exact r.size):p:=h
def Vy(h:p:=by rw[a.a];rfl):p:=h
def Vz(h:p:=by rw[xF];exact q9):p:=h
def VA(h:p:=by have v:=E.fa.cell u.a.wh;go_simp;try rfl):p:=h
def VB(h:p:=by rw[<-j];have:=ZQ (w.alloc (.deferred (some []))) (.loop { state:=.ready,pending:=none,fn,tmps:=a.tmps,params:=ps,assign,body,defers:=w.heap.size });rwa[Z3]at this):p:=h
def VC(h:p:=by simp[results,results196,go_sem]):p:=h
def VD(h:p:=by simp[undef]):p:=h
def VE(h:p:=by simpa using b):p:=h
def VF(h:p:=by simp[yielded,Region.wanted]):p:=h
def VG(h:p:=by simpa using d):p:=h
def VH(h:p:=by have c1:=(qm hw.mv).1;go_simp;try rfl):p:=h
def VI(h:p:=by simpa using e):p:=h
def VJ(h:p:=by rw[Zu O];exact h.p):p:=h
def VK(h:p:=by rw[Zu O,Zu O];exact Zt r2):p:=h
def VL(h:p:=by simp only[List.map_toArray,YM,Wi];exact qzw M f.a wh p o fc):p:=h
def VM(h:p:=by simp[a]):p:=h
def VN(h:p:=by simp only[qU];intro e;exact q (pE (e.trans WS))):p:=h
def VO(h:p:=by rw[qT]at i;subst i;exact⟨O,hK⟩):p:=h
def VP(h:p:=by rw[show(1:Int)=U 1#64 from WS];exact bJ r 1#64):p:=h
def VQ(h:p:=by unfold ev;rw[qF he];show _=(match doS n7 a.data.toList with|some (s',l)=>(s',rs++l)|none=>(n7,rs++[Me (r+1)]));rw[p8]):p:=h
def VR(h:p:=by split at h<;>(try split at h)<;>omega):p:=h
def VS(h:p:=by simpa using a):p:=h
def VT(h:p:=by have:=io wh;omega):p:=h
def VU(h:p:=by rw[r.size];exact jJ):p:=h
def VV(h:p:=by rw[Zs h.m];rfl):p:=h
def VW(h:p:=by rw[Zu O,Zu O];with_reducible exact y3):p:=h
def VX(h:p:=by have cw:=hw.1.at' (l2.a f B);go_simp;try rfl):p:=h
def VY(h:p:=by unfold xN;rw[d.a,F.a,qE q,XU];rfl):p:=h
def VZ(h:p:=by unfold xN;rw[d.a,E.a,qE m,XK];rfl):p:=h
def V0(h:p:=by have e0:w.cell? ⟨W.heap.size,0,none⟩=some (F_ g n):=(by rw[Zs hw.2.1];rfl);unfold F_ at e0 |-;go_simp;try rfl):p:=h
def V1(h:p:=by have c0:=o.c0;have c1:=o.c1;have c2:=o.c2;go_simp;rfl):p:=h
def V3(h:p:=by rw[qU];omega):p:=h
def V5(h:p:=by rw[g];exact q9):p:=h
def V6(h:p:=by simp only[List.map_toArray,YM,Wi];exact qkx _ _):p:=h
def V7(h:p:=by rw[f.a];exact x7):p:=h
def V8(h:p:=by rw[J.a];try rfl):p:=h
def V9(h:p:=by rw[Lib.join_cons,Lib.join_cons];simp[Lib.joinTail]):p:=h
def Ua(h:p:=by have c1:=i.q;obtain⟨a0,M,a1⟩:=qm i.mv;go_simp;try rfl):p:=h
def Ub(h:p:=by cases h):p:=h
def Uc(h:p:=by simp only[List.map_toArray,YM,Wi];exact a5.a):p:=h
def Ud(h:p:=by rw[m0.a]):p:=h
def Ue(h:p:=by rw[Zu O];exact Zt r4):p:=h
def Uf(h:p:=by rw[b];exact a):p:=h
def Ug(h:p:=by rw[Z8 _ _ _ _ rfl];rfl):p:=h
def Uh(h:p:=by rw[Int.tdiv_eq_ediv_of_nonneg O];omega):p:=h
def Ui(h:p:=by rw[d.a,b.a];simp):p:=h
def Uj(h:p:=by rw[p.a];unfold yO;rw[qF en.a,a0.a];rfl):p:=h
def Uk(h:p:=by have y:w'.cell? ⟨w.heap.size+1,64,none⟩=some (.bool wh):=(by rw[Zs k.pa];exact l);go_simp;try rfl):p:=h
def Ul(h:p:=by simpa using q):p:=h
def Um(h:p:=by unfold maxLen;show(x.data.toList.drop 2).toArray.size<=_;rw[Ya,List.length_drop];omega):p:=h
def Un(h:p:=by rw[o.a];rfl):p:=h
def Uo(h:p:=by rw[e.a];rfl):p:=h
def Up(h:p:=by rw[B.a];rfl):p:=h
def Uq(h:p:=by simpa using f):p:=h
def Ur(h:p:=by rw[b3.a];try rfl):p:=h
def Us(h:p:=by rw[h];rfl):p:=h
def Ut(h:p:=by rw[d];exact r.sq _ O):p:=h
def Uu(h:p:=by rw[Zu O];with_reducible exact y2):p:=h
def Uv(h:p:=by obtain⟨c0,c1,H,e,J,cs⟩:=n.cells;go_simp;try rfl):p:=h
def Uw(h:p:=by simpa[Value.ownBlock]using a):p:=h
def Ux(h:p:=by rw[a,b];decide):p:=h
def Uy(h:p:=by rw[vl hz];exact Hg):p:=h
def UA(h:p:=by rw[Z3,Z3];omega):p:=h
def UB(h:p:=by rw[Zs Zw];exact qQ _):p:=h
def UD(h:p:=by rw[<-a.a];simp[xX,i];omega):p:=h
def UE(h:p:=by show(z t).toNat=46;omega):p:=h
def UF(h:p:=by have T:w.cell? ⟨Bp,64,none⟩=some (.bool wh):=(by rw[Zs P.pa];exact H);go_simp;try rfl):p:=h
def UG(h:p:=by rw[p.a]):p:=h
def UH(h:p:=by rw[l.a,<-F6,<-b.a,<-b.a];exact Xy W _ _ (by rw[b.a,b.a];show 2+2<=_;decide)):p:=h
def UI(h:p:=by with_reducible exact y1):p:=h
def UJ(h:p:=by simp only;omega):p:=h
def UK(h:p:=by rw[qn h.mv];rfl):p:=h
def UL(h:p:=by have a8:=E.1.fa.cell u.a.beh;go_simp;try rfl):p:=h
def UM(h:p:=by cases wh<;>simp[bg]):p:=h
def UN(h:p:=by rw[h.1];unfold W_;rw[l]):p:=h
def UO(h:p:=by rw[Zu (by have:=h.lm;omega)];exact h.m):p:=h
def UP(h:p:=by rw[YF];omega):p:=h
def UQ(h:p:=by first|exact .inl rfl|exact .inr rfl):p:=h
def UR(h:p:=by have:=(qB.1 e).1;omega):p:=h
def US(h:p:=by unfold zO;rw[qE (show ¬ t/8=0 from O),qE (show ¬ t/8=7 from O)];rfl):p:=h
def UT(h:p:=by have:=b.a.2;rw[Xt]at this;omega):p:=h
def UU(h:p:=by have:=x.b2;omega):p:=h
def UV(h:p:=by have:=x.b1;omega):p:=h
def UW(h:p:=by simp[h]):p:=h
def UX(h:p:=by rw[d];exact q9):p:=h
def UY(h:p:=by rw[Array.getElem?_extract,qI Vw,Z2];exact r.sq i k):p:=h
def UZ(h:p:=by have o:=n.1.cell b.a.wh;go_simp;try rfl):p:=h
def U0(h:p:=by unfold ur;split<;>simp):p:=h
def U1(h:p:=by rw[ZX,r.size];exact jJ):p:=h
def U2(h:p:=by simp at d;omega):p:=h
def U3(h:p:=by rw[World.size_setCell];exact h.sz):p:=h
def U4(h:p:=by first|(simp;done)|(simp;omega)):p:=h
def U6(h:p:=by rw[h9.a];rfl):p:=h
def U7(h:p:=by have:=xe j.p;have:=j.lo;omega):p:=h
def U8(h:p:=by unfold zW;rw[b.a]):p:=h
def U9(h:p:=by rw[vl xF];exact Hg):p:=h
def Ta(h:p:=by rw[qn E];rfl):p:=h
def Tc(h:p:=by rw[b.a];rfl):p:=h
def Td(h:p:=by rw[D.a];rfl):p:=h
def Te(h:p:=by unfold yx;simp[F]):p:=h
def Tf(h:p:=by simp[e]):p:=h
def Tg(h:p:=by rw[e];rfl):p:=h
def Th(h:p:=by obtain⟨c,ty,fr,q1,a⟩:=h.2;exact⟨c,ty,fr,q1,(ZE g a)⟩):p:=h
def Ti(h:p:=by unfold wrap64;omega):p:=h
def Tj(h:p:=by rw[b.a,hN.a]):p:=h
def Tk(h:p:=by rw[a.a];exact h.a):p:=h
def Tl(h:p:=by rw[a.1]at e;cases e):p:=h
def Tn(h:p:=by rw[<-Q.a];cases wh<;>decide):p:=h
def To(h:p:=by rw[v];unfold maxLen;omega):p:=h
def Tp(h:p:=by rw[j.a];rfl):p:=h
def Tq(h:p:=by have h1:=(H.a.gr r).b1;have h2:=(H.a.gr r).b4;omega):p:=h
def Tr(h:p:=by rw[<-this];simp[q]):p:=h
def Ts(h:p:=by rw[<-this];exact a):p:=h
def Tt(h:p:=by have:=hD _ q;omega):p:=h
def Tu(h:p:=by have:=ZR n;omega):p:=h
def Tv(h:p:=by have:10 ^ s.size<=10 ^ 9:=X8 O O;omega):p:=h
def Tw(h:p:=by cases b<;>simp[bg]):p:=h
def Tx(h:p:=by rw[r];omega):p:=h
def Ty(h:p:=by rw[c4.a];rfl):p:=h
def T0(h:p:=by rw[b3.a];rfl):p:=h
def T1(h:p:=by rw[f];rfl):p:=h
def T6(h:p:=by with_reducible exact z2):p:=h
def T7(h:p:=by rw[qn q.cw.c];rfl):p:=h
def T8(h:p:=by rw[f];exact q9):p:=h
def SM(h:p:=by rw[BW];simp[x]):p:=h
def Ri(h:p:=by rw[BW];simp[a]):p:=h
def RA(h:p:=by cases wh<;>rfl):p:=h
def Oa(h:p:=by unfold xE;split<;>(try split)<;>(try split)<;>omega):p:=h
def Ob(h:p:=by unfold hN;split<;>omega):p:=h
def Oc(h:p:=by rw[Zu O];exact j):p:=h
def Od(h:p:=by rw[Zu O];exact i):p:=h
def Oe(h:p:=by rw[Int.tmod_eq_emod_of_nonneg O];exact m1):p:=h
def Og(h:p:=by simp only[Yj,not_or];exact⟨λe=>d e.symm,g⟩):p:=h
def Oh(h:p:=by rw[g];exact a):p:=h
def Oi(h:p:=by rw[d];simp):p:=h
def Oj(h:p:=by rw[a.a,qI rfl];apply ByteArray.ext;simp[xJ]):p:=h
def Ol(h:p:=by rw[<-j];exact(YP _ _ _ WU).trans (ZQ w _)):p:=h
def Om(h:p:=by simp[List.isPrefixOf];exact λe=>a e.symm):p:=h
def On(h:p:=by rw[xl f.a];exact ky):p:=h
def Oo(h:p:=by rw[qU];exact hk):p:=h
def Oq(h:p:=by rw[Zz g h.lt];exact h.p):p:=h
def Ot(h:p:=by have:=g0.a;rw[p7]at this;simpa using this.symm):p:=h
def Ou(h:p:=by rw[c2];omega):p:=h
def Ov(h:p:=by rw[c1];omega):p:=h
def Ow(h:p:=by simp only[Yq];omega):p:=h
def Ox(h:p:=by rcases b with rfl|rfl|rfl|rfl|rfl|rfl<;>omega):p:=h
def Oy(h:p:=by obtain⟨c,ty,fr,q1,a⟩:=h.2;exact(qB.1 a).1):p:=h
theorem Zp(h:p:=by
 refine ZT (S:=Pl w PA f t u) WR k.drew (λj=>?_);skip;refine tq 0 (ZI (w.heap.size+1)) j ?_;refine ZB 1 (I L f) rfl (λw hw=>VH) j ?_;refine tq 2 (I L d) j ?_;refine tq 3 (ZI (w.heap.size+1)) j ?_;refine ZB 4 (I L f) rfl (λw hw=>VH) j ?_;refine tq 5 (I L a) j ?_;refine tq 6 (ZI (w.heap.size+1)) j ?_;refine ZB 7 (I L f) rfl (λw hw=>VH) j ?_;refine tq 8 (I L a) j ?_;refine tq 9 (.pointer (S ⟨w.heap.size+3,a,N⟩)) j ?_;have G:D.drew.heap[w.heap.size+3]?=S (Z F 67):=l;have g1:=n6 n.a.2 G a l3;have g2:=n6 n.a.2 G d l1;have g3:=xr (i:=d) G;refine rd 10 λK hK=>?_;go_simp;refine hK.out _ _ j λj=>?_;clear hK K;refine tq 11 (.pointer (S ⟨w.heap.size+3,d,N⟩)) j ?_;refine rd 12 λK hK=>?_;go_simp;refine hK.out _ _ (j.set d _) λj=>?_;clear hK K;have o:=qv (i:=d) (v:=I Zg (q a).toNat) G;have J:Y (cT (vW q d (q a)) (F.setIfInBounds d (I Zg (q a).toNat))):=X (n.a.set d (q a));change Pl w PA f t u (D.drew.setCell ⟨w.heap.size+3,d,N⟩ (I Zg (q a).toNat))at j;change wpAnyH _ _ _ _ _ _ _ _ (D.drew.setCell ⟨w.heap.size+3,d,N⟩ (I Zg (q a).toNat));generalize D.drew.setCell ⟨w.heap.size+3,d,N⟩ (I Zg (q a).toNat)=wa at j o |-;generalize F.setIfInBounds d (I Zg (q a).toNat)=A7 at o J;have g4:=n6 J.a.2 o a l3;have g5:=xr (i:=a) o;refine tq 13 (.pointer (S ⟨w.heap.size+3,a,N⟩)) j ?_;refine rd 14 λK hK=>?_;go_simp;refine hK.out _ _ (j.set a _) λj=>?_;clear hK K;have P:=qv (i:=a) (v:=I Zg 46) o;have T:Y (cT (zE z b (f,t,u)) (A7.setIfInBounds a (I Zg 46))):=X (by rw[g8.a];exact J.a.set a 46);change Pl w PA f t u (wa.setCell ⟨w.heap.size+3,a,N⟩ (I Zg 46))at j;change wpAnyH _ _ _ _ _ _ _ _ (wa.setCell ⟨w.heap.size+3,a,N⟩ (I Zg 46));generalize wa.setCell ⟨w.heap.size+3,a,N⟩ (I Zg 46)=wb at j P |-;generalize A7.setIfInBounds a (I Zg 46)=A8 at P T;refine ZZ WR ?_ _;obtain⟨E,r2,r3,r4,r5⟩:=a1.a _ _ T.a j P;have B:=j.rs;clear k l G o g1 g2 g3 g4 g5 b1 b2 b3 b4 j J n;go_wp2_with(first
  | (refine ZV rfl 67 _ rfl (w.heap.size+3) rfl 67 A8 (0,0) _ P underlying67 rfl E ?_)
  | (refine ZU rfl 67 _ _ rfl (w.heap.size+2) A8 rfl rfl 67 kQ B E r2.symm r3 ?_))
 exact ZS (v:=Zc A8) (Yp results98 _ _ (w.heap.size+2) 67 A8 (0,0) _ rfl r4 underlying67 rfl E) rfl ⟨_,rfl,T.a,r5⟩):p:=h
def ZK(h:p:=by have d:=X (a.a.1 WU);clear a p;go_wp2_with(refine ZC w.heap.size zeroCells70 hR.a.2.1 xF xH ?_);exact ZS (v:=Ze #[Zc zeroCells70,Za Zl]) (qj results62 _ _ w.heap.size 70 _ (0,0) _ R (Zt hR.a.2.1) underlying70 rfl Vz) R ⟨d.a,hR.a.2.2.2.2.2.setRow _ Zy _⟩):p:=h
def ZM(h:p:=by rw[c3,l]at a;rw[c1,c2]at b;try rw[a];try rw[b];have k:Y (yd x y=Zk\/yg x y=Zk):=X Ux;clear a b;go_enter func247,ntmps247;go_wp2_with(first|(go_at_call 197;refine Z1 (xh _ O O _) ?_)|(refine ZV R 67 _ R w.heap.size R 67 A (0,0) _ Zv underlying67 rfl (by rw[o];exact x7) ?_)|(go_at_call 299;refine Z0 (zh A f m.a x y d g h j (pI x y) (LI x y) (FC x y d g h j k.a) (IX x y) (FF x y) (FD x y d g h j k.a) (Dp x y d g h j k.a) (FE x y d g h j k.a) _) λw' n=>?_));go_ret;exact⟨R,ZN.trans n⟩):p:=h
theorem Ww(h:p:=by
 skip;go_wp2_with(first
  | (go_at_call 196;refine Z1 (q.a d G _) ?_)
  | (go_at_call 116;refine Z0 (y.a _) λa1 a=>?_;obtain⟨e,J,K⟩:=v.a _ (Gr.trans l.a a);have m:=X (Gr.trans l.a a);clear a)
  | (refine ql Vb _ R w.heap.size R a0 p.a ?_))
 go_roundg C
 case measure=>omega
 case rel=>exact⟨d+1,O,R,m.a,n.a⟩):p:=h
def Wx(h:p:=by
 rw[c1,c2]at b;try rw[a]
 try rw[b]
 clear a b;go_enter func247,ntmps247;go_wp2_with((go_at_call 197;refine Z1 (xh _ O O _) ?_));go_ret;exact⟨R,ZN⟩):p:=h
def Wy(h:p:=by go_enter func195,ntmps195;go_wp2;go_ret;exact⟨R,R⟩):p:=h
def Wz(h:p:=by go_wp2;go_ret;exact⟨R,R⟩):p:=h
def WA(h:p:=by
 have a:=X f;have b:=X h;clear f h;obtain⟨e,hN⟩:∃e,e=T.length:=⟨_,R⟩;rw[<-hN]at i |-;go_enter func27,ntmps27;go_upto_region 3 with fail;go_wp2_with fail;go_loopg [5] e (λg v wr=>∃(j d:Nat),j+g=e/\v=I L j/\wr=w.drewN d)
 case atStart=>exact⟨0,0,O,R,R⟩
 case round=>
  obtain⟨j,d,x,rfl,rfl⟩:=hrel;by_cases m:j<e
  .obtain⟨r,rfl,n⟩:=a.a j O;obtain⟨u,rfl,o⟩:=b.a j O;have k:0<=(j:Int):=O;have l:(j:Int)<e:=O;generalize T[j]' O=y at n o;have q:=i6 y;go_upto_region 6 with fail;go_quiet(fail);all_goals
    go_wp2;go_roundg (gk-1)
    case measure=>omega
    case rel=>exact⟨j+1,_,O,Vg,R⟩
  .have p:j=e:=O;go_wp2;go_ret;exact⟨R,Gr.drewN (Gr.refl w) _⟩):p:=h
def WB(h:p:=by go_ret;exact⟨R,R⟩):p:=h
theorem WC(h:p:=by
 go_wp2_with(first
  | (refine ZV rfl 67 _ rfl (w.heap.size+3) rfl 67 F (0,0) _ l underlying67 rfl E ?_)
  | (refine ZU rfl 67 _ _ rfl (w.heap.size+2) F rfl rfl 67 kQ B E r2.symm r3 ?_))
 exact ZS (v:=Zc F) (Yp results98 _ _ (w.heap.size+2) 67 F (0,0) _ rfl r4 underlying67 rfl E) rfl ⟨_,rfl,y.a,r5⟩):p:=h
def WE(h:p:=by go_wp2;go_quiet(fail);go_wp2;go_ret;exact⟨Uo,Gr.trans u.a (Gr.drewN (a.a.alloc _ _) _)⟩):p:=h
def WF(h:p:=by subst e;clear a;go_enter func144,ntmps144;go_wp2;go_ret;exact⟨R,ZN⟩):p:=h
def WG(h:p:=by go_enter func144,ntmps144;go_wp2;go_ret;exact⟨R,ZN⟩):p:=h
theorem WH(h:p:=by
 clear f T H G u F;cases E
 .go_wp2_with(first
   | (refine Yo R 117 _ R b6 0 R QB.toList _ D underlying117 rfl Ri ?_;rw[Yb])
   | (refine Yo R 117 _ R (w.heap.size+1) 0 R Q.toList _ c6 underlying117 rfl SM ?_;rw[Yb])
   | (refine ax R _ _ R R R CQ.a ?_))
  go_ret2;exact⟨Zi R,M.a⟩
 .have hp:=J.a R;subst hp;go_wp2_with(first
   | (refine Yo R 117 _ R b6 0 R QB.toList _ D underlying117 rfl Ri ?_;rw[Yb])
   | (refine Yo R 117 _ R (w.heap.size+1) 0 R Q.toList _ c6 underlying117 rfl SM ?_;rw[Yb])
   | (refine ax R _ _ R R R CQ.a ?_))
  go_ret2;exact⟨Zj R,M.a⟩):p:=h
def WI(h:p:=by clear a;go_wp2_with(refine ZU R 87 _ _ R w.heap.size #[I L 0,I L 0,I Zg 0] R R 87 #[I L 0,I L 0,I Zg 0] k xW R Vi ?_);exact ZS (v:=Ze #[Zc #[I L 0,I L 0,I Zg 0],Za Zl]) (qj results56 _ _ w.heap.size 87 _ (0,0) _ R (Zt k) underlying87 rfl xW) R ⟨Tc,i.a.setRow _ Zy _⟩):p:=h
def WJ(h:p:=by
 rw[c3,k]at a;rw[c1,c2]at b;try rw[a]
 try rw[b]
 have l:Y (yd x y=Zk\/yg x y=Zk):=X Ux;clear a b;go_enter func247,ntmps247;go_wp2_with(first|(go_at_call 197;refine Z1 (xh _ O O _) ?_)|(refine ZV R 67 _ R w.heap.size R 67 A (0,0) _ Zv underlying67 rfl (by rw[q];exact x7) ?_)|(go_at_call 299;refine Z0 (zh A f m.a x y d g h j (pI x y) (LI x y) (FC x y d g h j l.a) (IX x y) (FF x y) (FD x y d g h j l.a) (Dp x y d g h j l.a) (FE x y d g h j l.a) _) λw' n=>?_));go_ret;exact⟨R,ZN.trans n⟩):p:=h
theorem WK(h:p:=by
 skip;have M:Y (V=xB f n 0):=X Uj;clear p a;go_wp2_with(first
  | (refine ZV R 186 _ R (w.heap.size+2) R 186 (xB f n 0) (0,0) _ F.a underlying186 rfl vI ?_)
  | (refine ZU R 186 _ _ R (w.heap.size+1) (xB f n 0) R R 186 (xB Zl 0 0) B.a vI R (xw _ _ _) ?_))
 exact ZS (v:=Zc (xB f n 0)) (Yp results112 _ _ (w.heap.size+1) 186 (xB f n 0) (0,0) _ R (Zt B.a) underlying186 rfl vI) R ⟨by rw[M.a],Gr.setRow g7.a _ O _⟩):p:=h
def WL(h:p:=by refine ZB 11 (Za Zl) R (λw i=>WV) j ?_;refine ZB 12 (Za Zl) R (λw i=>WV) j ?_;refine ZA 13 j ?_;refine ZA 14 j ?_;refine ZA 15 j ?_;refine ZA 16 j ?_;refine ZA 17 j ?_;refine ZA 18 j ?_;refine ZA 19 j ?_;refine ZA 20 j ?_;refine ZA 21 j ?_;refine ZA 22 j ?_;refine ZA 23 j ?_;refine ZB 24 (Za Zl) R (λw i=>WV) j ?_;refine ZZ WR ?_ _;gi_wp2;exact m1.a _ _ _ _ a9.a.drew (Fr.drew ZP) Ud Ud Ud):p:=h
def WM(h:p:=by go_ret;exact⟨R,ZN⟩):p:=h
def WN(h:p:=by
 obtain E|E:=E;all_goals
  obtain⟨u,x,y,z,A,B,C,D,rfl⟩:=uU hR.a;clear hR;go_wp2;go_region;go_wp2_with(go_at_call 200;refine Z1 (Tryz.strings_IndexByte _ _ _) ?_);refine ZS (v:=Ze #[Zc #[I Zg u,I Zg x,I Zg y,I Zg z,I Zg A,I Zg B,I Zg C,I Zg D],Za Zl]) Vr R ⟨Zj ⟨l.a,_,_,_,_,_,_,_,_,R⟩,?_⟩
  repeat(first|exact ZO|apply Gr.drew|apply Gr.drewN|apply Gr.alloc)):p:=h
def WO(h:p:=by
 go_wp2_with(go_at_call 190;refine Z0 (a9.a _ _) λw5 a=>?_;have c2:=(ZW a (p:=⟨r,2,N⟩) i).trans c2;have M:=(ZW a (p:=⟨w.heap.size+1,0,N⟩) g).trans M;have m1:=(ZW a (p:=⟨w.heap.size+1,1,N⟩) g).trans m1;have m2:=(ZW a (p:=⟨w.heap.size+1,2,N⟩) g).trans m2;have b:=b.next a;have i:=qN i (ZR a);have g:=qN g (ZR a));go_meet
 case rel=>exact⟨Un,b⟩):p:=h
def WP(h:p:=by clear F v x i d C D;go_wp2_with fail;go_ret;obtain⟨j,l,m,n,rfl,rfl,rfl,rfl,V,J⟩:=r.a;exact⟨_,_,_,_,R,V,J⟩):p:=h
def WQ(h:p:=by
 have e5:0<=(n:Int):=O;have e6:(n:Int)<64:=O;have cn:=F.at (b7.a n a8);have B:Y (V=(((z n).toNat:Int)==46)):=X (by
  rw[d2.a,qJ d3,hn.a];by_cases e:z n=46
  .rw[e];rfl
  .have:¬ ((z n).toNat:Int)=46:=λq=>e (q6.1 (by show(z n).toNat=46;omega));rw[qE e,qM.2 this];rfl)
 clear d3 d1 hn;go_wp2_with fail;go_ret;exact⟨Up,j.a⟩):p:=h
def Oz(h:p:=by
 rw[qF c1];by_cases c2:n=f
 .rw[qI c2,xp];refine⟨λe=>O,λe=>?_⟩;have:=(d f a.hf).2 (c2.symm.trans e);rw[a.hc]at this;omega
 .rw[qF c2];by_cases c3:n=cs
  .rw[qI c3,xp];refine⟨λe=>O,λe=>?_⟩;have:=(d n j).2 e;obtain g|g:=l
   .exact absurd (c3.trans g) c1
   .rw[c3,g]at this;omega
  .rw[qF c3];exact d n j):p:=h
def OB(h:p:=by
 go_wp2_with fail;go_meet
 case rel=>exact⟨UG,R⟩):p:=h
def OC(h:p:=by repeat(first|exact ZO|apply Gr.drew|apply Gr.drewN|apply Gr.alloc)):p:=h
def OD(h:p:=by
 go_wp2_with fail;go_meet
 case rel=>exact⟨V8,R⟩):p:=h
def OE(h:p:=by rw[qQ a]at this;rw[qP this];rfl):p:=h
def OF(h:p:=by
 subst a5;clear z1 z2 w7 M;go_upto_region 18 with(go_at_call 110;refine Z0 (k.a _) λV E=>?_);have c4:=X (h6.a.next E);obtain⟨n0,n1,n2⟩:=qm c4.a.mv;clear E;go_wp2_with fail;go_meet
 case rel=>exact⟨Ur,c4.a⟩):p:=h
def OG(h:p:=by
 refine F.mono ?_;rintro e W4 ⟨f4,⟨rfl,M⟩|⟨rfl,E⟩⟩
 .gi_wp2;go_end0;exact⟨⟨_,R⟩,Zi (by rw[<-h.a];exact M)⟩
 .gi_wp2;go_end0;exact⟨⟨_,R⟩,Zj ⟨_,by rw[<-h.a];exact List.prefix_refl _,E⟩⟩):p:=h
def OH(h:p:=by split at h<;>(try split at h)<;>omega):p:=h
def OI(h:p:=by
 refine ZB 15 (Za Zk) R (λw j=>WZ) l ?_;refine ZZ WR ?_ _;have B:=X l;clear l hR;go_wp2_with fail;go_roundg (gk-1)
 case measure=>omega
 case rel=>exact⟨k+1,O,Vg,by rw[m.a.1],by rw[m.a.2.1],by rw[m.a.2.2],B.a⟩):p:=h
def OL(h:p:=by rcases a with rfl|rfl|rfl|rfl<;>decide):p:=h
def OM(h:p:=by
 gi_wp2_with ((with_reducible apply YB);(first|exact trivial|(intro _ _;trivial)));go_roundw
 case rel=>exact⟨k+1,O,R,c0,j.a,by rw[i.a];exact a.a⟩
 case measure=>simp only[intOf];omega):p:=h
theorem ON(h:p:=by
 go_wp2_with(first
  | (go_at_call 291;refine Z0 M.a λw3 a5=>?_)
  | (go_at_call 159;refine Z0 (J.a _ a5) λw4⟨a2,a3⟩=>?_;have z:=X (YB a2 a3);clear a2 a3))
 go_end0;exact⟨R,z.a⟩):p:=h
def OO(h:p:=by
 have c3:=K.cell c0 (λ_ _=>Zi (Zi R));have c4:=j.a.fr K (λ_ _=>Zi (Zj R));gi_wp2;go_roundw
 case rel=>exact⟨k+1,O,R,c3,c4,by rw[u.a];exact A⟩
 case measure=>simp only[intOf];omega):p:=h
def OP(h:p:=by
 go_wp2_with fail;go_meet
 case rel=>exact⟨Ty,R⟩):p:=h
def OQ(h:p:=by clear F a9 hg a7;go_wp2_with(go_at_call 196;refine Z1 (d4.a _) ?_);go_quiet((go_at_call 195;exact YT (f2.a _ _ UQ)));go_wp2;go_ret;exact⟨Vy,Gr.trans o.a (Gr.drewN i.a _)⟩):p:=h
def OR(h:p:=by
 go_wp2_with fail;go_roundg (gk-1)
 case measure=>omega
 case rel=>exact⟨k+1,O,Vg,Tj,h.a⟩):p:=h
def OS(h:p:=by rw[c3,l]at a;rw[c1,c2]at b;try rw[a];try rw[b];clear a b;go_enter func247,ntmps247;go_wp2_with((go_at_call 197;refine Z1 (xh _ O O _) ?_));go_ret;exact⟨R,ZN⟩):p:=h
def OT(h:p:=by refine ZZ WR ?_ _;go_wp2_with fail;go_ret;exact⟨R,a.gr⟩):p:=h
def OU(h:p:=by go_wp2;go_ret;first|exact⟨R,R⟩|exact⟨xo e.symm,R⟩):p:=h
def OV(h:p:=by
 obtain h|h|h:=h
 .omega
 .omega
 .have:=dt s O;rw[h.2]at this;simpa using this.symm):p:=h
def OW(h:p:=by
 obtain q|q:=q
 .exact Or.inl q
 .right;have:=dt s O;rw[this]at q;have:s[0]≠48:=λe=>q (by rw[e]);simp only[qM];intro e;exact this (q6.mp WX)):p:=h
def OX(h:p:=by refine ZZ WR ?_ _;go_wp2_with fail;exact ZS (qj results278 _ _ w.heap.size 70 _ (0,0) _ R (Zt a0) underlying70 rfl T8) R ⟨g.a,a.gr⟩):p:=h
def OY(h:p:=by simpa using this):p:=h
def OZ(h:p:=by
 go_wp2_with fail;go_meet
 case rel=>exact⟨R,R⟩):p:=h
def O0(h:p:=by clear P Q;go_wp2_with(go_at_call 69;refine Z0 (hN.a _) λw5 j=>?_);have B:=X (Gr.trans d.gr j);clear d j;go_ret;exact⟨Td,B.a⟩):p:=h
def O1(h:p:=by rcases this with rfl|rfl|rfl|rfl<;>rfl):p:=h
def O2(h:p:=by go_wp2;go_ret;exact⟨Vy,s9.a⟩):p:=h
def O3(h:p:=by
 clear H E v h1 D Q T hV;go_wp2_with fail;all_goals
  go_meet
  case rel=>exact⟨by first|(rw[h3.a];done)|(rw[h3.a];simp[*]),R⟩):p:=h
def O4(h:p:=by go_enter Tryz.func217,Tryz.ntmps217;go_wp2;go_ret2;exact⟨a.a,R⟩):p:=h
def O5(h:p:=by go_wp2_with fail;go_ret2;exact⟨a.a _ _,F⟩):p:=h
def O6(h:p:=by go_simp;refine hK.out _ _ l λl=>?_;clear hK K;refine ZZ WR ?_ _;go_wp2_with fail;go_ret;exact⟨by rw[hN.a];rfl,l.2⟩):p:=h
def O7(h:p:=by exact absurd (Xn List.length h) (by simp[zF])):p:=h
def O8(h:p:=by
 intro k a;obtain⟨rfl,_⟩|⟨g,cap,cur,rfl,b,_⟩:=h.2
 .simp[Value.ownBlock]at a
 .simp[Value.ownBlock]at a;omega):p:=h
def O9(h:p:=by
 intro q a;obtain⟨rfl,_⟩|⟨b,cap,cur,rfl,d,_⟩:=h.2
 .simp[Value.ownBlock]at a
 .obtain rfl:b=q:=Uw;exact d):p:=h
def No(h:p:=by
 intro k a;obtain⟨rfl,_⟩|⟨g,cap,cur,rfl,b,_⟩:=h.2
 .simp[Value.ownBlock]at a
 .obtain rfl:g=k:=Uw;exact b):p:=h
def MW(h:p:=by go_ret2;exact⟨R,R⟩):p:=h
def JE(h:p:=by
 have b3:=X w3;subst J;clear m d A x k l v D x3 b2 w3;go_wp2_with fail;go_meet
 case rel=>exact⟨T0,H.a⟩):p:=h
def Ia(h:p:=by subst y;have z:Y (xJ (uY f t 0)=k):=X Oj;clear a;go_wp2_with fail;go_ret;exact⟨by rw[z.a];rfl,q.a⟩):p:=h
def Ic(h:p:=by obtain⟨B,b,d,_⟩:=FM s p a;have:=gC b d;exact⟨jV p,Zk,R,this.1,this.2,λ_=>⟨p,a,R⟩,λh=>Ub⟩):p:=h
def Id(h:p:=by have B:Y (V=Zl):=X (by rw[d2.a,qE d1,qE o];rfl);clear d1 o;go_wp2_with fail;go_ret;exact⟨Up,j.a⟩):p:=h
theorem Ie(h:p:=by
 go_wp2_with(first
  | (go_at_call 115;refine Z1 (g9.a _ _) ?_))
 go_ret;exact⟨by rw[a5.a];rfl,j.a⟩):p:=h
def If(h:p:=by
 by_cases e:z t=46
 .rw[e];rfl
 .have:((z t).toNat:Int)≠46:=λq=>e (q6.1 UE);rw[qU.2 this,qE e];rfl):p:=h
def Ih(h:p:=by obtain⟨q,l,e⟩:=jw g s v;rw[e]at h;injection h with h _;exact absurd h.symm (FR (q%8) O 0 O).2):p:=h
def Ii(h:p:=by obtain⟨⟨v,base,rfl,_,g⟩,d⟩:=h;obtain⟨p1,c1,rfl,b⟩:=PH g;exact⟨⟨p1,c1,R,b⟩,d⟩):p:=h
def Ij(h:p:=by
 have:i=0\/i=1\/i=2\/i=3:=O;obtain rfl|rfl|rfl|rfl:=this
 .exact c0
 .exact c1
 .exact c2
 .exact c3):p:=h
def Ik(h:p:=by have h:((n:Int)-8).toNat=n-8:=O;have i:((n:Int)+8).toNat=n+8:=O;unfold xX;rw[e,f,g,h,i,YE];rfl):p:=h
def Im(h:p:=by obtain⟨q,l,e⟩:=jw f t u;rw[e]at h;injection h with h _;exact absurd h (FR (q%8) O 0 O).2):p:=h
def In(h:p:=by go_wp2;go_ret;exact⟨Vy,s7.a _ _⟩):p:=h
def Io(h:p:=by show(match f (Lib.join [a,b,c,d] [32]++I')with|some x=>(G' r).map (x,·)|none=>N)=_;rw[h]):p:=h
def Ip(h:p:=by
 go_meet
 case rel=>exact⟨Ur,P.a⟩):p:=h
def Iq(h:p:=by
 by_cases e:u=0
 .subst e;rfl
 .have:(u.toNat:Int)≠0:=λh=>e (q6.1 Vq);rw[qU.2 this,qJ e]):p:=h
def Ir(h:p:=by
 go_wp2_with fail;go_roundg (gk-1)
 case measure=>omega
 case rel=>exact⟨k+1,O,Vg,C.a⟩):p:=h
def Is(h:p:=by unfold U_;rw[e];show(match f (h++I')with|some a=>(pL t).map (a,·)|none=>N)=_;rw[b]):p:=h
def Iu(h:p:=by
 split
 .omega
 .split<;>omega):p:=h
def Iv(h:p:=by
 go_roundg (gk-1)
 case measure=>omega
 case rel=>exact⟨k+1,O,Vg,Tj,Gr.trans h.a q⟩):p:=h
def Iw(h:p:=by
 go_meet
 case rel=>exact⟨Td,R⟩):p:=h
def Iy(h:p:=by simp[World.setCell,d,Array.getElem_modify,a]):p:=h
def Iz(h:p:=by gi_wp2;refine⟨λ_ h=>Ub,?_⟩;gi_wp2;exact⟨ZP,R,Zi (by rw[e.a];exact a2)⟩):p:=h
def IA(h:p:=by unfold zQ at h;rw[k.cap]at h;injection h with h _;exact absurd h.symm (E9 j A)):p:=h
def IB(h:p:=by
 go_wp2_with fail;go_meet
 case rel=>exact⟨_,R,w6.a,by rw[p.a];exact F.a⟩):p:=h
def IC(h:p:=by
 go_wp2_with fail;go_meet
 case rel=>exact⟨_,R,G.a,by rw[T.a];exact b0.a⟩):p:=h
def ID(h:p:=by
 constructor
 .rintro⟨a,b⟩;omega
 .rintro(⟨a,b⟩|⟨a,b,c,d⟩)<;>omega):p:=h
def IE(h:p:=by rw[UInt8.ofNat_toNat]at this;exact this h):p:=h
def IF(h:p:=by unfold zQ at h;rw[d.cap]at h;injection h with h _;exact absurd h (E9 i w)):p:=h
def IG(h:p:=by refine⟨by simp[r.size],λi a=>?_⟩;rw[Xu,Yv,qI a,qO];exact r.sq i a):p:=h
def IH(h:p:=by rw[qz O];exact r.sq j a):p:=h
def II(h:p:=by go_enter func190,ntmps190;go_wp2_with fail;go_ret;exact⟨R,b.a⟩):p:=h
def IJ(h:p:=by go_enter func102,ntmps102;go_wp2_with fail;go_ret;exact⟨R,a.a⟩):p:=h
def IK(h:p:=by obtain⟨E,r2,r3,r4,r5⟩:=a1.a _ _ y.a k l;have B:=(k).rs;clear m Q R v n;go_upto_region 11 with(first|(go_at_call 121;refine(g6.a _).mono ?_;rintro e w' ⟨rfl,rfl⟩)|(go_at_call 120;refine(a2.a _).mono ?_;rintro e D ⟨rfl,rfl⟩));exact WC):p:=h
def IL(h:p:=by obtain⟨u,x,y,z,A,B,C,D,rfl⟩:=uU hR.a;clear hR;go_wp2;go_region;go_wp2;refine ZS (v:=Ze #[Zc #[I Zg u,I Zg x,I Zg y,I Zg z,I Zg A,I Zg B,I Zg C,I Zg D],Za Zl]) Vr R ⟨Zj ⟨l.a,_,_,_,_,_,_,_,_,R⟩,?_⟩;exact OC):p:=h
def IM(h:p:=by go_wp2_with(first|(go_at_call 251;refine(qkl _ _).mono ?_;rintro e w' ⟨rfl,rfl⟩)|(go_at_call 252;refine(qj9 _ _).mono ?_;rintro e w' ⟨rfl,rfl⟩)|(go_at_call 253;refine Z1 (Dw _ _ _ WW WW) ?_));exact WB):p:=h
def IN(h:p:=by go_wp2_with(first|(go_at_call 307;refine(gp _ _ _ a b _).mono ?_;rintro e w' ⟨rfl,rfl⟩)|(go_at_call 253;refine Z1 (Dw _ _ _ O O) ?_));exact WB):p:=h
def IW(h:p:=by go_enter func199,ntmps199;exact Wz):p:=h
def IP(h:p:=by rw[a.a];clear r d;have e:Zl=v:=UD;exact WF):p:=h
def IQ(h:p:=by
 cases b
 .show Calls prog 195 #[I L 5,I L (-1)] w _;exact Wy
 .show Calls prog 195 #[I L 5,I L 1] w _;exact Wy):p:=h
def IR(h:p:=by
 cases b
 .show Calls prog 195 #[I L 3,I L (-1)] w _;exact Wy
 .show Calls prog 195 #[I L 3,I L 1] w _;exact Wy):p:=h
def IS(h:p:=by
 cases b
 .show Calls prog 195 #[I L 0,I L (-1)] w _;exact Wy
 .show Calls prog 195 #[I L 0,I L 1] w _;exact Wy):p:=h
def IT(h:p:=by clear y d a7 A x k l v;exact OD):p:=h
def IU(h:p:=by
 go_simp;refine hK.out _ _ a λa=>?_;clear hK K;try simp only[py]
 exact OT):p:=h
open Go.RowKit Go.ChangeShapes Go.WideShapes Go.ChangeAt Go.Shelf
def Zr{α:Type _}:(∀l:List α,l.toArray.size=l.length)∧(∀(a:α) l,(a::l).length=l.length+1)∧(([]:List α).length=0)∧(∀(a:α) n,Array.replicate (n+1) a=(Array.replicate n a).push a)∧(∀a:α,Array.replicate 0 a=#[])∧(∀(l:List α) a,l.toArray.push a=(l++[a]).toArray)∧(∀(l m:List α),l.toArray++m.toArray=(l++m).toArray)∧(∀l:List α,[]++l=l)∧(∀(a:α) l m,(a::l)++m=a::(l++m)):=⟨@List.size_toArray α,@List.length_cons α,@List.length_nil α,fun a n=>Array.replicate_succ,fun a=>Array.replicate_zero,@List.push_toArray α,@List.append_toArray α,@List.nil_append α,@List.cons_append α⟩
def Zs{w:World}{g j:Nat}{cs:Array Value}{t:TypeId}{fr:Nat×Nat}(h:w.heap[g]?=some (.cells cs t fr)):w.cell? ⟨g,j,none⟩=cs[j]?:=cell_of_row _ _ _ _ _ _ h
def Zt{w:World}{g:Nat}{old cs:Array Value}{t:TypeId}{fr:Nat×Nat}(h:w.heap[g]?=some (.cells old t fr)):(w.setRow g cs).heap[g]?=some (.cells cs t fr):=setRow_heap _ _ _ _ _ _ h
def Zu{w:World}{g k:Nat}{cs:Array Value}(h:k≠g):(w.setRow g cs).heap[k]?=w.heap[k]?:=setRow_other _ _ _ _ h
def Zv{w:World}{o:Obj}:(w.alloc o).heap[w.heap.size]?=some o:=World.alloc_heap_new w o
def Zw{w:World}{A B:Obj}:((w.alloc A).alloc B).heap[w.heap.size+1]?=some B:=heap_alloc2_new w A B
def Zx{w:World}{a:Addr}{u:Value}(h:w.cell? a=some u):a.block<w.heap.size:=World.block_lt_of_cell? _ _ h
def Zy{n:Nat}:n<=n:=Nat.le_refl n
def Zz{B k:Nat}{w v:World}(h:Below B w v)(l:k<B):v.heap[k]?=w.heap[k]?:=Below.block h k l
def ZQ:type_of% @World.alloc_heap_new:=@World.alloc_heap_new
def ZR:type_of% @Below.size:=@Below.size
def ZS:type_of% @bodyPost_ret:=@bodyPost_ret
def ZT:type_of% @wp_region_held_drew:=@wp_region_held_drew
def ZU:type_of% @wpList_store_row:=@wpList_store_row
def ZV:type_of% @wpList_load_row:=@wpList_load_row
def ZW:type_of% @Below.cell:=@Below.cell
def ZX:type_of% @Array.length_toList:=@Array.length_toList
def ZY:type_of% @callsIn_wide:=@callsIn_wide
def ZZ:type_of% @wpAnyH_done:=@wpAnyH_done
def Z2:type_of% @Nat.zero_add:=@Nat.zero_add
def Z3:type_of% @World.size_alloc:=@World.size_alloc
def Z5:type_of% @List.getElem?_eq_some_iff:=@List.getElem?_eq_some_iff
def Z6:type_of% @Array.getElem?_eq_none:=@Array.getElem?_eq_none
def Z7:type_of% @heap_alloc_new:=@heap_alloc_new
def Z8:type_of% @World.cell?_alloc_at:=@World.cell?_alloc_at
def Z9:type_of% @wpIn_wide:=@wpIn_wide
def Ya:type_of% @List.size_toArray:=@List.size_toArray
def Yb:type_of% @Array.toArray_toList:=@Array.toArray_toList
def Yc:type_of% @AllReadyH.cons:=@AllReadyH.cons
def Yd:type_of% @List.take_succ_eq_append_getElem:=@List.take_succ_eq_append_getElem
def Ye:type_of% @World.block_lt_of_cell?:=@World.block_lt_of_cell?
def Yf:type_of% @List.getElem?_eq_getElem:=@List.getElem?_eq_getElem
def Yg:type_of% @Below.heap_setCell:=@Below.heap_setCell
def Yh:type_of% @List.append_nil:=@List.append_nil
def Yi:type_of% @List.mem_append:=@List.mem_append
def Yj:type_of% @List.mem_cons:=@List.mem_cons
def Yk:type_of% @List.take_of_length_le:=@List.take_of_length_le
def Yl:type_of% @BitVec.getLsbD_and:=@BitVec.getLsbD_and
def Ym:type_of% @Bool.or_eq_true:=@Bool.or_eq_true
def Yn:type_of% @ByteArray.size_append:=@ByteArray.size_append
def Yo:type_of% @wpList_load_mid:=@wpList_load_mid
def Yp:type_of% @results_cell_row:=@results_cell_row
def Yq:type_of% @List.length_cons:=@List.length_cons
def Yr:type_of% @Below.setCell:=@Below.setCell
def Ys:type_of% @List.map_append:=@List.map_append
def Yt:type_of% @Int.eq_ofNat_of_zero_le:=@Int.eq_ofNat_of_zero_le
def Yu:type_of% @Array.getElem?_setIfInBounds:=@Array.getElem?_setIfInBounds
def Yv:type_of% @List.getElem?_take:=@List.getElem?_take
def Yw:type_of% @Array.getElem?_append_right:=@Array.getElem?_append_right
def Yx:type_of% @BitVec.getLsbD_or:=@BitVec.getLsbD_or
def Yy:type_of% @Nat.not_lt_zero:=@Nat.not_lt_zero
def Yz:type_of% @List.length_eq_zero_iff:=@List.length_eq_zero_iff
def YA:type_of% @List.cons_append:=@List.cons_append
def YB:type_of% @And.intro:=@And.intro
def YC:type_of% @enters_of:=@enters_of
def YD:type_of% @List.length_map:=@List.length_map
def YE:type_of% @Int.toNat_natCast:=@Int.toNat_natCast
def YF:type_of% @beq_iff_eq:=@beq_iff_eq
def YG:type_of% @Below.block:=@Below.block
def YH:type_of% @if_false:=@if_false
def YI:type_of% @List.range_succ:=@List.range_succ
def YJ:type_of% @List.filter_append:=@List.filter_append
def YK:type_of% @Bool.not_eq_true':=@Bool.not_eq_true'
def YL:type_of% @List.mem_map:=@List.mem_map
def YM:type_of% @List.map_cons:=@List.map_cons
def YN:type_of% @List.getElem?_map:=@List.getElem?_map
def YO:type_of% @IntKind.wrap_i64:=@IntKind.wrap_i64
def YP:type_of% @Below.heap_alloc:=@Below.heap_alloc
def YQ:type_of% @wp_store_row:=@wp_store_row
def YR:type_of% @List.getD_eq_getElem?_getD:=@List.getD_eq_getElem?_getD
def YS:type_of% @if_true:=@if_true
def YT:type_of% @Calls.quiet_of_same:=@Calls.quiet_of_same
def YU:type_of% @run_takeDeferred:=@run_takeDeferred
def YV:type_of% @Array.ext_getElem?:=@Array.ext_getElem?
def YW:type_of% @Bool.eq_iff_iff:=@Bool.eq_iff_iff
def YX:type_of% @List.mem_flatMap:=@List.mem_flatMap
def YY:type_of% @ByteArray.size_data:=@ByteArray.size_data
def YZ:type_of% @World.cell?_alloc_past:=@World.cell?_alloc_past
def Y7:type_of% @Array.getElem?_append:=@Array.getElem?_append
def Y8:type_of% @List.length_filter_le:=@List.length_filter_le
def Y9:type_of% @List.getElem?_eq_none:=@List.getElem?_eq_none
def Xa:type_of% @size_setRow:=@size_setRow
def Xb:type_of% @AllReadyH.nil:=@AllReadyH.nil
def Xc:type_of% @Bool.true_and:=@Bool.true_and
def Xd:type_of% @Classical.byContradiction:=@Classical.byContradiction
def Xe:type_of% @CallsIn.inRound:=@CallsIn.inRound
def Xf:type_of% @List.all_append:=@List.all_append
def Xg:type_of% @List.mem_cons_of_mem:=@List.mem_cons_of_mem
def Xh:type_of% @Option.some.injEq:=@Option.some.injEq
def Xi:type_of% @List.getElem?_take_of_lt:=@List.getElem?_take_of_lt
def Xj:type_of% @List.flatMap_append:=@List.flatMap_append
def Xk:type_of% @wpAnyH_ready:=@wpAnyH_ready
def Xl:type_of% @Lib.toList_data:=@Lib.toList_data
def Xm:type_of% @run_part_plain:=@run_part_plain
def Xn:type_of% @congrArg:=@congrArg
def Xo:type_of% @Bool.false_or:=@Bool.false_or
def Xp:type_of% @Option.map_eq_some_iff:=@Option.map_eq_some_iff
def Xq:type_of% @List.prefix_append_right_inj:=@List.prefix_append_right_inj
def Xr:type_of% @Option.isSome_iff_exists:=@Option.isSome_iff_exists
def Xs:type_of% @List.getElem_mem:=@List.getElem_mem
def Xt:type_of% @List.length_take:=@List.length_take
def Xu:type_of% @List.getElem?_toArray:=@List.getElem?_toArray
def Xv:type_of% @wpList_append_own:=@wpList_append_own
def Xw:type_of% @World.putObj_heap_other:=@World.putObj_heap_other
def Xx:type_of% @Array.getElem?_append_left:=@Array.getElem?_append_left
def Xy:type_of% @run_string_add_sum:=@run_string_add_sum
def Xz:type_of% @List.prefix_append:=@List.prefix_append
def XA:type_of% @List.take_length:=@List.take_length
def XB:type_of% @decide_eq_decide:=@decide_eq_decide
def XC:type_of% @List.not_mem_nil:=@List.not_mem_nil
def XD:type_of% @List.any_eq_false:=@List.any_eq_false
def XE:type_of% @List.mem_cons_self:=@List.mem_cons_self
def XF:type_of% @BitVec.eq_of_getLsbD_eq:=@BitVec.eq_of_getLsbD_eq
def XG:type_of% @List.map_eq_cons_iff:=@List.map_eq_cons_iff
def XH:type_of% @Bool.not_eq_true:=@Bool.not_eq_true
def XI:type_of% @List.exists_cons_of_ne_nil:=@List.exists_cons_of_ne_nil
def XJ:type_of% @List.getElem_cons_zero:=@List.getElem_cons_zero
def XK:type_of% @Bool.false_and:=@Bool.false_and
def XL:type_of% @Below.refl:=@Below.refl
def XM:type_of% @BitVec.getLsbD_zero:=@BitVec.getLsbD_zero
def XN:type_of% @List.length_nil:=@List.length_nil
def XO:type_of% @Array.getElem?_setIfInBounds_ne:=@Array.getElem?_setIfInBounds_ne
def XP:type_of% @List.drop_eq_getElem_cons:=@List.drop_eq_getElem_cons
def XQ:type_of% @List.take_append_drop:=@List.take_append_drop
def XR:type_of% @List.append_inj':=@List.append_inj'
def XS:type_of% @results_none:=@results_none
def XT:type_of% @Nat.mul_le_mul_right:=@Nat.mul_le_mul_right
def XU:type_of% @Bool.and_false:=@Bool.and_false
def XV:type_of% @Result.andThen_ok:=@Result.andThen_ok
def XW:type_of% @yieldsIf_load_mid:=@yieldsIf_load_mid
def XY:type_of% @List.dropLast_concat_getLast:=@List.dropLast_concat_getLast
def XZ:type_of% @belowK_b:=@belowK_b
def X0:type_of% @List.getElem_cons_succ:=@List.getElem_cons_succ
def X1:type_of% @List.filter_eq_nil_iff:=@List.filter_eq_nil_iff
def X2:type_of% @Addr.add_lit:=@Addr.add_lit
def X3:type_of% @Bool.not_false:=@Bool.not_false
def X4:type_of% @List.pairwise_flatMap:=@List.pairwise_flatMap
def X5:type_of% @Option.filter_eq_some_iff:=@Option.filter_eq_some_iff
def X6:type_of% @List.nodup_cons:=@List.nodup_cons
def X7:type_of% @List.cons.injEq:=@List.cons.injEq
def X8:type_of% @Nat.pow_le_pow_right:=@Nat.pow_le_pow_right
def X9:type_of% @World.cell?_of_block:=@World.cell?_of_block
def Wa:type_of% @Bool.eq_false_or_eq_true:=@Bool.eq_false_or_eq_true
def Wc:type_of% @List.all_cons:=@List.all_cons
def We:type_of% @info_parts:=@info_parts
def Wf:type_of% @dif_pos:=@dif_pos
def Wg:type_of% @List.take_append_of_le_length:=@List.take_append_of_le_length
def Wh:type_of% @results_tmp:=@results_tmp
def Wi:type_of% @List.map_nil:=@List.map_nil
def Wj:type_of% @List.nil_append:=@List.nil_append
def Wl:type_of% @Bool.and_true:=@Bool.and_true
def Wm:type_of% @List.mem_of_getElem?:=@List.mem_of_getElem?
def Wn:type_of% @List.not_lt:=@List.not_lt
def Wo:type_of% @Array.all_append:=@Array.all_append
def Wp:type_of% @cell_one_new:=@cell_one_new
def Wr:type_of% @List.getElem?_drop:=@List.getElem?_drop
def Ws:type_of% @List.drop_eq_nil_of_le:=@List.drop_eq_nil_of_le
def Wu:type_of% @ByteArray.size_extract:=@ByteArray.size_extract
def Wv:type_of% @List.all_eq_false:=@List.all_eq_false
end Go.Proofs.YtnfakamfmkhlbabGreatDoor
namespace Go.Proofs.YtnfakamfmkhlbabGreatDoor.C
open Go.RowKit
abbrev ZI (g:Nat):Value:=.pointer (some ⟨g,0,none⟩)
abbrev ZJ (f t:Nat)(u:UInt8):Array Value:=#[.int .i64 (f:Int),.int .i64 (t:Int),.int .u8 (u.toNat:Int)]
def Z0 {P:Program}{F:Nat}{a:Array Value}{w:World}{v:Value}{Q:Ending->World->Prop}{R:World->Prop}(h:Calls P F a w fun e x=>e=.returned v/\R x)(k:∀ x,R x->Q (.returned v) x):Calls P F a w Q:=h.mono fun _ x q=>q.1 ▸ k x q.2
def Z1 {P:Program}{F:Nat}{a:Array Value}{w:World}{v:Value}{Q:Ending->World->Prop}(h:Calls P F a w fun e x=>e=.returned v/\x=w)(k:Q (.returned v) w):Calls P F a w Q:=h.mono fun _ x q=>by rw [q.1,q.2]; exact k
section
variable {P:Program}{md:Region.Mode}{ops:Array Oper}{Q:Exit->Act->World->Prop}{S:World->Prop}
def ZA (i:Nat){oi:Oper}{fuel:Nat}{listed:Array Bool}{a a':Act}{w:World}(hS:S w)
 (h:wpAnyH P md ops Q S fuel (listed.setIfInBounds i true) a' w)(hi:ops[i]?=some oi:=by rfl)(ha:a.put oi.dst undef=a':=by conv=>lhs; simp only [Act.put,p1,p2,p3,p4,p5,p6])(hy:YieldsIf P ops S oi undef a:=by exact Or.inr ⟨by kernel_rfl,rfl⟩)
 (hs:Region.noSelect ops=true:=by kernel_rfl)(hf:Region.free md ops listed i=true:=by kernel_rfl)(hr:(Region.ready md ops listed).contains i=true:=by kernel_rfl)
 (hQ:∀ c a w,Q (.panic c) (a.put oi.dst undef) w->Q (.panic c) a w:=by exact fun _ _ _ h=>h):wpAnyH P md ops Q S (fuel + 1) listed a w:=wpAnyH_take hi hs hf hr hQ hy hS (ha ▸ h)
def ZB (i:Nat)(v:Value){oi:Oper}{fuel:Nat}{listed:Array Bool}{a a':Act}{w:World}(hi:ops[i]?=some oi)(hy:∀ w,S w->(execOp a.eval oi).run P w=.ok (.value v) w)(hS:S w)
 (h:wpAnyH P md ops Q S fuel (listed.setIfInBounds i true) a' w)(ha:a.put oi.dst v=a':=by conv=>lhs; simp only [Act.put,p1,p2,p3,p4,p5,p6])(hw:Region.wanted oi (yielded ops a.tmps)=true:=by kernel_rfl)
 (hs:Region.noSelect ops=true:=by kernel_rfl)(hf:Region.free md ops listed i=true:=by kernel_rfl)(hr:(Region.ready md ops listed).contains i=true:=by kernel_rfl)
 (hQ:∀ c a w,Q (.panic c) (a.put oi.dst v) w->Q (.panic c) a w:=by exact fun _ _ _ h=>h):wpAnyH P md ops Q S (fuel + 1) listed a w:=wpAnyH_take hi hs hf hr hQ (.inl ⟨hw,hy⟩) hS (ha ▸ h)
end
def ZG:(Tryz.prog.info? 70).map (·.size)=some 72:=by kernel_rfl
def ZC {ops:Array Oper}{rest:List Oper}{o:Oper}{a:Act}{w:World}{Q:Exit->Act->World->Prop}(g:Nat)(cs:Array Value)(hg:w.heap[g]?=some (.cells Tryz.zeroCells70 70 (0,0)))(hz:cs.size=72)(h1:cs.all (·.oneCell')=true)
 (h:wpList Tryz.prog ops Q rest (a.put o.dst undef) (w.setRow g cs)){x y:Operand}(hgd:o.guard=none:=by rfl)(ho:o.op=.store 70 x y:=by rfl)(hx:a.eval x=.pointer (some ⟨g,0,none⟩):=by rfl)(hy:a.eval y=.agg cs:=by rfl):wpList Tryz.prog ops Q (o :: rest) a w:=
 wpList_store_row hgd 70 x y ho g cs hx hy 70 _ hg (by rw [hz]; exact ZG) (by rw [hz]; kernel_rfl) h1 h
def ZD {ops:Array Oper}{rest:List Oper}{o:Oper}{a:Act}{w:World}{Q:Exit->Act->World->Prop}(g:Nat)(cs:Array Value)(hg:w.heap[g]?=some (.cells cs 70 (0,0)))(hz:cs.size=72)
 (h:wpList Tryz.prog ops Q rest (a.put o.dst (.agg cs)) w){x:Operand}(hgd:o.guard=none:=by rfl)(ho:o.op=.load 70 x:=by rfl)(hx:a.eval x=.pointer (some ⟨g,0,none⟩):=by rfl):wpList Tryz.prog ops Q (o :: rest) a w:=
 wpList_load_row hgd 70 x ho g hx 70 cs (0,0) _ hg Tryz.underlying70 rfl (by rw [hz]; exact ZG) h
def ZE {g:Nat}{w W:World}{o:Obj}(h:Below w.heap.size w W)(e:w.heap[g]?=some o):W.heap[g]?=some o:=(Below.block h _ (Array.getElem?_eq_some_iff.1 e).1).trans e
instance cz_0:Coe Go.World Nat:=⟨fun w=>w.heap.size⟩
instance cz_1:Coe Int Go.Value:=⟨Go.Value.int .i64⟩
instance cz_2:Coe Nat Go.Value:=⟨fun n=>.int .i64 n⟩
instance cz_3:Coe ByteArray Go.Value:=⟨.string⟩
instance cz_4:Coe Bool Go.Value:=⟨.bool⟩
instance cz_5:Coe (Array Go.Value) Go.Value:=⟨.agg⟩
instance cz_6:Coe Go.Value Go.Ending:=⟨.returned⟩
instance cz_7:Coe Nat Go.Addr:=⟨fun n=>⟨n,0,none⟩⟩
instance cz_8:Coe Go.World Go.Addr:=⟨fun w=>⟨w.heap.size,0,none⟩⟩
def qmf:∀(a:Fn)(b cap:Array Value)(w:World),(Instr.makeFunc a b cap).run Tryz.prog w=.ok (.func a b cap) w:=fun _ _ _ _=>rfl
open Go.Proofs
def s_:type_of% @Tryz.underlying70:=@Tryz.underlying70
def t_:type_of% @Tryz.underlying67:=@Tryz.underlying67
def u_:type_of% @Below.trans:=@Below.trans
def w_{a b:Prop}(h:a)(k:¬a):b:=absurd h k
def x_:True:=trivial
end Go.Proofs.YtnfakamfmkhlbabGreatDoor.C
