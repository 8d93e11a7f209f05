import Derived.Test.YtnfakamfmkhlbabGreatDoorUm41
import Derived.Test.YtnfakamfmkhlbabGreatDoorUm40
import Derived.Test.YtnfakamfmkhlbabGreatDoorKz2
import Derived.Test.YtnfakamfmkhlbabGreatDoorKz3
set_option maxRecDepth 100000
set_option maxHeartbeats 4000000
set_option linter.unusedSimpArgs false
namespace Go.Proofs.YtnfakamfmkhlbabGreatDoor.C
open Go.ChangeShapes Go.WideShapes Go.ChangeAt Go.RowKit Go.Shelf Go.Proofs.YtnfakamfmkhlbabGreatDoor.P
attribute [local go_sem] qd qe Oper.semAt_some
structure Rs(w:World)(PA M:Array Value)(B:Nat)(Q:Array Value)(W:World):Prop where
 pa:W.heap[w.heap.size]?=some (.cells PA 70)
 mv:W.heap[w.heap.size+1]?=some (.cells M 125)
 q:W.heap[B]?=some (.cells Q 70)
 gr:Gr w W
theorem Rs.next{w W W':World}{PA M Q:Array Value}{B:Nat}(h:Rs w PA M B Q W)(g:Gr W W'):Rs w PA M B Q W' :=
 ⟨(Below.block g _ (qB.1 h.pa).1).trans h.pa,(Below.block g _ (qB.1 h.mv).1).trans h.mv,(Below.block g _ (qB.1 h.q).1).trans h.q,Gr.trans h.gr g⟩
theorem qvd{z:Nat->UInt8}{wh:Bool}{fc:Nat->Bool}{b h g:Int}{PA:Array Value}(r:jE z wh fc b h g PA)(o:Ok z wh fc b h g)(f t:Nat)(u:UInt8)(hx:(f,t,u)∈xC z wh fc b)(w:World) :
  Calls Tryz.prog 52 #[.agg PA,.agg #[.int .i64 (f:Int),.int .i64 (t:Int),.int .u8 (u.toNat:Int)]] w fun e w'=>e=.returned (.string (xJ (uj z wh fc b (f,t,u))))/\Gr w w':=by
 obtain⟨i,lx⟩:=um o.good o.b0 o.b1 hx;have o':=o.next hx;obtain⟨hf,ht,hu,_,_⟩:=o.mv hx;obtain⟨a0,a1,a2,a3⟩:=o.clk;obtain⟨d0,d1,d2,d3⟩:=o'.clk;have hi6:=lx.hi;have hkd:Hid (∀W,Calls Tryz.prog 107 #[.int .u8 ((z f).toNat:Int)] W fun e w'=>e=.returned (.int .i64 (i:Int))/\w'=W):=qC (fun W=>by rw[<-ro lx.hi lx.hc];exact zp (z f) W);have hbh:Hid (∀W,Calls Tryz.prog 106 #[.agg PA,.agg #[.int .i64 (f:Int),.int .i64 (t:Int),.int .u8 (u.toNat:Int)]] W fun e w'=>∃Q,e=.returned (.agg Q)/\jE (zE z b (f,t,u)) (!wh) (kB fc f t 4) (vK z f t) (kK z f t h) (kj wh g) Q/\Gr W w'):=qC (fun W=>(qxg r f t hf ht u hu a0 a1 a2 a3 W).mono fun e w' ⟨Q,e1,e2,e3⟩=>⟨Q,e1,bT o.good a1 a3 hf ht hu ((da o.good o.b0 o.b1 hf ht hu).2 hx) e2,e3⟩);have hst:Hid (∀Q,jE (zE z b (f,t,u)) (!wh) (kB fc f t 4) (vK z f t) (kK z f t h) (kj wh g) Q->∀W,Calls Tryz.prog 112 #[.agg Q] W fun e w'=>e=.returned (.agg (bx (zE z b (f,t,u)) (!wh) (kB fc f t 4) (vK z f t)))/\Gr W w'):=qC (fun Q rQ W=>eL rQ o'.good o'.b0 o'.b1 d0 d1 d2 d3 o'.king.1 o'.king.2 W);have hcs:=qC (fun W=>qxf r f t u W);have hap:Hid (i≠0->∀W,Calls Tryz.prog 109 #[.agg PA,.agg #[.int .i64 (f:Int),.int .i64 (t:Int),.int .u8 (u.toNat:Int)]] W fun e w'=>e=.returned (.string (xJ (iT (jX (xC z wh fc b) z f t) f)))/\Gr W w'):=qC (fun hi W=>by rw[<-Cm o.good o.b0 o.b1 lx hi];exact iF r o.good o.b0 o.b1 a0 a1 a2 a3 f t hf ht u W);have hN1:Hid (∀W,Calls Tryz.prog 110 #[.int .i64 (f:Int)] W fun e w'=>e=.returned (.string (xJ [xA f,xI f]))/\Gr W w'):=qC (fun W=>qxo f hf W);have hN2:Hid (∀W,Calls Tryz.prog 110 #[.int .i64 (t:Int)] W fun e w'=>e=.returned (.string (xJ [xA t,xI t]))/\Gr W w'):=qC (fun W=>qxo t ht W);have hpl:Hid (u≠0->∀W,Calls Tryz.prog 111 #[.string ⟨#[112,110,98,114,113,107]⟩,.int .u8 (u.toNat:Int)] W fun e w'=>e=.returned (.int .i64 ((dP u:Nat):Int))/\w'=W):=qC (fun h0 W=>qvi u hu h0 W);have hi72:(Tryz.prog.info? 70).map (·.size)=some PA.toList.length:=by rw[Array.length_toList,r.size];exact jJ
 have hi72':(Tryz.prog.info? 70).map (·.size)=some PA.size:=by rw[r.size];exact jJ
 have hq:=qC (Rm.start w PA #[.int .i64 (f:Int),.int .i64 (t:Int),.int .u8 (u.toNat:Int)]);have hc5:Hid (i=5->_):=qC (fun e=>pZ.cas (e▸lx));have hdot:Hid (i=0->f%8=t%8->z t=46):=qC (fun e q=>pZ.dot o.good (e▸lx) q);have hu0:Hid (i≠0->u=0):=qC lx.u0;have hbc:=qC (F4 (xC z wh fc b) lx)
 have hnc:Hid (i=5->(t=f+2\/t+2=f)->jR (xC z wh fc b) z (f,t,u)=zQ (xC z wh fc b) z f t->False):=qC (fun e q p=>by
  have hkg:=(zj lx.hi lx.hc).2;rw[e]at hkg;unfold jR at p;have hcp:=lx.cap;rcases q with q|q
  ·rw[qI ⟨by rw[hkg];rfl,q⟩]at p;unfold zQ at p;rw[hcp]at p;injection p with p _;exact E9 i hi6 p.symm
  ·rw[qF (fun q2=>by have h2:t=f+2:=q2.2;omega),qI ⟨by rw[hkg];rfl,q⟩]at p;unfold zQ at p;rw[hcp]at p;injection p with p _;exact E9 i hi6 p.symm)
 have hbl:=ae (xC z wh fc b) lx;have hcap:Hid (vz (z f)=kX i):=qC lx.cap;have c64:¬ (64<=(f:Int)):=by omega
 have t64:¬ (64<=(t:Int)):=by omega
 unfold uj;have hE:Hid (∀c n:Bool,(kz (zE z b (f,t,u)) (!wh))=c->(!(xC (zE z b (f,t,u)) (!wh) (kB fc f t 4) (vK z f t)).isEmpty)=n->pX z wh fc b (f,t,u)=fe c n):=qC (fun c n e1 e2=>by unfold pX;rw[e1,e2]);have hov:Hid (yO (zE z b (f,t,u)) (kz (zE z b (f,t,u)) (!wh)) ((xC (zE z b (f,t,u)) (!wh) (kB fc f t 4) (vK z f t)).length:Int)=1↔kz (zE z b (f,t,u)) (!wh)=true/\(xC (zE z b (f,t,u)) (!wh) (kB fc f t 4) (vK z f t)).isEmpty=true):=qC (mR _ _ _);unfold bx at hst;generalize yO (zE z b (f,t,u)) (kz (zE z b (f,t,u)) (!wh)) ((xC (zE z b (f,t,u)) (!wh) (kB fc f t 4) (vK z f t)).length:Int)=ov at hst hov;generalize ((xC (zE z b (f,t,u)) (!wh) (kB fc f t 4) (vK z f t)).length:Int)=nm at hst;generalize (xC (zE z b (f,t,u)) (!wh) (kB fc f t 4) (vK z f t)).isEmpty=em at hov hE;generalize kz (zE z b (f,t,u)) (!wh)=ck at hst hov hE;obtain⟨es,hes⟩:∃es,Hid (pX z wh fc b (f,t,u)=es):=⟨_,qC rfl⟩;rw[qa hes]at hE ⊢;obtain⟨bd,hbd⟩:∃bd,Hid (jR (xC z wh fc b) z (f,t,u)=bd):=⟨_,qC rfl⟩;rw[qa hbd]at hbc hbl hnc ⊢;generalize zK wh fc f t u=cr at hcs hc5;clear o o' lx hx hes hbd a0 a1 a2 a3 d0 d1 d2 d3;go_enter Tryz.func52,Tryz.ntmps52;go_upto_region 1 with fail;show Code.wp _ _ _ _ ((w.alloc (.cells PA 70)).alloc (.cells #[.int .i64 (f:Int),.int .i64 (t:Int),.int .u8 (u.toNat:Int)] 125));generalize ((w.alloc (.cells PA 70)).alloc (.cells #[.int .i64 (f:Int),.int .i64 (t:Int),.int .u8 (u.toNat:Int)] 125))=w0 at hq ⊢;obtain⟨m0,m1,m2,cf,ct⟩:=Rm.cells hf ht r (qa hq);have hpa:=qC (qa hq).pa;go_upto_region 3 with(go_at_call 107;refine(qa hkd _).mono ?_;rintro e w' ⟨rfl,hww⟩;have hww':=hww.symm;subst hww';clear hww);clear hkd
 go_upto_region 4 with(first
  | (go_at_call 106;refine(qa hbh _).mono ?_;rintro e w3 ⟨Q,rfl,hQ,hg3⟩;have hQz:=hQ.size;have hQo:=qC (qx hQ))
  | (refine wpList_load_row rfl 70 _ rfl w.heap.size rfl 70 PA (0,0) _ (qa hpa) Tryz.underlying70 rfl hi72' ?_)
  | (refine wpList_store_row rfl 70 _ _ rfl w3.heap.size Q rfl rfl 70 _ (heap_alloc_new _ _) (by rw[hQz];exact q9) (by rw[hQz];exact xF.symm) (qa hQo) ?_))
 have hw4q:((w3.alloc (.cells Tryz.zeroCells70 70)).setRow w3.heap.size Q).heap[w3.heap.size]?=some (.cells Q 70):=setRow_heap _ _ _ _ _ _ (heap_alloc_new w3 _);have hg4:Gr w3 ((w3.alloc (.cells Tryz.zeroCells70 70)).setRow w3.heap.size Q):=((Gr.refl w3).alloc _ _).setRow _ (qL _) _
 have hR4:Rs w PA #[.int .i64 (f:Int),.int .i64 (t:Int),.int .u8 (u.toNat:Int)] w3.heap.size Q ((w3.alloc (.cells Tryz.zeroCells70 70)).setRow w3.heap.size Q):=by
  have q4:=(qa hq).next (Gr.trans hg3 hg4);exact⟨q4.pa,q4.mv,hw4q,q4.gr⟩
 show Code.wp _ _ _ _ ((w3.alloc (.cells Tryz.zeroCells70 70)).setRow w3.heap.size Q);generalize (w3.alloc (.cells Tryz.zeroCells70 70)).setRow w3.heap.size Q=w4 at hR4 ⊢;generalize w3.heap.size=B at hR4 ⊢;obtain⟨m0,m1,m2,cf,ct⟩:=Rm.cells hf ht r ⟨hR4.pa,hR4.mv,hR4.gr⟩;have hR4':=qC hR4;clear hw4q hg4 hg3 hR4 hq hpa hbh;obtain⟨TK,hTK⟩:∃TK,Hid (TK=true↔(z t≠46\/(i=0/\f%8≠t%8))):=⟨decide (z t≠46\/(i=0/\f%8≠t%8)),qC decide_eq_true_iff⟩
 have h46:(z t=46/\((z t).toNat:Int)=46/\(((z t).toNat:Int) != 46)=false)\/(z t≠46/\¬ ((z t).toNat:Int)=46/\(((z t).toNat:Int) != 46)=true):=by
  by_cases e:z t=46
  ·exact .inl ⟨e,by rw[e];rfl,by rw[e];rfl⟩
  ·have e':¬ ((z t).toNat:Int)=46:=fun q=>e (q6.1 (by have:(46:UInt8).toNat=46:=rfl;omega))
   exact .inr ⟨e,e',qU.2 e'⟩
 try simp only[C.py]
 go_cut [8]from 23 to 42 (fun s8 wx=>s8=.bool TK/\wx=w4)
 case first =>
  rcases h46 with⟨e1,e2,e3⟩|⟨e1,e2,e3⟩
  ·by_cases hi0:i=0
   ·have hi0':(i:Int)=0:=by omega
    by_cases hs:f%8=t%8
    ·have hs':(f:Int)%8=(t:Int)%8:=by omega
     have hv:Hid (TK=false):=qC (by rw[<-Bool.not_eq_true,qa hTK];rintro(q|q);exact q e1;exact q.2 hs);clear hTK hst hcs hap hN1 hN2 hpl hbc;go_wp2_with fail;go_meet
     case rel=>exact⟨by rw[qa hv];try rfl,rfl⟩
    ·have hs':¬ (f:Int)%8=(t:Int)%8:=by omega
     have hs2:((f:Int)%8 != (t:Int)%8)=true:=qU.2 hs';have hv:Hid (TK=true):=qC ((qa hTK).2 (.inr ⟨hi0,hs⟩));clear hTK hst hcs hap hN1 hN2 hpl hbc;go_wp2_with fail;go_meet
     case rel=>exact⟨by rw[qa hv];try rfl,rfl⟩
   ·have hi0':¬ (i:Int)=0:=by omega
    have hv:Hid (TK=false):=qC (by rw[<-Bool.not_eq_true,qa hTK];rintro(q|q);exact q e1;exact hi0 q.1);clear hTK hst hcs hap hN1 hN2 hpl hbc;go_wp2_with fail;go_meet
    case rel=>exact⟨by rw[qa hv];try rfl,rfl⟩
  ·have hv:Hid (TK=true):=qC ((qa hTK).2 (.inl e1));clear hTK hst hcs hap hN1 hN2 hpl hbc;go_wp2_with fail;go_meet
   case rel=>exact⟨by rw[qa hv];try rfl,rfl⟩
 case rest =>
  obtain⟨rfl,hwx⟩:=hcut;have hwx':=hwx.symm;subst hwx';clear hwx;have hpa:=qC (qa hR4').pa
  go_upto_region 7 with(first
   | (go_at_call 108;refine(qa hcs _).mono ?_;rintro e w5 ⟨rfl,hg5⟩)
   | (refine wpList_load_row rfl 70 _ rfl w.heap.size rfl 70 PA (0,0) _ (qa hpa) Tryz.underlying70 rfl hi72' ?_))
  have hRc:=qC ((qa hR4').next hg5);clear hR4' hg5 hpa hcs
  try simp only[C.py]
  obtain⟨CB,hCB⟩:∃CB,Hid (CB=true↔(i=5/\0<=cr)):=⟨decide (i=5/\0<=cr),qC decide_eq_true_iff⟩;go_cut [50]from 45 to 51 (fun s50 wx=>s50=.bool CB/\wx=w5)
  case first =>
   by_cases hi5:i=5
   ·have hi5':((i:Int)==5)=true:=by rw[beq_iff_eq];omega
    by_cases hc0:0<=cr
    ·have hv:Hid (CB=true):=qC ((qa hCB).2 ⟨hi5,hc0⟩);clear hCB hst hap hN1 hN2 hpl hbc hc5 hi5;go_wp2_with fail;go_meet
     case rel=>exact⟨by rw[qa hv];try rfl,rfl⟩
    ·have hv:Hid (CB=false):=qC (by rw[<-Bool.not_eq_true,qa hCB];exact fun q=>hc0 q.2);clear hCB hst hap hN1 hN2 hpl hbc hc5 hi5;go_wp2_with fail;go_meet
     case rel=>exact⟨by rw[qa hv];try rfl,rfl⟩
   ·have hi5':((i:Int)==5)=false:=by rw[qM];omega
    have hv:Hid (CB=false):=qC (by rw[<-Bool.not_eq_true,qa hCB];exact fun q=>hi5 q.1);clear hCB hst hap hN1 hN2 hpl hbc hc5;go_wp2_with fail;go_meet
    case rel=>exact⟨by rw[qa hv];try rfl,rfl⟩
  case rest =>
   obtain⟨rfl,hwx⟩:=hcut;have hwx':=hwx.symm;subst hwx';clear hwx;go_upto_if 50 with fail;go_cut [9]from 51 to 90 (fun s9 wx=>s9=.string (xJ bd)/\Rs w PA #[.int .i64 (f:Int),.int .i64 (t:Int),.int .u8 (u.toNat:Int)] B Q wx)
   case first =>
    obtain⟨m0,m1,m2,cf,ct⟩:=Rm.cells hf ht r ⟨(qa hRc).pa,(qa hRc).mv,(qa hRc).gr⟩;rcases qa hbc with⟨b1,b2,b3⟩|⟨b1,b2,b3⟩|⟨b1,b3⟩|⟨b1,b3⟩
    ·obtain⟨q0,q1⟩:=(qa hc5 b1).1 b2;have hv:CB=true:=(qa hCB).2 ⟨b1,q0⟩;have et:Int.tmod cr 2=0:=by rw[Int.tmod_eq_emod_of_nonneg q0];exact q1
     have he:=qC b3;subst hv;clear hCB hst hap hN1 hN2 hpl hbc hc5 b1 b2 b3;go_wp2_with fail;go_meet
     case rel=>exact⟨by rw[qa he];rfl,qa hRc⟩
    ·obtain⟨q0,q1⟩:=(qa hc5 b1).2.1 b2;have hv:CB=true:=(qa hCB).2 ⟨b1,q0⟩;have et:Int.tmod cr 2=1:=by rw[Int.tmod_eq_emod_of_nonneg q0];exact q1
     have he:=qC b3;subst hv;clear hCB hst hap hN1 hN2 hpl hbc hc5 b1 b2 b3;go_wp2_with fail;go_meet
     case rel=>exact⟨by rw[qa he];rfl,qa hRc⟩
    ·have hv:CB=false:=by rw[<-Bool.not_eq_true,qa hCB];exact fun q=>by omega
     have hgt:¬ (0<(i:Int)):=by omega
     have hTs:Hid (TK=true↔f%8≠t%8):=qC (by
      rw[qa hTK];exact⟨fun q=>q.elim (fun q1 q2=>q1 (qa hdot b1 q2)) (fun q1=>q1.2),fun q=>.inr ⟨b1,q⟩⟩)
     have hut:(u=0/\((u.toNat:Int) != 0)=false)\/(u≠0/\((u.toNat:Int) != 0)=true):=by
      by_cases e:u=0
      ·exact .inl ⟨e,by rw[e];rfl⟩
      ·exact .inr ⟨e,qU.2 (fun q=>e (q6.1 (by simpa using q)))⟩
     have z1:Hid (f%8=t%8->u=0->xJ bd=xJ ([]++[xA t,xI t])):=qC (fun a c=>by rw[b3];unfold z7;rw[qI a,qI c];rfl);have z2:Hid (f%8=t%8->u≠0->xJ bd=xJ ([]++[xA t,xI t]++[61]++[vz u])):=qC (fun a c=>by rw[b3];unfold z7;rw[qI a,qF c];rfl);have z3:Hid (f%8≠t%8->u=0->xJ bd=xJ ([xA f]++[120]++[xA t,xI t])):=qC (fun a c=>by rw[b3];unfold z7;rw[qF a,qI c];rfl);have z4:Hid (f%8≠t%8->u≠0->xJ bd=xJ ([xA f]++[120]++[xA t,xI t]++[61]++[vz u])):=qC (fun a c=>by rw[b3];unfold z7;rw[qF a,qF c];rfl);have r0:=qC (fun W=>xb [] [xA t,xI t] (by simp) W);have r1:=qC (fun W=>xb [xA f] [120] (by simp) W);have r2:=qC (fun W=>xb ([xA f]++[120]) [xA t,xI t] (by simp) W);have r3:=qC (fun W=>xb ([]++[xA t,xI t]) [61] (by simp) W);have r4:=qC (fun W=>xb ([]++[xA t,xI t]++[61]) [vz u] (by simp) W);have r5:=qC (fun W=>xb ([xA f]++[120]++[xA t,xI t]) [61] (by simp) W);have r6:=qC (fun W=>xb ([xA f]++[120]++[xA t,xI t]++[61]) [vz u] (by simp) W);have ex1:(xJ [xA f,xI f]).extract 0 1=xJ [xA f]:=rfl;have sz1:(xJ [xA f,xI f]).size=2:=rfl;generalize xJ ([xA f]++[120]++[xA t,xI t]++[61]++[vz u])=Y6 at r6 z4;generalize xJ ([xA f]++[120]++[xA t,xI t]++[61])=Y5 at r5 r6;generalize xJ ([xA f]++[120]++[xA t,xI t])=Y2 at r2 r5 z3;generalize xJ ([xA f]++[120])=Y1 at r1 r2;generalize xJ ([]++[xA t,xI t]++[61]++[vz u])=Y4 at r4 z2;generalize xJ ([]++[xA t,xI t]++[61])=Y3 at r3 r4;generalize xJ ([]++[xA t,xI t])=Y0 at r0 r3 z1;generalize xJ [xA f,xI f]=NF at hN1 ex1 sz1;generalize xJ [xA f]=F1 at r1 ex1;generalize xJ [xA t,xI t]=NT at hN2 r0 r2;generalize hUC:xJ [vz u]=UC at r4 r6;have r0':∀W,(Op.stringOp .add ⟨#[]⟩ NT).run Tryz.prog W=.ok (.string Y0) W:=qa r0;have r1':∀W,(Op.stringOp .add F1 ⟨#[120]⟩).run Tryz.prog W=.ok (.string Y1) W:=qa r1;have r2':∀W,(Op.stringOp .add Y1 NT).run Tryz.prog W=.ok (.string Y2) W:=qa r2;have r3':∀W,(Op.stringOp .add Y0 ⟨#[61]⟩).run Tryz.prog W=.ok (.string Y3) W:=qa r3;have r4':∀W,(Op.stringOp .add Y3 UC).run Tryz.prog W=.ok (.string Y4) W:=qa r4;have r5':∀W,(Op.stringOp .add Y2 ⟨#[61]⟩).run Tryz.prog W=.ok (.string Y5) W:=qa r5;have r6':∀W,(Op.stringOp .add Y5 UC).run Tryz.prog W=.ok (.string Y6) W:=qa r6;have hcell:Hid (∀W,Gr w5 W->W.cell? ⟨w.heap.size+1,0,none⟩=some (.int .i64 (f:Int))/\W.cell? ⟨w.heap.size+1,1,none⟩=some (.int .i64 (t:Int))/\W.cell? ⟨w.heap.size+1,2,none⟩=some (.int .u8 (u.toNat:Int))):=qC (fun W gW=>qm ((qa hRc).next gW).mv)
     have hpl':Hid (u≠0->dP u<6/\(⟨#[80,78,66,82,81,75,112,110,98,114,113,107]⟩:ByteArray).extract (dP u) (dP u+1)=UC):=qC (fun h0=>by
      obtain⟨k1,k2⟩:=BJ u hu h0;exact⟨k1,by rw[lD _ k1,k2,hUC]⟩)
     generalize dP u=kk at hpl hpl';subst hv;clear hCB hst hap hbc hc5 b1 b3 r0 r1 r2 r3 r4 r5 r6 hTK hdot hu0 h46 hUC cf ct hcap;by_cases hs:f%8=t%8
     ·have hTv:TK=false:=by rw[<-Bool.not_eq_true,qa hTs];exact fun q=>q hs
      have z1':=qC (qa z1 hs);have z2':=qC (qa z2 hs);subst hTv;clear z1 z2 z3 z4 hs hTs;go_upto_region 18 with(go_at_call 110;refine(qa hN2 _).mono ?_;rintro e w6 ⟨rfl,hg6⟩);obtain⟨n0,n1,n2⟩:=qa hcell _ hg6;have hR6':=qC ((qa hRc).next hg6);rcases hut with⟨e1,e2⟩|⟨e1,e2⟩
      ·have he:=qC (qa z1' e1);clear z1' z2' e1 hg6;go_wp2_with fail;go_meet
       case rel=>exact⟨by rw[qa he];try rfl,qa hR6'⟩
      ·have he:=qC (qa z2' e1);have hp2:=qC (qa hpl e1);obtain⟨hk6,hex⟩:=qa hpl' e1;have wk:IntKind.i64.wrap ((kk:Int)+1)=(kk:Int)+1:=by rw[IntKind.wrap_i64];omega
       have kn:((kk:Int)+1).toNat=kk+1:=by omega
       have kb:¬ (12<(kk:Int)+1):=by omega
       have kc:¬ ((kk:Int)+1<(kk:Int)):=by omega
       have kd:¬ ((kk:Int)<0):=by omega
       have ke:(kk:Int)<=(kk:Int)+1:=by omega
       have kf:(kk:Int)+1<=12:=by omega
       clear z1' z2' e1 hg6 hpl hpl';go_wp2_with(go_at_call 111;refine(qa hp2 _).mono ?_;rintro e w' ⟨rfl,hww⟩;have hww':=hww.symm;subst hww';clear hww);go_meet
       case rel=>exact⟨by rw[qa he];try rfl,qa hR6'⟩
     ·have hTv:TK=true:=(qa hTs).2 hs;have z1':=qC (qa z3 hs);have z2':=qC (qa z4 hs);subst hTv;clear z1 z2 z3 z4 hs hTs;go_upto_region 15 with(go_at_call 110;refine(qa hN1 _).mono ?_;rintro e w6 ⟨rfl,hg6⟩);obtain⟨l0,l1,l2⟩:=qa hcell _ hg6;have hg6':=qC hg6;clear hg6;go_upto_region 18 with(go_at_call 110;refine(qa hN2 _).mono ?_;rintro e w7 ⟨rfl,hg7⟩);have hg67:=Gr.trans (qa hg6') hg7;obtain⟨n0,n1,n2⟩:=qa hcell _ hg67;have hR6':=qC ((qa hRc).next hg67);clear hg67 hg7 hg6' l0 l1 l2;rcases hut with⟨e1,e2⟩|⟨e1,e2⟩
      ·have he:=qC (qa z1' e1);clear z1' z2' e1;go_wp2_with fail;go_meet
       case rel=>exact⟨by rw[qa he];try rfl,qa hR6'⟩
      ·have he:=qC (qa z2' e1);have hp2:=qC (qa hpl e1);obtain⟨hk6,hex⟩:=qa hpl' e1;have wk:IntKind.i64.wrap ((kk:Int)+1)=(kk:Int)+1:=by rw[IntKind.wrap_i64];omega
       have kn:((kk:Int)+1).toNat=kk+1:=by omega
       have kb:¬ (12<(kk:Int)+1):=by omega
       have kc:¬ ((kk:Int)+1<(kk:Int)):=by omega
       have kd:¬ ((kk:Int)<0):=by omega
       have ke:(kk:Int)<=(kk:Int)+1:=by omega
       have kf:(kk:Int)+1<=12:=by omega
       clear z1' z2' e1 hpl hpl';go_wp2_with(go_at_call 111;refine(qa hp2 _).mono ?_;rintro e w' ⟨rfl,hww⟩;have hww':=hww.symm;subst hww';clear hww);go_meet
       case rel=>exact⟨by rw[qa he];try rfl,qa hR6'⟩
    ·have hv:CB=false:=by
      rw[<-Bool.not_eq_true,qa hCB];rintro⟨q1,q2⟩;have hcc:=qa hc5 q1;by_cases g1:t=f+2
      ·exact qa hnc q1 (.inl g1) b3
      ·by_cases g2:t+2=f
       ·exact qa hnc q1 (.inr g2) b3
       ·have:=hcc.2.2 g1 g2;omega
     have hgt:0<(i:Int):=by omega
     have hTs:Hid (TK=true↔z t≠46):=qC (by
      rw[qa hTK];exact⟨fun q=>q.elim id (fun q1=>absurd q1.1 b1),.inl⟩)
     have hu2:((u.toNat:Int) != 0)=false:=by rw[qa hu0 b1];rfl
     have hap':=qC (qa hap b1);have hlw:=gz (jX (xC z wh fc b) z f t) f;unfold zQ at b3;rw[qa hcap]at b3;generalize iT (jX (xC z wh fc b) z f t) f=wt at hap' hlw b3;have z1:Hid (z t=46->xJ bd=xJ ([kX i]++wt++[xA t,xI t])):=qC (fun a=>by rw[b3,qI a,List.append_nil];rfl);have z2:Hid (z t≠46->xJ bd=xJ ([kX i]++wt++[120]++[xA t,xI t])):=qC (fun a=>by rw[b3,qF a];rfl);have r1:=qC (fun W=>xb [kX i] wt (by simp;omega) W);have r2:=qC (fun W=>xb ([kX i]++wt) [120] (by simp;omega) W);have r3:=qC (fun W=>xb ([kX i]++wt) [xA t,xI t] (by simp;omega) W);have r4:=qC (fun W=>xb ([kX i]++wt++[120]) [xA t,xI t] (by simp;omega) W);have hex:(⟨#[80,78,66,82,81,75,112,110,98,114,113,107]⟩:ByteArray).extract i (i+1)=xJ [kX i]:=lD i hi6;generalize xJ ([kX i]++wt++[120]++[xA t,xI t])=P4 at r4 z2;generalize xJ ([kX i]++wt++[xA t,xI t])=P3 at r3 z1;generalize xJ ([kX i]++wt++[120])=P2 at r2 r4;generalize xJ ([kX i]++wt)=P1 at r1 r2 r3;generalize xJ [kX i]=P0 at r1 hex;generalize xJ wt=WT at r1 hap';generalize xJ [xA t,xI t]=NT at hN2 r3 r4;have r1':∀W,(Op.stringOp .add P0 WT).run Tryz.prog W=.ok (.string P1) W:=qa r1;have r2':∀W,(Op.stringOp .add P1 ⟨#[120]⟩).run Tryz.prog W=.ok (.string P2) W:=qa r2;have r3':∀W,(Op.stringOp .add P1 NT).run Tryz.prog W=.ok (.string P3) W:=qa r3;have r4':∀W,(Op.stringOp .add P2 NT).run Tryz.prog W=.ok (.string P4) W:=qa r4;have wi:IntKind.i64.wrap ((i:Int)+1)=(i:Int)+1:=by rw[IntKind.wrap_i64];omega
     have kn:((i:Int)+1).toNat=i+1:=by omega
     have kb:¬ (12<(i:Int)+1):=by omega
     have kc:¬ ((i:Int)+1<(i:Int)):=by omega
     have kd:¬ ((i:Int)<0):=by omega
     have hsl:∀W:World,(Instr.slice 9 (.string (⟨#[80,78,66,82,81,75,112,110,98,114,113,107]⟩:ByteArray)) (some (.int .i64 (i:Int))) (some (.int .i64 ((i:Int)+1))) none).run Tryz.prog W=.ok (.string P0) W:=fun W=>by
      rw[run_slice_string W 9 _ _ _ _ _ Tryz.underlying9 (by omega) (by omega) (by show(i:Int)+1<=12;omega),kn,Int.toNat_natCast,hex]
     subst hv;clear hCB hst hap hbc hc5 b3 r1 r2 r3 r4 hTK hdot hu0 h46 cf ct hcap hlw hpl hN1 m0 m1 m2;go_upto_region 12 with fail;refine wp_region_held_drew (S:=Rs w PA #[.int .i64 (f:Int),.int .i64 (t:Int),.int .u8 (u.toNat:Int)] B Q) (by kernel_rfl) ((qa hRc).next (Gr.refl _).drew) (fun qD=>?_);refine C.tq 0 (.int .i64 (i:Int)) qD ?_;refine C.tq 1 (.int .i64 (i:Int)) qD ?_;refine C.tq 2 (.int .i64 ((i:Int)+1)) qD ?_;refine C.ty 3 (.string P0) rfl (Or.inl ⟨by rfl,fun w hw=>(by have hus:Tryz.prog.underlying 9=some .string:=Tryz.underlying9;go_simp)⟩) qD ?_;refine C.ty 4 (.agg PA) rfl (wY hi72 (by rfl) _ rfl w.heap.size rfl (fun _ h=>h.pa)) qD ?_;refine C.ty 5 (.agg #[.int .i64 (f:Int),.int .i64 (t:Int),.int .u8 (u.toNat:Int)]) rfl (Or.inl ⟨by rfl,fun w hw=>(by obtain⟨m0,m1,m2⟩:=qm hw.mv;go_simp)⟩) qD ?_;refine C.rd 6 fun K hK=>?_
     go_simp;refine(qa hap' _).mono ?_;rintro e wc ⟨rfl,hgc⟩;refine hK.out _ _ (qD.next hgc) (fun qD=>?_);clear hK K hgc
     try simp only[C.py]
     refine C.tq 7 (.string P1) qD ?_;refine C.tq 8 (.string P1) qD ?_;refine wpAnyH_done (by kernel_rfl) ?_ _;have hRh:=qC qD;obtain⟨n0,n1,n2⟩:=qm qD.mv;clear qD hap';by_cases hs:z t=46
     ·have hTv:TK=false:=by rw[<-Bool.not_eq_true,qa hTs];exact fun q=>q hs
      have he:=qC (qa z1 hs);subst hTv;clear z1 z2 hs hTs;go_upto_region 18 with(go_at_call 110;refine(qa hN2 _).mono ?_;rintro e w7 ⟨rfl,hg7⟩);have hR7:=qC ((qa hRh).next hg7);obtain⟨n0,n1,n2⟩:=qm (qa hR7).mv;clear hg7;go_wp2_with fail;go_meet
      case rel=>exact⟨by rw[qa he];try rfl,qa hR7⟩
     ·have hTv:TK=true:=(qa hTs).2 hs;have he:=qC (qa z2 hs);subst hTv;clear z1 z2 hs hTs;go_upto_region 18 with(go_at_call 110;refine(qa hN2 _).mono ?_;rintro e w7 ⟨rfl,hg7⟩);have hR7:=qC ((qa hRh).next hg7);obtain⟨n0,n1,n2⟩:=qm (qa hR7).mv;clear hg7;go_wp2_with fail;go_meet
      case rel=>exact⟨by rw[qa he];try rfl,qa hR7⟩
   case rest =>
    obtain⟨rfl,hR6⟩:=hcut;have hq6:=qC hR6.q;have hgr6:=qC hR6.gr;have hQi:(Tryz.prog.info? 70).map (·.size)=some Q.size:=by rw[hQz];exact jJ
    have hsQ:=qC (qa hst Q hQ);have ra:=qC (fun W=>xb bd [35] (by simp;omega) W);have rb:=qC (fun W=>xb bd [43] (by simp;omega) W);have hfa:Hid (ck=true->em=true->xJ (bd++es)=xJ (bd++[35])):=qC (fun e1 e2=>by rw[qa hE true false e1 (by rw[e2];rfl)];rfl);have hfb:Hid (ck=true->em=false->xJ (bd++es)=xJ (bd++[43])):=qC (fun e1 e2=>by rw[qa hE true true e1 (by rw[e2];rfl)];rfl);have hfc:Hid (ck=false->xJ (bd++es)=xJ bd):=qC (fun e1=>by rw[qa hE false (!em) e1 rfl];show xJ (bd++[])=_;rw[List.append_nil]);clear hR6 hRc hap hN1 hN2 hpl hbc hc5 hst hQ hQo m0 m1 m2 cf ct hCB hTK h46 hdot hu0 hcap r hE;generalize xJ (bd++[35])=SA at ra hfa;generalize xJ (bd++[43])=SB at rb hfb;have ra':∀W,(Op.stringOp .add (xJ bd) ⟨#[35]⟩).run Tryz.prog W=.ok (.string SA) W:=qa ra;have rb':∀W,(Op.stringOp .add (xJ bd) ⟨#[43]⟩).run Tryz.prog W=.ok (.string SB) W:=qa rb;clear ra rb
    go_upto_region 22 with(first
     | (go_at_call 112;refine(qa hsQ _).mono ?_;rintro e w7 ⟨rfl,hg7⟩)
     | (refine wpList_load_row rfl 70 _ rfl B rfl 70 Q (0,0) _ (qa hq6) Tryz.underlying70 rfl hQi ?_)
     | (refine wpList_store_row rfl 186 _ _ rfl w7.heap.size (xB ck nm ov) rfl rfl 186 (xB false 0 0) (heap_alloc_new _ _) vI rfl (xw _ _ _) ?_))
    have hs8:((w7.alloc (.cells (xB false 0 0) 186)).setRow w7.heap.size (xB ck nm ov)).heap[w7.heap.size]?=some (.cells (xB ck nm ov) 186):=setRow_heap _ _ _ _ _ _ (heap_alloc_new w7 _);have hg8:Gr w ((w7.alloc (.cells (xB false 0 0) 186)).setRow w7.heap.size (xB ck nm ov)):=Gr.trans (Gr.trans (qa hgr6) hg7) (((Gr.refl w7).alloc _ _).setRow _ (qL _) _);show Code.wp _ _ _ _ ((w7.alloc (.cells (xB false 0 0) 186)).setRow w7.heap.size (xB ck nm ov));generalize (w7.alloc (.cells (xB false 0 0) 186)).setRow w7.heap.size (xB ck nm ov)=w8 at hs8 hg8 ⊢;obtain⟨s0,s1,s2⟩:=qm hs8;have hg8':=qC hg8;clear hs8 hg8 hg7 hsQ hgr6 hq6;cases ck with
    | true =>
     cases em with
     | true =>
      have e1:ov=1:=(qa hov).2 ⟨rfl,rfl⟩;have he:=qC (qa hfa rfl rfl);subst e1;clear hfa hfb hfc hov;go_wp2_with fail;go_ret;exact⟨by rw[qa he];rfl,qa hg8'⟩
     | false =>
      have e1:(ov==1)=false:=by rw[qM];exact fun q=>by have:=((qa hov).1 q).2;cases this
      have he:=qC (qa hfb rfl rfl);clear hfa hfb hfc hov;go_wp2_with fail;go_ret;exact⟨by rw[qa he];rfl,qa hg8'⟩
    | false =>
     have e1:(ov==1)=false:=by rw[qM];exact fun q=>by have:=((qa hov).1 q).1;cases this
     have he:=qC (qa hfc rfl);clear hfa hfb hfc hov;go_wp2_with fail;go_ret;exact⟨by rw[qa he];rfl,qa hg8'⟩
theorem fY{s t:ByteArray}{k:Int}{p:pH}{x:Mv}(h:iO s t k)(hr:xG s=some p)(hcan:xP p=true)(hm:yn t=some x)(hx:x∈xC (xM p) p.white p.castle p.behind):False:=by
 rcases h with(⟨_,a⟩|⟨_,q,a,b⟩)|⟨_,q,a,_,c⟩|⟨_,q,y,a,_,c,d⟩
 ·rw[hr]at a;cases a
 ·rw[hr]at a;rw[<-qP a,hcan]at b;cases b
 ·rw[hm]at c;cases c
 ·rw[hr]at a;rw[hm]at c;rw[<-qP a,<-qP c]at d;exact d hx
theorem r8(s t:ByteArray):(∃p x,xG s=some p/\xP p=true/\yn t=some x/\x∈xC (xM p) p.white p.castle p.behind/\∀e,pJ s t e->∃Q,jE (zE (xM p) p.behind x) (!p.white) (kB p.castle x.1 x.2.1 4) (vK (xM p) x.1 x.2.1) (kK (xM p) x.1 x.2.1 p.half) (kj p.white p.full) Q/\e=.returned (.tuple #[.agg (jV p),.agg (z8 x),.agg Q,.int .i64 0])) ∨
  (∃k,k≠0/\iO s t k/\∀e,pJ s t e->∃P M Q,P.size=72/\M.size=3/\Q.size=72/\P.all (·.oneCell')=true/\M.all (·.oneCell')=true/\Q.all (·.oneCell')=true/\e=.returned (.tuple #[.agg P,.agg M,.agg Q,.int .i64 k])):=by
 rcases qv5 s t with⟨p,x,hr,hcan,hm,hx,_⟩|⟨k,hk,herr,_⟩
 ·refine .inl ⟨p,x,hr,hcan,hm,hx,fun e h=>?_⟩;rcases h with⟨k,P,M,Q,hk,herr,_⟩|⟨q,y,Q,a,b,c,d,hQ,rfl⟩
  ·exact(fY herr hr hcan hm hx).elim
  ·rw[hr]at a;rw[hm]at c;have ea:=qP a;have ec:=qP c;subst ea ec;exact⟨Q,hQ,rfl⟩
 ·refine .inr ⟨k,hk,herr,fun e h=>?_⟩;rcases h with⟨k',P,M,Q,hk',herr',a1,a2,a3,a4,a5,a6,rfl⟩|⟨q,y,Q,a,b,c,d,hQ,rfl⟩
  ·exact⟨P,M,Q,a1,a2,a3,a4,a5,a6,by rw[dz herr herr']⟩
  ·exact(fY herr a b c d).elim
noncomputable def BE(w3:World)(A M Q:Array Value):World:=(((((w3.alloc (.cells Tryz.zeroCells70 70)).alloc (.cells zC 125)).alloc (.cells Tryz.zeroCells70 70)).setRow w3.heap.size A).setRow (w3.heap.size+1) M).setRow (w3.heap.size+2) Q
theorem ru(w3:World)(A M Q:Array Value):Gr w3 (BE w3 A M Q):=((((((Gr.refl w3).alloc _ _).alloc _ _).alloc _ _).setRow _ (qL _) _).setRow _ (by omega) _).setRow _ (by omega) _
theorem F8(w3:World)(A M Q:Array Value):(BE w3 A M Q).heap[w3.heap.size]?=some (.cells A 70):=by
 unfold BE;rw[setRow_other _ _ _ _ (by omega),setRow_other _ _ _ _ (by omega)];exact setRow_heap _ _ _ _ _ _ (jG w3 _ _ _).1
theorem F7(w3:World)(A M Q:Array Value):(BE w3 A M Q).heap[w3.heap.size+1]?=some (.cells M 125):=by
 unfold BE;rw[setRow_other _ _ _ _ (by omega)];exact setRow_heap _ _ _ _ _ _ (by rw[setRow_other _ _ _ _ (by omega)];exact(jG w3 _ _ _).2.1)
theorem eP(s t:ByteArray)(hs:s.size<4294967281)(w:World):Calls Tryz.prog 28 #[.string s,.string t] w fun e w'=>vl s t e/\Gr w w':=by
 have h1:=qC (eh s t hs w);rcases r8 s t with⟨p,x,hr,hcan,hm,hx,hone⟩|⟨k,hk,herr,hone⟩
 ·have h2:Hid (Calls Tryz.prog 51 #[.string s,.string t] w fun e w'=>(∃Q,jE (zE (xM p) p.behind x) (!p.white) (kB p.castle x.1 x.2.1 4) (vK (xM p) x.1 x.2.1) (kK (xM p) x.1 x.2.1 p.half) (kj p.white p.full) Q/\e=.returned (.tuple #[.agg (jV p),.agg (z8 x),.agg Q,.int .i64 0]))/\Gr w w'):=qC ((qa h1).mono fun e w' h=>⟨hone e h.1,h.2⟩);have hend:Hid (vl s t (.returned (.tuple #[.string (xJ (uj (xM p) p.white (yC p.castle) p.behind x)),.int .i64 0]))):=qC (.inr ⟨p,x,hr,hcan,hm,hx,rfl⟩);have o:=Ok.of hr hcan;have hxf:=tN hr hcan hx;have hrow:=jo hr;have hz:=hrow.size;have ho:=qC (qx hrow);have hmo:=qC (Du x);obtain⟨f,tt,u⟩:=x;have hsh:Hid (∀W,Calls Tryz.prog 52 #[.agg (jV p),.agg #[.int .i64 (f:Int),.int .i64 (tt:Int),.int .u8 (u.toNat:Int)]] W fun e w'=>e=.returned (.string (xJ (uj (xM p) p.white (yC p.castle) p.behind (f,tt,u))))/\Gr W w'):=qC (fun W=>qvd (F5 hrow) o f tt u hxf W);have hmA:z8 (f,tt,u)=#[.int .i64 (f:Int),.int .i64 (tt:Int),.int .u8 (u.toNat:Int)]:=rfl;have hmz:(#[.int .i64 (f:Int),.int .i64 (tt:Int),.int .u8 (u.toNat:Int)]:Array Value).size=3:=rfl;rw[hmA]at h2 hmo;obtain⟨M,hM⟩:∃M:Array Value,Hid (M=#[.int .i64 (f:Int),.int .i64 (tt:Int),.int .u8 (u.toNat:Int)]):=⟨_,qC rfl⟩;rw[<-qa hM]at h2 hmo hmz hsh;generalize jV p=A at h2 hz ho hsh;clear h1 hone hr hcan hm hx hrow hs o hxf hmA;go_enter Tryz.func28,Tryz.ntmps28
  go_upto_region 2 with(first
   | (go_at_call 51;refine(qa h2).mono ?_;rintro e w3 ⟨⟨Q,hQ,rfl⟩,hg3⟩;obtain⟨y1,y2,y3,y4⟩:=jG w3 (.cells Tryz.zeroCells70 70) (.cells #[.int .i64 0,.int .i64 0,.int .u8 0] 125) (.cells Tryz.zeroCells70 70);have hqz:=hQ.size;have hqo:=qC (qx hQ);have hQ':=qC hQ;clear hQ)
   | (refine wpList_store_row rfl 70 _ _ rfl (w3.heap.size+2) Q rfl rfl 70 Tryz.zeroCells70 (by rw[setRow_other _ _ _ _ (by omega),setRow_other _ _ _ _ (by omega)];with_reducible exact y3) (by rw[hqz];exact q9) (by rw[hqz];exact xF.symm) (qa hqo) ?_)
   | (refine wpList_store_row rfl 125 _ _ rfl (w3.heap.size+1) M rfl rfl 125 #[.int .i64 0,.int .i64 0,.int .u8 0] (by rw[setRow_other _ _ _ _ (by omega)];with_reducible exact y2) (by rw[hmz];exact vi) (by rw[hmz];rfl) (qa hmo) ?_)
   | (refine wpList_store_row rfl 70 _ _ rfl w3.heap.size A rfl rfl 70 Tryz.zeroCells70 (by with_reducible exact y1) (by rw[hz];exact q9) (by rw[hz];exact xF.symm) (qa ho) ?_))
  show Code.wp _ _ _ _ (BE w3 A M Q);have hg4:=ru w3 A M Q;have hb1:=F8 w3 A M Q;have hb2:=F7 w3 A M Q;generalize BE w3 A M Q=w4 at hg4 hb1 hb2 ⊢;generalize w3.heap.size=b1 at hb1 hb2 ⊢;have hrw:=qC (qy hb1);rw[qa hM]at hb2 hsh;obtain⟨m0,m1,m2⟩:=qm hb2;have hgw:=qC (Gr.trans hg3 hg4);clear hg3 hg4 hb1 hb2 h2
  go_wp2_with(first
   | (go_at_call 52;refine(qa hsh _).mono ?_;rintro e w5 ⟨rfl,hg5⟩)
   | (refine ql (by rfl) _ rfl b1 rfl hz (qa hrw) ?_))
  go_ret2;exact⟨qa hend,Gr.trans (qa hgw) hg5⟩
 ·have h2:Hid (Calls Tryz.prog 51 #[.string s,.string t] w fun e w'=>(∃P M Q,P.size=72/\M.size=3/\Q.size=72/\P.all (·.oneCell')=true/\M.all (·.oneCell')=true/\Q.all (·.oneCell')=true/\e=.returned (.tuple #[.agg P,.agg M,.agg Q,.int .i64 k]))/\Gr w w'):=qC ((qa h1).mono fun e w' h=>⟨hone e h.1,h.2⟩);have hend:Hid (vl s t (.returned (.tuple #[.string ⟨#[]⟩,.int .i64 k]))):=qC (.inl ⟨k,hk,herr,rfl⟩);have k2:(k != 0)=true:=by rw[qU];exact hk
  clear h1 hone hk herr hs;go_enter Tryz.func28,Tryz.ntmps28
  go_upto_region 2 with(first
   | (go_at_call 51;refine(qa h2).mono ?_;rintro e w3 ⟨⟨A,M,Q,hz,hmz,hqz,ho,hmo,hqo,rfl⟩,hg3⟩;obtain⟨y1,y2,y3,y4⟩:=jG w3 (.cells Tryz.zeroCells70 70) (.cells #[.int .i64 0,.int .i64 0,.int .u8 0] 125) (.cells Tryz.zeroCells70 70);have ho':=qC ho;have hmo':=qC hmo;have hqo':=qC hqo;clear ho hmo hqo)
   | (refine wpList_store_row rfl 70 _ _ rfl (w3.heap.size+2) Q rfl rfl 70 Tryz.zeroCells70 (by rw[setRow_other _ _ _ _ (by omega),setRow_other _ _ _ _ (by omega)];with_reducible exact y3) (by rw[hqz];exact q9) (by rw[hqz];exact xF.symm) (qa hqo') ?_)
   | (refine wpList_store_row rfl 125 _ _ rfl (w3.heap.size+1) M rfl rfl 125 #[.int .i64 0,.int .i64 0,.int .u8 0] (by rw[setRow_other _ _ _ _ (by omega)];with_reducible exact y2) (by rw[hmz];exact vi) (by rw[hmz];rfl) (qa hmo') ?_)
   | (refine wpList_store_row rfl 70 _ _ rfl w3.heap.size A rfl rfl 70 Tryz.zeroCells70 (by with_reducible exact y1) (by rw[hz];exact q9) (by rw[hz];exact xF.symm) (qa ho') ?_))
  show Code.wp _ _ _ _ (BE w3 A M Q);have hg4:=ru w3 A M Q;generalize BE w3 A M Q=w4 at hg4 ⊢;have hgw:=qC (Gr.trans hg3 hg4);clear hg3 hg4 h2;go_wp2_with fail;go_ret2;exact⟨qa hend,qa hgw⟩
structure Ll(w2:World)(b1:Nat)(A:Array Value)(b2 k f t:Nat)(u:UInt8)(W:World):Prop where
 pa:W.heap[b1]?=some (.cells A 70)
 x0:W.cell? ⟨b2,k*3,none⟩=some (.int .i64 (f:Int))
 x1:W.cell? ⟨b2,k*3+1,none⟩=some (.int .i64 (t:Int))
 x2:W.cell? ⟨b2,k*3+2,none⟩=some (.int .u8 (u.toNat:Int))
 gr:Gr w2 W
theorem Ll.next{w2 W W':World}{b1 b2 k f t:Nat}{A:Array Value}{u:UInt8}(h:Ll w2 b1 A b2 k f t u W)(g:Gr W W'):Ll w2 b1 A b2 k f t u W' :=
 ⟨(Below.block g _ (qB.1 h.pa).1).trans h.pa,(Below.cell g (World.block_lt_of_cell? W _ h.x0)).trans h.x0,(Below.cell g (World.block_lt_of_cell? W _ h.x1)).trans h.x1,(Below.cell g (World.block_lt_of_cell? W _ h.x2)).trans h.x2,Gr.trans h.gr g⟩
theorem mb(s tx:ByteArray)(hs:s.size<4294967281)(w:World):Calls Tryz.prog 29 #[.string s,.string tx] w fun e w'=>vU s tx e/\Gr w w':=by
 have h1:=qC (qvq s hs w);rcases xy s with⟨p,hr,hcan,hone⟩|⟨k,hk,hbad,hone⟩
 ·have h2:Hid (Calls Tryz.prog 53 #[.string s] w fun e w'=>e=.returned (.tuple #[.agg (jV p),.int .i64 0])/\Gr w w'):=qC ((qa h1).mono fun e w' h=>⟨hone e h.1,h.2⟩);have o:=Ok.of hr hcan;obtain⟨a0,a1,a2,a3⟩:=o.clk;have hrow:=jo hr;have hz:=hrow.size;have ho:=qC (qx hrow);have hall:Hid (∀W:World,Calls Tryz.prog 54 #[.agg (jV p)] W fun e w'=>∃v,e=.returned v/\np W.heap.size v (yY (xM p) p.white (yC p.castle) p.behind) w'/\Gr W w'):=qC fun W=>ai (F5 hrow) o.good o.b0 o.b1 a0 a1 a2 a3 W
  have hin:∀y,y∈yY (xM p) p.white (yC p.castle) p.behind↔y∈xC (xM p) p.white (yC p.castle) p.behind:=fun y=>by rw[qk3 o.good o.b0 o.b1];exact(xq _).mem_iff
  have hshort:Hid (∀y∈yY (xM p) p.white (yC p.castle) p.behind,∀W,Calls Tryz.prog 52 #[.agg (jV p),.agg #[.int .i64 (y.1:Int),.int .i64 (y.2.1:Int),.int .u8 (y.2.2.toNat:Int)]] W fun e w'=>e=.returned (.string (xJ (uj (xM p) p.white (yC p.castle) p.behind y)))/\Gr W w'):=qC fun y hy W=>qvd (F5 hrow) o y.1 y.2.1 y.2.2 ((hin y).1 hy) W
  have hokm:∀y∈yY (xM p) p.white (yC p.castle) p.behind,y.1<64/\y.2.1<64:=fun y hy=>zg _ _ _ _ y ((hin y).1 hy)
  have hyes:Hid (∀y∈yY (xM p) p.white (yC p.castle) p.behind,xJ (uj (xM p) p.white (yC p.castle) p.behind y)=tx->vU s tx (.returned (.tuple #[.string (xJ (uY y.1 y.2.1 y.2.2)),.int .i64 0]))):=qC fun y hy e=>.inr (.inr ⟨p,y,hr,hcan,qV.2 ⟨(hin y).1 hy,qJ e⟩,rfl⟩)
  have hnot:Hid ((∀y∈yY (xM p) p.white (yC p.castle) p.behind,xJ (uj (xM p) p.white (yC p.castle) p.behind y)≠tx)->vU s tx (.returned (.tuple #[.string ⟨#[]⟩,.int .i64 4]))):=qC fun q=>.inr (.inl ⟨p,hr,hcan,List.filter_eq_nil_iff.2 (fun y hy c=>q y ((hin y).2 hy) (q8 c)),rfl⟩)
  have hlen:(yY (xM p) p.white (yC p.castle) p.behind).length<=1000000:=by rw[qk3 o.good o.b0 o.b1,qj7];exact bu _ _ _ _
  generalize yY (xM p) p.white (yC p.castle) p.behind=ys at hall hshort hokm hyes hnot hlen;obtain⟨val,hval⟩:∃val:Mv->ByteArray,val=fun y=>xJ (uj (xM p) p.white (yC p.castle) p.behind y):=⟨_,rfl⟩
  have hshort':Hid (∀y∈ys,∀W,Calls Tryz.prog 52 #[.agg (jV p),.agg #[.int .i64 (y.1:Int),.int .i64 (y.2.1:Int),.int .u8 (y.2.2.toNat:Int)]] W fun e w'=>e=.returned (.string (val y))/\Gr W w'):=qC (by rw[hval];exact qa hshort);have hyes':Hid (∀y∈ys,val y=tx->vU s tx (.returned (.tuple #[.string (xJ (uY y.1 y.2.1 y.2.2)),.int .i64 0]))):=qC (by rw[hval];exact qa hyes);have hnot':Hid ((∀y∈ys,val y≠tx)->vU s tx (.returned (.tuple #[.string ⟨#[]⟩,.int .i64 4]))):=qC (by rw[hval];exact qa hnot);generalize jV p=A at h2 hz ho hall hshort';clear h1 hone hrow hr hcan hs o a0 a1 a2 a3 hin hval hshort hyes hnot;have hi72:(Tryz.prog.info? 70).map (·.size)=some A.toList.length:=by rw[Array.length_toList,hz];exact jJ
  have hi72':(Tryz.prog.info? 70).map (·.size)=some A.size:=by rw[hz];exact jJ
  go_enter Tryz.func29,Tryz.ntmps29
  go_upto_region 2 with(first
   | (go_at_call 53;refine(qa h2).mono ?_;rintro e w3 ⟨rfl,hg3⟩)
   | (refine wpList_store_row rfl 70 _ _ rfl w3.heap.size A rfl rfl 70 _ (heap_alloc_new _ _) (by rw[hz];exact q9) (by rw[hz];exact xF.symm) (qa ho) ?_))
  generalize hw4:(w3.alloc (.cells Tryz.zeroCells70 70)).setRow w3.heap.size A=w4
  have hk4:AC w w3.heap.size A w4:=by
   have hg4:Gr w3 w4:=by rw[<-hw4];exact((Gr.refl w3).alloc _ _).setRow _ (qL _) _
   exact⟨by rw[<-hw4];exact setRow_heap _ _ _ _ _ _ (heap_alloc_new w3 _),Gr.trans hg3 hg4⟩
  generalize w3.heap.size=b1 at hk4 ⊢;have hpa:=qC hk4.pa;have hk4':=qC hk4;clear hw4 hg3 h2 hk4;go_upto_region 4 with fail;obtain⟨N,hN⟩:∃N,Hid (N=ys.length):=⟨_,qC rfl⟩
  go_upto_region 5 with(first
   | (go_at_call 54;refine(qa hall _).mono ?_;rintro e w2 ⟨v,rfl,hv,hg2⟩;obtain⟨pp,c2,rfl,hcap,hel⟩:=bt hv;rw[<-qa hN])
   | (refine wpList_load_row rfl 70 _ rfl b1 rfl 70 A (0,0) _ (qa hpa) Tryz.underlying70 rfl hi72' ?_))
  have hel':=qC hel;have hk2:=qC ((qa hk4').next hg2);clear hall hv hg2 hel hcap hk4' hpa;go_wp2_with fail;go_loopg [9,10] N (fun gk i _ wr=>∃k:Nat,k+gk=N/\i=.int .i64 (k:Int)/\(∀j (hj:j<ys.length),j<k->val ys[j]≠tx)/\Gr w2 wr)
  case atStart=>exact⟨0,by omega,rfl,fun j _ q=>absurd q (Nat.not_lt_zero j),Gr.refl _⟩
  case round =>
   obtain⟨k,k1,rfl,hlow,hgr⟩:=hrel;by_cases hlt:k<N
   ·have hky:k<ys.length:=by rw[<-qa hN];exact hlt
    obtain⟨b2,e2,x0,x1,x2⟩:=qa hel' k hky;subst e2;have hmem:ys[k]∈ys:=List.getElem_mem _;have hsh:=qC (qa hshort' _ hmem);have hok:=hokm _ hmem;have hye:=qC (qa hyes' _ hmem)
    have hnx:Hid (val ys[k]≠tx->∀j (hj:j<ys.length),j<k+1->val ys[j]≠tx):=qC fun q j hj hjk=>by
     by_cases e:j=k
     ·subst e;exact q
     ·exact hlow j hj (by omega)
    generalize val ys[k]=V at hsh hye hnx;generalize ys[k]=y at x0 x1 x2 hsh hok hye;obtain⟨f,t,u⟩:=y;simp only at x0 x1 x2 hsh hok hye;have hS:Hid (Ll w2 b1 A b2 k f t u wr):=qC (Ll.next ⟨(qa hk2).pa,x0,x1,x2,Gr.refl _⟩ hgr);have htx:=qC (fun W=>mZ f t hok.1 hok.2 u W);generalize xJ (uY f t u)=TX at hye htx;have k0:(0:Int)<=(k:Int):=by omega
    have kl:(k:Int)<(N:Int):=by omega
    have hkh:=qC hky;clear x0 x1 x2 hmem hlow hgr hokm hshort' hyes' hnot' hel' hok;go_upto_region 8 with fail;refine wp_region_held_drew (S:=Ll w2 b1 A b2 k f t u) (by kernel_rfl) ((qa hS).next (Gr.refl _).drew) (fun qD=>?_);refine C.ty 0 (.agg A) rfl (wY hi72 (by rfl) _ rfl b1 rfl (fun _ h=>h.pa)) qD ?_;refine C.tq 1 (.slice (some ⟨b2,0,none⟩) N c2) qD ?_;refine C.tq 2 (.int .i64 (k:Int)) qD ?_;refine C.tq 3 (.pointer (some ⟨b2,k*3,none⟩)) qD ?_;refine C.ty 4 (.agg #[.int .i64 (f:Int),.int .i64 (t:Int),.int .u8 (u.toNat:Int)]) rfl (Or.inl ⟨by rfl,fun w hw=>(by have x0:=hw.x0;have x1:=hw.x1;have x2:=hw.x2;go_simp)⟩) qD ?_;refine C.rd 5 fun K hK=>?_
    go_simp;refine(qa hsh _).mono ?_;rintro e wc ⟨rfl,hgc⟩;refine hK.out _ _ (qD.next hgc) (fun qD=>?_);clear hK K hgc
    try simp only[C.py]
    refine C.tq 6 (.string V) qD ?_;refine wpAnyH_done (by kernel_rfl) ?_ _;have hRh:=qC qD;have y0:=qD.x0;have y1:=qD.x1;have y2:=qD.x2;clear qD hS;by_cases hq:V=tx
    ·have hb:(V.toList==tx.toList)=true:=by rw[cN];exact qJ hq
     have hend:=qC (qa hye hq);clear hye hnx hq;go_wp2_with(go_at_call 55;refine(qa htx _).mono ?_;rintro e w9 ⟨rfl,hg9⟩);go_ret2;exact⟨qa hend,Gr.trans (Gr.trans (qa hk2).gr (qa hRh).gr) hg9⟩
    ·have hb:(V.toList==tx.toList)=false:=by rw[cN];exact qE hq
     have hnx':=qC (qa hnx hq);clear hye hnx hq;go_wp2_with fail;go_roundg (gk-1)
     case measure=>omega
     case rel=>exact⟨k+1,by omega,by go_num,qa hnx',(qa hRh).gr⟩
   ·have hend:=qC (qa hnot' fun y hy=>by
     obtain⟨j,hj,rfl⟩:=List.getElem_of_mem hy;exact hlow j hj (by have:=qa hN;omega))
    have hgf:=qC (Gr.trans (qa hk2).gr hgr);clear hlow hgr hokm hshort' hyes' hnot' hel' hk2 hN;go_wp2_with fail;go_ret2;exact⟨qa hend,qa hgf⟩
 ·have h2:Hid (Calls Tryz.prog 53 #[.string s] w fun e w'=>e=.returned (.tuple #[.agg Tryz.zeroCells70,.int .i64 k])/\Gr w w'):=qC ((qa h1).mono fun e w' h=>⟨hone e h.1,h.2⟩);have hend:Hid (vU s tx (.returned (.tuple #[.string ⟨#[]⟩,.int .i64 k]))):=qC (.inl ⟨k,hbad,rfl⟩);have k2:(k != 0)=true:=by rw[qU];exact hk
  clear h1 hone hbad hs hk;go_enter Tryz.func29,Tryz.ntmps29
  go_upto_region 2 with(first
   | (go_at_call 53;refine(qa h2).mono ?_;rintro e w3 ⟨rfl,hg3⟩)
   | (refine wpList_store_row rfl 70 _ _ rfl w3.heap.size Tryz.zeroCells70 rfl rfl 70 _ (heap_alloc_new _ _) (by rw[xF];exact q9) rfl xH ?_))
  have hg4:Gr w3 ((w3.alloc (.cells Tryz.zeroCells70 70)).setRow w3.heap.size Tryz.zeroCells70):=((Gr.refl w3).alloc _ _).setRow _ (qL _) _;have hgw:=Gr.trans hg3 hg4;generalize (w3.alloc (.cells Tryz.zeroCells70 70)).setRow w3.heap.size Tryz.zeroCells70=w4 at hg4 hgw ⊢;clear h2 hg3 hg4;go_wp2_with fail;go_ret2;exact⟨qa hend,hgw⟩
end Go.Proofs.YtnfakamfmkhlbabGreatDoor.C
