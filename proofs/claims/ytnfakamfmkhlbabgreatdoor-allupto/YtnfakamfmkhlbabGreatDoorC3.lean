import Derived.Test.YtnfakamfmkhlbabGreatDoorC2
set_option maxRecDepth 100000
set_option maxHeartbeats 4000000
set_option linter.all false
open Go.Value renaming int->I,bool->Za,string->Zb,agg->Zc,tuple->Ze,slice->Zq
open Go.IntKind renaming i64->L,u8->Zg,u64->Zh,wrap->a_
open Go.Obj renaming cells->Z
open Go.Ending renaming returned->Zd
open Or renaming inl->Zi,inr->Zj
open Option renaming some->S,none->N
open Bool renaming true->Zk,false->Zl
open Decidable renaming decide->Zm
open Go.RowKit renaming Hid->Y
open Go renaming World->I6,Value->I7,Calls->i_,undef->m_
open Go.Proofs.Tryz renaming zeroCells70->b_,prog->c_
open Go.Lib renaming indexByte->e_,join->f_
open List renaming range->h_
open UInt8 renaming ofNat->j_
open Go.Op renaming stringOp->k_
open Go.Instr renaming index->l_
open Go.Code renaming wp->n_
namespace Go.Proofs.YtnfakamfmkhlbabGreatDoor.C
open Go.ChangeShapes Go.WideShapes Go.ChangeAt Go.RowKit Go.Shelf Tryz
attribute [local go_sem] qd qe Oper.semAt_some
variable {z:I2}{wh:Bool}{b h m:Int}{PA A M:I0}{fc:I5}{w W a w' w1 V:I6}{f n i k g base d e l j x B Bp:Nat}{v:I7}{u:UInt8}{Q:Nat->Obj->Prop}{rs:I3}{y:I1}
def It.later{α:Type}{P:Program}{lb:I0}{a:α->I0}{T:Obj->Prop}{C:Nat->Prop}{d:List α}(h:It P g lb a T C d w)(f:Fr (λk _=>C k) w w'):It P g lb a T C d w':=λl B J e W i m n b o j=>h l B J e W (f.trans i) m n b o j
def pu(tmps:I0)(w:I6)(b:Nat)(x y z v:I7)(h:tmps.getD 2 m_=ZI b)(i:tmps.getD 3 m_=ZI (b+1))(e:w.heap[b]?=Z #[x,y,z] 87)(g:w.heap[b+1]?=Z #[v] 4):(results Tryz.f66 tmps).run c_ w=.ok (Ze #[Zc #[x,y,z],v]) w:=by
 have a:tmps[2]?.getD m_=ZI b:=Vq;have d:tmps[3]?.getD m_=ZI (b+1):=by simpa using i
 obtain⟨c0,c1,c2⟩:=qm e;have c3:=(qi g).1;simp[results,results66,a,d,asAddr,go_sem,c0,c1,c2,c3]
def sr:(c_.info? 87).map (·.size)=S 3:=WR
def qjb{F:Fence}{i:Array Oper}{d:List Oper}{o:Oper}{a:Act}{Q:Exit->Act->I6->Prop}(p:o.guard=N)(x y:Operand)(j:o.op=.store 87 x y)(b:Nat)(cells:I0)(u:a.eval x=ZI b)(v:a.eval y=cells)(g:I0)(q:w.heap[b]?=Z g 87)(z:g.size=3)(l:cells.size=3)(k:cells.all (·.oneCell')=Zk)(h:wpListIn F n c_ i Q d (a.put o.dst m_) (w.setRow b cells)):wpListIn F n c_ i Q (o::d) a w:=
 wpListIn_plain p λK hK=>by
  refine⟨λf m=>?_,?_⟩
  .simp[Oper.about,j]at m
  rw[Oper.semAt_eq _ _ _ (by rw[j];intro c e;cases e)];have r:(execOp a.eval o).run c_ w=.ok .skip (w.setRow b cells):=by have:=run_storeVar_row (P:=c_) w b 87 87 g cells q (by rw[sr,l]) O k;unfold execOp;simp only[j,u,v,Instr.storeAt,Instr.sureAddr,Sem.run_bind,Sem.run_pure,XV,this]
  rw[r];exact hK _ _ h
def qzv{lb:I0}{C:Nat->Prop}{a4:List Mv}(W:It c_ g lb vr (λ_=>False) C a4 w)(S:∀args w,(callFunc g args).run c_ w=.ok (.enter g args) w)(y:∀k,C k->k<w.heap.size):ZL 66 #[.func (.func g) #[] lb] w (Ze #[gJ (a4.headD (0,0,0)),!a4.isEmpty]):=by
 refine(ZY (n:=9)).1 ?_;refine callsIn_of_wp_marks func66 rfl x_ ?_ R;simp only[ntmps66,Nat.reduceAdd,Nat.reduceSub,Zr];apply Z9.2;go_wp2;obtain⟨h1,h2⟩:=x6 w (Z #[I L 0,I L 0,I Zg 0] 87) (Z #[Zl] 4);have z:Gr w ((w.alloc (Z #[I L 0,I L 0,I Zg 0] 87)).alloc (Z #[Zl] 4)):=ZN.al;have b0:((w.alloc (Z #[I L 0,I L 0,I Zg 0] 87)).alloc (Z #[Zl] 4)).heap.size=w.heap.size+2:=WU;generalize (w.alloc _).alloc _=n at h1 h2 z b0|-;refine Z9.1 (xj (n:=9) (gf:=g) (lb:=lb) R S W (λ_ h=>h.elim) (λk a7=>by have:=y k a7;omega) (p_ z) (λ_=>R)
  (λl V=>l=[]/\V.heap[w.heap.size]?=some (Z #[I L 0,I L 0,I Zg 0] 87)/\V.heap[w.heap.size+1]?=some (Z #[Zl] 4)/\Gr w V/\n<=V.heap.size)
  (λc l V=>c=.ret/\∃x,l=[x]/\V.heap[w.heap.size]?=some (Z (pU x) 87)/\V.heap[w.heap.size+1]?=some (Z #[Zk] 4)/\Gr w V/\n<=V.heap.size)
  ?sI ?sX ⟨R,h1,h2,z,Zy⟩ ?rnd ?done ?stop)
 case sI=>exact λs A A' h f=>⟨h.1,f.same _ _ h.2.1 (Zi O),f.same _ _ h.2.2.1 (Zi O),u_ h.2.2.2.1 (f.below (n:=w) (ZR h.2.2.2.1) (λk o a7=>Zi O)),q7 h.2.2.2.2 f.size⟩
 case sX=>exact λc s A A' h f=>⟨h.1,h.2.elim λx E=>⟨x,E.1,f.same _ _ E.2.1 (Zi O),f.same _ _ E.2.2.1 (Zi O),u_ E.2.2.2.1 (f.below (n:=w) (ZR E.2.2.2.1) (λk o a7=>Zi O)),q7 E.2.2.2.2 f.size⟩⟩
 case done=>
  rintro D V hD ⟨d,F,H,G,B⟩ hK;subst d;have a5:∀j o,V.heap[j]?=some o->(V.alloc (Z #[I L 0,I L 0,I Zg 0] 87)).heap[j]?=some o:=λj o h=>(YP V _ _ (qB.1 h).1).trans h;have K:=a5 _ _ F;have a0:=a5 _ _ H;have P:=a5 _ _ hK;have T:Gr w (V.alloc (Z #[I L 0,I L 0,I Zg 0] 87)):=G.alloc _ _;have i:((V.alloc (Z #[I L 0,I L 0,I Zg 0] 87)).setRow w #[I L 0,I L 0,I Zg 0]).heap[w.heap.size]?=some (Z #[I L 0,I L 0,I Zg 0] 87):=Zt K;have a:((V.alloc (Z #[I L 0,I L 0,I Zg 0] 87)).setRow w #[I L 0,I L 0,I Zg 0]).heap[w.heap.size+1]?=some (Z #[Zl] 4):=by rw[Zu O];exact a0
  have M:((V.alloc (Z #[I L 0,I L 0,I Zg 0] 87)).setRow w #[I L 0,I L 0,I Zg 0]).heap[D]?=some (.deferred (some [])):=by rw[Zu O];exact P
  have b:Gr w ((V.alloc (Z #[I L 0,I L 0,I Zg 0] 87)).setRow w #[I L 0,I L 0,I Zg 0]):=T.setRow _ Zy _;obtain⟨c3,c4⟩:=qi a;go_wp2_with(refine ZU R 87 _ _ R w #[I L 0,I L 0,I Zg 0] R R 87 _ K sr R Vi ?_);generalize (V.alloc _).setRow _ _=a6 at i a M b|-;have a8:(a6.setCell ⟨w+1,0,N⟩ Zl).heap[D]?=some (.deferred (some [])):=(KeepsOthers.setCell a6 ⟨w+1,0,N⟩ Zl).same D _ M R;refine⟨WU,Zi ⟨_,_,R,YU a8,?_⟩⟩;exact⟨_,pu _ _ w _ _ _ _ R R (DA (by rw[Yg _ _ _ _ WU];exact i) O) (DA (jm a) O),R,u_ (Yr b (show w<=w.heap.size+1 from O) _) (XZ (w:=n) (n₀:=w) O _ D _ _ hD a8 R R)⟩
 case stop=>
  rintro D c l V hD J ⟨rfl,x,rfl,F,H,G,B⟩ hK;apply Z9.2;go_wp2;have e1:a4.headD (0,0,0)=x/\a4.isEmpty=Zl:=by obtain⟨r,rfl⟩:=J;exact⟨R,R⟩
  refine⟨WU,Zi ⟨_,_,R,YU hK,?_⟩⟩;exact⟨_,pu _ _ w _ _ _ _ R R (DA F O) (DA H O),by rw[e1.1,e1.2];rfl,u_ G (XZ (w:=n) (n₀:=w) O _ D _ _ hD hK R R)⟩
 case rnd=>
  rintro l1 l ⟨fr,m,u⟩ V a1 E ⟨d,F,H,G,B⟩ hl;subst d;have a2:l1<V:=hl.elim λr hr=>(qB.1 hr).1;simp only[vr,gJ];gi_wp2;refine⟨ZP.alloc _,?_⟩;intro p f2 a9 a3;obtain⟨_,F,H,G,B⟩:=a9;have kx:p.heap[V.heap.size]?=some (Z (ZJ fr m u) 87):=f2.same _ _ (ZQ V _) O;have Q:n<=V.heap.size:=O;generalize V.heap.size=Bx at kx Q|-;obtain⟨x0,x1,x2⟩:=qm kx;have a:(p.setRow w (ZJ fr m u)).heap[w.heap.size+1]?=some (Z #[Zl] 4):=by rw[Zu O];exact H
  have i:(p.setRow w (ZJ fr m u)).heap[w.heap.size]?=some (Z (ZJ fr m u) 87):=Zt F;obtain⟨c3,c4⟩:=qi a;have b:Gr w (p.setRow w (ZJ fr m u)):=G.setRow _ Zy _;have v:Fr (jM n (λ_=>False) C) p (p.setRow w (ZJ fr m u)):=⟨R,R,R,by rw[Xa];exact Zy,λk o e q=>by
   rw[Zu (by
    rintro rfl;obtain q|q:=q
    .have:=y _ q;omega
    omega)];exact e⟩
  gi_wp2_with (apply qjb R _ _ R w (ZJ fr m u) R R _ F R R Vi);generalize p.setRow _ _=a6 at i a b v|-;refine⟨v.setCell _ ?_,R,(fr,m,u),R,?_,jm a,Yr b (show w<=w.heap.size+1 from O) _,?_⟩
  .rintro o-(q|q)
   .have:=y _ q;simp at this;omega
   have:=q.1;simp at this;omega
  .rw[Yg _ _ _ _ WU];exact i
  have:=v.size;simp[World.setCell];omega
def tC(x y:Mv)(k:Nat)(w:I6)(h:w.heap[k]?=Z (pU y) 87):ZL 201 #[gJ x,ZI k] w (x==y):=by
 obtain⟨f,t,u⟩:=x;obtain⟨i,g,b⟩:=y;have n:(w.alloc (Z (ZJ f t u) 87)).heap[k]?=Z (ZJ i g b) 87:=(YP w _ _ (qB.1 h).1).trans h;obtain⟨c0,c1,c2⟩:=qm n;simp only[gJ];by_cases l:f=i;subst l;by_cases m:t=g;subst m;by_cases j:u=b;subst j;have a:(((f,t,u):Mv)==(f,t,u))=Zk:=WU;rw[a];rotate_left;have a:(((f,t,u):Mv)==(f,t,b))=Zl:=by simp[j]
 have d:(u.toNat:Int)≠(b.toNat:Int):=λe=>j (q6.1 O);rw[a];rotate_left;have a:(((f,t,u):Mv)==(f,g,b))=Zl:=by simp[m]
 have d:(t:Int)≠(g:Int):=O;rw[a];rotate_left;have a:(((f,t,u):Mv)==(i,g,b))=Zl:=by simp[l]
 have d:(f:Int)≠(i:Int):=O;rw[a];all_goals
  unfold ZL;go_in;go_wp2;go_ret;exact⟨R,ZN⟩
structure cR(g:Nat)(lb:I0)(Bw Bt:Nat)(W:I6):Prop where
 th:W.heap[Bt]?=S (Z #[.func (.func g) #[] lb] 141)
 fi:W.heap[Bt+1]?=S (Z #[.func (.func 201) #[] #[ZI Bw]] 143)
 le:Bw<W.heap.size
def cR.gr{lb:I0}{b:Nat}{e:I6}(h:cR g lb d b W)(a:Gr W e):cR g lb d b e:=⟨ZE a h.th,ZE a h.fi,qN h.le (ZR a)⟩
def B0{lb:I0}{C:Nat->Prop}{d:List Mv}(E:It c_ g lb vr (λ_=>False) C d w)(A:∀args w,(callFunc g args).run c_ w=.ok (.enter g args) w)(z:∀k,C k->k<w.heap.size)(y:Mv):ZL 119 #[.func (.func g) #[] lb,gJ y] w (d.any λx=>x==y):=by
 have P:=qmf;obtain⟨f,t,u⟩:=y;generalize J:((f,t,u):Mv)=y;have M:gJ y=(ZJ f t u):=by rw[<-J];rfl
 rw[M];unfold ZL;go_in;go_upto_region 1 with fail;obtain⟨w1,b⟩:∃w1,w1=w.alloc (Z (ZJ f t u) 87):=⟨_,R⟩;rw[<-b];have p:Y (Gr w w1):=(by rw[b];exact(q_ w).alloc _ _);have j:w1.heap[w.heap.size]?=Z (pU y) 87:=by rw[b,<-J];exact Zv
 clear b M J;have a:Y (∀i W,Gr w1 W->cR g lb w i W->ZL 66 #[.func (.func 155) #[] #[ZI i,ZI (i+1)]] W (Ze #[gJ ((d.filter (·==y)).headD (0,0,0)),(!(d.filter (·==y)).isEmpty)])):=X (λi W a0 v=>by
  have o:=ZE a0 j;have q:=o_ p a0;have m:∀k,(C k\/k=w.heap.size)->k<W.heap.size:=λk F=>F.elim (λh=>qN (z k h) (ZR q)) (λh=>h▸(qB.1 o).1);apply qzv (C:=λk=>(C k\/k=w.heap.size)\/k=i\/k=i+1) (qkg (C:=λk=>C k\/k=w.heap.size) ((E.later (p_ q)).mono λk h=>Zi h) A (YC func201 WR R) (λ_ h=>h.elim) (λ_ _ h=>h) m i (i+1) (·==y) v.th v.fi (λx _ V a1=>tC x y w V (a1.same _ _ o (Zj R)))) (YC func155 WR R);rintro k (F|rfl|rfl)
  .exact m k F
  .exact(qB.1 v.th).1
  .exact(qB.1 v.fi).1)
 have n:Y ((d.any λx=>x==y)=!(d.filter (·==y)).isEmpty):=X (by
  cases r:(d.filter (·==y)).isEmpty
  .rw[List.isEmpty_eq_false_iff_exists_mem]at r;obtain⟨x,T⟩:=r;rw[qV]at T;exact qY.2 ⟨x,T.1,T.2⟩
  .rw[List.isEmpty_iff,X1]at r;exact XD.2 r)
 generalize (!(d.filter (·==y)).isEmpty)=a3 at a n;generalize (d.filter _).headD _=a2 at a;have G:=(qB.1 j).1;go_wp2_with(first|(go_at_call 67;refine Z0 (dV _ _ _ _ _) λa4⟨H,B,l⟩=>?_)|(go_at_call 66;refine Z0 (a _ _ l ⟨H,B,qN G (ZR l)⟩) λQ D=>?_)|(refine ZU R 87 _ _ R _ (pU a2) R R 87 #[I L 0,I L 0,I Zg 0] Zv sr R (by simp[pU,Value.oneCell']) ?_));go_ret;exact⟨by rw[n.a];rfl,o_ p (o_ l (o_ D (ZN.setRow _ Zy _)))⟩
def yM:I0:=#[.func (.func 60) #[] #[],.func (.func 61) #[] #[]]
structure Il(w:I6)(PA:I0)(y:Mv)(W:I6):Prop where
 q:W.cell? ⟨w.heap.size,1,N⟩=S (.func (.func 61) #[] #[])
 pa:W.heap[w.heap.size+1]?=S (Z PA 70)
 mv:W.heap[w.heap.size+2]?=S (Z (pU y) 87)
 gr:Gr w W
def Il.next{y:Mv}(h:Il w PA y W)(g:Gr W a):Il w PA y a:=⟨(ZW g (Ye W _ h.q)).trans h.q,ZE g h.pa,ZE g h.mv,o_ h.gr g⟩
def wY{d:Array Oper}{op:Oper}{a:Act}{S:I6->Prop}(f:(c_.info? 70).map (·.size)=some PA.toList.length)(k:Region.wanted op (yielded d a.tmps)=Zk)(x:Operand)(g:op.op=.load 70 x)(b:Nat)(l:a.eval x=ZI b)(e:∀w,S w->w.heap[b]?=some (Z PA 70)):YieldsIf c_ d S op PA a:=by have:=XW (P:=c_) k 70 x g b 0 l PA.toList _ (λw h j v i=>by rw[Zs (e w h),Z2,<-qO];exact i) s_ rfl f;rwa[Yb]at this
def dl{g:Int}(r:jE z wh fc b h g PA)(A:xO z=Zk)(p:-1<=b)(v:b<=63)(y:Mv)(w:I6)(H:jF w)(G:jQ w):ZL 57 #[yM,PA,gJ y] w ((xC z wh fc b).any λx=>x==y):=by
 have J:=r;obtain⟨f,t,u⟩:=y;have d:∀Bp W,Gr w W->W.heap[Bp]?=Z PA 70->ZL 119 #[.func (.func 128) #[] #[ZI Bp],gJ (f,t,u)] W ((xC z wh fc b).any λx=>x==(f,t,u)):=λBp W o V=>
  B0 (qxq J A p v Bp (λ_=>False) (λ_ h=>h.elim) W V (H.gr o) (G.gr o)) (YC func128 WR R) (by
   rintro k (rfl|rfl|rfl)
   .exact(qB.1 V).1
   .exact(H.gr o).2
   exact(G.gr o).2) (f,t,u)
 generalize hR:(xC z wh fc b).any (λx=>x==(f,t,u))=a3 at d|-;have n:(c_.info? 70).map (·.size)=S PA.toList.length:=by rw[ZX,J.size];exact jJ
 simp only[gJ,yM]at d|-;have j:Il w PA (f,t,u) (((w.alloc (Z yM 74)).alloc (Z PA 70)).alloc (Z (pU (f,t,u)) 87)):=by have F:Gr (w.alloc (Z yM 74)) (((w.alloc (Z yM 74)).alloc (Z PA 70)).alloc (Z (pU (f,t,u)) 87)):=ZN.al;have a2:=(YG F w Vj).trans (ZQ w _);obtain⟨D,E⟩:=x6 (w.alloc (Z yM 74)) (Z PA 70) (Z (pU (f,t,u)) 87);rw[Z3]at D E;exact⟨by rw[Zs a2];rfl,D,E,o_ ZN F⟩
 unfold ZL;go_in;go_upto_region 1 with fail;show n_ _ _ _ _ (((w.alloc (Z yM 74)).alloc (Z PA 70)).alloc (Z (pU (f,t,u)) 87));generalize ((w.alloc (Z yM 74)).alloc (Z PA 70)).alloc _=P at j|-;refine ZT (S:=Il w PA (f,t,u)) WR (j.next ZO.drew) (λa=>?_);apply ZB 0 _ R (λw i=>Ua) a;apply ZB 1 _ R (λw i=>Ua) a;apply ty 2 _ R (wY n Vb _ R (w+1) R (λ_ h=>h.pa)) a;apply ZB 4 _ R (λw i=>Ua) a;refine rd 3 λK hK=>?_;go_simp;refine(zk PA _).mono ?_;rintro e Q ⟨rfl,B,l⟩;refine hK.out _ _ (a.next l) λa=>?_;refine rd 5 λK hK=>?_;go_simp;refine Z0 (d _ _ a.gr B) λT m=>?_;refine hK.out _ _ (a.next m) λa=>?_;refine rd 6 λK hK=>?_;go_simp;refine hK.out _ _ a λa=>?_;exact OT
theorem qvb(c:UInt8):∀(k:Nat)(x:I1) (r:List (I1)),(∀y∈x::r,c∉y)->r.length<=k->Lib.splitK [c] 0 k (f_ (x::r) [c])=x::r
 | k,x,[],h,_=>by rw[Lib.join_one,qva c k x (h x WU)]
 | 0,x,y::r,_,hk=>by simp at hk
 | k+1,x,y::r,h,hk=>by
  rw[ve,qS];show Lib.splitK [c] 0 (k+1) (x++c::f_ (y::r) [c])=_;rw[qj6 c k x _ (h x WU),qvb c k y r (λz a=>h z (by simp at a|-;right;exact a)) (by simp at hk;omega)]
theorem qzr(a:I1):∀(x:I1) (r:List (I1)),r.length*a.length<=(f_ (x::r) a).length
 | x,[]=>by simp
 | x,y::r=>by
  have:=qzr a y r;rw[ve,qZ,qZ,Yq,Nat.add_mul];omega
def qv4(c:UInt8)(n:Nat)(x:I1)(r:List (I1))(h:∀y∈x::r,c∉y)(d:r.length+1<=n)(s:I4)(b:s.data.toList=f_ (x::r) [c]):(xL c n s).map (·.data.toList)=x::r:=by rw[qjc,b];apply qvb c _ x r h;have a:=qzr [c] x r;rw[<-b]at a;simp at a;omega
def cL(s:I4)(k:Nat)(h:k<s.size):s.data.toList[k]?=S s[k]:=by rw[qO];exact qQ _
def xa(s:I4)(u:s.size<=maxLen)(c:UInt8)(w:I6):i_ c_ 111 #[s,I Zg c.toNat] w λe w'=>e=Zd (e_ s.data.toList c)/\w'=w:=by
 unfold maxLen at u;go_in;go_wp2;go_loopg [5] s.size (λg i wr=>∃k:Nat,k+g=s.size/\i=k/\(∀j,j<k->s.data.toList[j]?≠S c)/\wr=w)
 .exact⟨0,O,R,λj d=>w_ d (Yy j),R⟩
 obtain⟨k,v,rfl,q,rfl⟩:=hrel;have b:=q;by_cases n:k<s.size
 .have p:=cL s k n;by_cases f:s[k]=c
  .have a:e_ s.data.toList c=(k:Int):=sx b (by rw[p,f]);subst f;go_wp2;go_ret;exact⟨xo a.symm,R⟩
  have r:((s[k].toNat:Int)==(c.toNat:Int))=Zl:=by rw[qM];intro h;exact f (q6.1 O)
  have l:=f;go_wp2;go_roundg (gk-1)
  .exact⟨k+1,O,Vg,(by
   intro j d;by_cases m:j=k
   .subst m;rw[p];intro h;exact l (qP h)
   exact b j O),R⟩
  omega
 have o:k=s.size:=O;have a:e_ s.data.toList c=-1:=sw (by intro j d;exact b j (by rw[o];rw[ZX]at d;exact d));subst o;go_wp2;go_ret;exact⟨xo a.symm,R⟩
def gD(c:UInt8)(w:I6):i_ c_ 111 #[Zb ⟨#[80,78,66,82,81,75,112,110,98,114,113,107]⟩,I Zg c.toNat] w λe w'=>e=Zd (jB c)/\w'=w:=xa ⟨#[80,78,66,82,81,75,112,110,98,114,113,107]⟩ WW c w
def zp(c:UInt8)(w:I6):i_ c_ 107 #[I Zg c.toNat] w λe w'=>e=Zd (vE c)/\w'=w:=by
 have a:=rn c;have b:=gD c;have e:vE c=if 6<=jB c then jB c-6 else jB c:=R;rw[e];generalize jB c=x at a b|-;by_cases h:6<=x;rw[qI h];rotate_left;rw[qF h];all_goals
  go_in;go_wp2_with(go_at_call 111;apply Z1 (b _));go_ret;exact⟨R,R⟩
def za(c:UInt8)(w:I6):i_ c_ 115 #[I Zg c.toNat] w λe w'=>e=Zd (vB c)/\w'=w:=by
 have b:=rn c;have a:=gD c;have e:vB c=if jB c<0 then 0 else if jB c<6 then 1 else -1:=R;rw[e];generalize jB c=x at b a|-;by_cases h:x<0;rw[qI h];rotate_left;rw[qF h];by_cases d:x<6;rw[qI d];rotate_left;rw[qF d];all_goals
  go_in;go_wp2_with(go_at_call 111;apply Z1 (a _));go_ret;exact⟨R,R⟩
def DG(b:Bool)(w:I6):i_ c_ 195 #[I L 0,xK b] w λe w'=>e=I Zg (yP 0 b).toNat/\w'=w:=by exact IS
def DF(b:Bool)(w:I6):i_ c_ 195 #[I L 3,xK b] w λe w'=>e=I Zg (yP 3 b).toNat/\w'=w:=by exact IR
def DE(b:Bool)(w:I6):i_ c_ 195 #[I L 5,xK b] w λe w'=>e=I Zg (yP 5 b).toNat/\w'=w:=by exact IQ
def sj(b:Bool):yP 5 b=vk b:=by cases b<;>rfl
def zr(i:Nat)(a:i<4)(w:I6):i_ c_ 196 #[i] w λe w'=>e=Ze #[xY i,vN i,zD i,xK (Zm (i<2))]/\w'=w:=by
 have:i=0\/i=1\/i=2\/i=3:=O;obtain rfl|rfl|rfl|rfl:=this
 .go_in;go_wp2;exact ZS (v:=Ze #[I L 4,I L 6,I L 7,I L 1]) VC R ⟨R,R⟩
 .go_in;go_wp2;exact ZS (v:=Ze #[I L 4,I L 2,I L 0,I L 1]) VC R ⟨R,R⟩
 .go_in;go_wp2;exact ZS (v:=Ze #[I L 60,I L 62,I L 63,I L (-1)]) VC R ⟨R,R⟩
 go_in;go_wp2;exact ZS (v:=Ze #[I L 60,I L 58,I L 56,I L (-1)]) VC R ⟨R,R⟩
def rB(n:Int)(w:I6):i_ c_ 339 #[n] w λe w'=>e=Zd (sg n)/\w'=w:=by
 obtain h|h|h:=Int.lt_trichotomy n 0
 .have a:¬0<n:=O;have e:sg n=-1:=by rw[sg,qF a,qI h]
  go_in;exact OU
 .subst h;go_in;exact Wz
 have e:sg n=1:=by rw[sg,qI h]
 have a:=h;go_in;exact OU
def xh(n:Int)(b:-1000<=n)(d:n<=1000)(w:I6):i_ c_ 197 #[n] w λe w'=>e=Zd (ab n)/\w'=w:=by
 by_cases h:n<0
 .have e:ab n=-n:=by rw[ab,qI h]
  have a:=h;go_in;exact OU
 have e:ab n=n:=by rw[ab,qF h]
 have a:=h;go_in;exact OU
def zh(A:I0)(f:Nat->Int)(a0:∀i,i<64->A[i]?=I Zg (f i))(x y:Int)(h0:0<=x)(H:x<=63)(u:0<=y)(h3:y<=63)(p:Nat->Int) (L:Nat) (hL:1<=L) (p1:p 1=x+8*sg (y/8-x/8)+sg (y%8-x%8)) (r:∀i,p (i+1)=p i+8*sg (y/8-x/8)+sg (y%8-x%8)) (K:p L=y)(M:∀i,i<=L->0<=p i/\p i<=63) (a1:∀i,1<=i->i<L->p i≠y) (w:I6):ZL 299 #[A,I .i64 x,I .i64 y] w (B_ f p L):=by
 have W:=C5 (y/8-x/8);have a3:=C5 (y%8-x%8);generalize a5:sg (y/8-x/8)=Q at W p1 r;generalize a7:sg (y%8-x%8)=P at a3 p1 r;have B:=p1;have F:=r;have C:=K;have D:=M;have E:=a1;have v:=a0;unfold ZL;go_in;go_wp2_with(go_at_call 339;apply Z1 (rB _ _));go_loopg [9] (L-1) (λk n wr=>∃i:Nat,1<=i/\i+k=L/\n=I .i64 (p i)/\(∀j,j<i->1<=j->f (p j).toNat=46)/\wr=w.alloc (Z A 67))
 .exact⟨1,Zy,O,by rw[B],λj H u=>O,R⟩
 obtain⟨i,J,i2,rfl,a,rfl⟩:=hrel;have d:=a;have a2:=D i O;by_cases l:i<L
 .have z:(p i==y)=Zl:=by simpa using E i J l
  have b:(w.alloc (Z A 67)).cell? ⟨w,(p i).toNat,N⟩=I Zg (f (p i).toNat):=by rw[Zs Zv];exact v _ O
  have o:Y (p (i+1)=p i+8*Q+P):=F i;generalize G:f (p i).toNat=c at b;have g:=G;generalize em:p i=m at z b o a2;have a4:=em;by_cases q:c=46
  .have a6:=q;subst q;go_wp2;go_roundg (gk-1)
   .refine⟨i+1,O,O,by rw[o.a],?_,R⟩;intro j H u;by_cases e:j=i
    .subst e;exact g
    exact d j O u
   omega
  have T:(c==46)=Zl:=Ul;go_wp2;go_ret;refine⟨?_,ZN⟩;have:B_ f p L=Zl:=by rw[B_,qX];intro h;exact q (g.symm.trans (h i l J))
  rw[this];rfl
 have e:i=L:=O;subst e;have V:=C;rw[V];go_wp2;go_ret;refine⟨?_,ZN⟩;have:B_ f p i=Zk:=by rw[B_,qG];exact d
 rw[this];rfl
def nb(A:I0)(f:Nat->Int)(b:∀i,i<64->A[i]?=I Zg (f i))(d:A.size=64)(s:Int)(x y:Int)(k:0<=x)(l:x<=63)(m:0<=y)(n:y<=63)(w:I6):ZL 247 #[A,I L 0,s,x,y] w (xS f 0 s x y):=by
 have g:=b;have h:=nw (y%8-x%8) O O;have j:=nw (y/8-x/8) O O;have a:xS f 0 s x y=((ab (y%8-x%8)==1)&&(y/8-x/8==s)):=R;rw[a];rcases Wa (ab (y%8-x%8)==ab (y/8-x/8))with c1|c1;all_goals
  rcases Wa (ab (y%8-x%8)==1)with c2|c2
  all_goals
   rw[c2];unfold ZL;go_in;go_wp2_with((go_at_call 197;apply Z1 (xh _ O O _)));go_ret;exact⟨R,ZN⟩
def nZ(A:I0)(f:Nat->Int)(b:∀i,i<64->A[i]?=I Zg (f i))(d:A.size=64)(s:Int)(x y:Int)(k:0<=x)(l:x<=63)(m:0<=y)(n:y<=63)(w:I6):ZL 247 #[A,I L 1,s,x,y] w (xS f 1 s x y):=by
 have j:=b;have g:=nw (y%8-x%8) O O;have h:=nw (y/8-x/8) O O;have a:xS f 1 s x y=(ab (y%8-x%8)*ab (y/8-x/8)==2):=R;rw[a];have o:=mO _ _ g h;rcases Wa (ab (y%8-x%8)==ab (y/8-x/8))with c1|c1;all_goals
  unfold ZL;go_in;go_wp2_with((go_at_call 197;apply Z1 (xh _ O O _)));go_ret;exact⟨R,ZN⟩
def nV(A:I0)(f:Nat->Int)(b:∀i,i<64->A[i]?=I Zg (f i))(d:A.size=64)(s:Int)(x y:Int)(k:0<=x)(l:x<=63)(m:0<=y)(n:y<=63)(w:I6):ZL 247 #[A,I L 5,s,x,y] w (xS f 5 s x y):=by
 have g:=b;have h:=nw (y%8-x%8) O O;have j:=nw (y/8-x/8) O O;have a:xS f 5 s x y=(Zm (ab (y%8-x%8)<=1)&&Zm (ab (y/8-x/8)<=1)&&Zm (0<ab (y%8-x%8)+ab (y/8-x/8))):=R;rw[a];rcases Wa (ab (y%8-x%8)==ab (y/8-x/8))with c1|c1;all_goals
  rcases Wa (Zm (ab (y%8-x%8)<=1))with c2|c2
  all_goals
   rcases Wa (Zm (ab (y/8-x/8)<=1))with c3|c3
   all_goals
    rw[c2,c3];unfold ZL;go_in;go_wp2_with((go_at_call 197;apply Z1 (xh _ O O _)));go_ret;exact⟨R,ZN⟩
def nY(A:I0)(f:Nat->Int)(o:∀i,i<64->A[i]?=I Zg (f i))(q:A.size=64)(s:Int)(x y:Int)(g:0<=x)(h:x<=63)(j:0<=y)(k:y<=63)(w:I6):ZL 247 #[A,I L 2,s,x,y] w (xS f 2 s x y):=by
 have m:=o;have r:=nw (y%8-x%8) O O;have u:=nw (y/8-x/8) O O;have n:xS f 2 s x y=(yg x y&&B_ f (pI x y) (LI x y)):=R;have a:yd x y=((y%8-x%8==0)!=(y/8-x/8==0)):=R;have b:yg x y=((ab (y%8-x%8)==ab (y/8-x/8))&&Zm (0<ab (y%8-x%8))):=R;rw[n];rcases cC (y%8-x%8) (y/8-x/8)with⟨c1,c2,c3,d⟩|⟨c1,c2,c3,d⟩|⟨c1,c2,c3,d⟩|⟨c1,c2,c3,d⟩|⟨c1,c2,c3,d⟩
 .rw[c3,d]at a;exact Wx
 .rw[c3,d]at a;exact Wx
 .rw[c3,d]at a;exact Wx
 .rw[c3,d]at a;rw[c1,c2]at b;try rw[a]
  try rw[b]
  have l:yd x y=Zk\/yg x y=Zk:=Ux;unfold ZL;go_in;go_wp2_with(first|(go_at_call 197;apply Z1 (xh _ O O _))|(refine ZV R 67 _ R w R 67 A (0,0) _ Zv t_ rfl (by rw[q];exact x7) ?_)|(go_at_call 299;refine Z0 (zh A f m x y g h j k (pI x y) (LI x y) (FC x y g h j k l) (IX x y) (FF x y) (FD x y g h j k l) (Dp x y g h j k l) (FE x y g h j k l) _) λw' p=>?_));go_ret;exact⟨R,ZN.trans p⟩
 rw[c3,d]at a;exact Wx
def nX(A:I0)(f:Nat->Int)(p:∀i,i<64->A[i]?=I Zg (f i))(q:A.size=64)(s:Int)(x y:Int)(d:0<=x)(g:x<=63)(h:0<=y)(j:y<=63)(w:I6):ZL 247 #[A,I L 3,s,x,y] w (xS f 3 s x y):=by
 have m:=X p;have r:=nw (y%8-x%8) O O;have u:=nw (y/8-x/8) O O;have o:xS f 3 s x y=(yd x y&&B_ f (pI x y) (LI x y)):=R;have a:yd x y=((y%8-x%8==0)!=(y/8-x/8==0)):=R;have b:yg x y=((ab (y%8-x%8)==ab (y/8-x/8))&&Zm (0<ab (y%8-x%8))):=R;rw[o];rcases cC (y%8-x%8) (y/8-x/8)with⟨c1,c2,c3,k⟩|⟨c1,c2,c3,k⟩|⟨c1,c2,c3,k⟩|⟨c1,c2,c3,k⟩|⟨c1,c2,c3,k⟩
 .rw[c3,k]at a;exact Wx
 .exact WJ
 .exact WJ
 .rw[c3,k]at a;exact Wx
 rw[c3,k]at a;exact Wx
def nW(A:I0)(f:Nat->Int)(q:∀i,i<64->A[i]?=I Zg (f i))(o:A.size=64)(s:Int)(x y:Int)(d:0<=x)(g:x<=63)(h:0<=y)(j:y<=63)(w:I6):ZL 247 #[A,I L 4,s,x,y] w (xS f 4 s x y):=by
 have m:=X q;have r:=nw (y%8-x%8) O O;have u:=nw (y/8-x/8) O O;have p:xS f 4 s x y=((yd x y||yg x y)&&B_ f (pI x y) (LI x y)):=R;have a:yd x y=((y%8-x%8==0)!=(y/8-x/8==0)):=R;have b:yg x y=((ab (y%8-x%8)==ab (y/8-x/8))&&Zm (0<ab (y%8-x%8))):=R;rw[p];rcases cC (y%8-x%8) (y/8-x/8)with⟨c1,c2,c3,l⟩|⟨c1,c2,c3,l⟩|⟨c1,c2,c3,l⟩|⟨c1,c2,c3,l⟩|⟨c1,c2,c3,l⟩
 .exact OS
 .exact ZM
 .exact ZM
 .exact ZM
 exact OS
def qzz(A:I0)(f:Nat->Int)(h:∀i,i<64->A[i]?=I Zg (f i))(j:A.size=64)(k:Nat)(l:k<=5)(s:Int)(x y:Int)(a:0<=x)(b:x<=63)(d:0<=y)(g:y<=63)(w:I6):ZL 247 #[A,k,s,x,y] w (xS f k s x y):=by
 have:k=0\/k=1\/k=2\/k=3\/k=4\/k=5:=O;obtain rfl|rfl|rfl|rfl|rfl|rfl:=this
 .exact nb A f h j s x y a b d g w
 .exact nZ A f h j s x y a b d g w
 .exact nY A f h j s x y a b d g w
 .exact nX A f h j s x y a b d g w
 .exact nW A f h j s x y a b d g w
 exact nV A f h j s x y a b d g w
def aD{c:UInt8}{b:Bool}(h:vB c=xK b):∃k:Nat,k<=5/\vE c=(k:Int):=by
 have:=rn c;unfold vB xK at h;unfold vE;cases b
 .simp only[qR,YH]at h;refine⟨(jB c-6).toNat,?_,?_⟩
  .exact OH
  rw[qI VR];exact OH
 simp only[YS]at h;refine⟨(jB c).toNat,?_,?_⟩
 .exact OH
 rw[qF VR];exact OH
def Bd(b:Nat)(A:I0)(w:I6):Prop:=w.heap[b]?=S (Z A 67)/\b<w.heap.size
def Bd.gr{b:Nat}(h:Bd b A w)(g:Gr w w'):Bd b A w':=⟨by rw[Zz g h.2];exact h.1,qN h.2 (ZR g)⟩
def Bd.cell{b:Nat}(h:Bd b A w)(a:A[i]?=v):w.cell? ⟨b,i,N⟩=v:=by rw[Zs h.1];exact a
def lH(c:UInt8)(w:I6):ZL 107 #[I Zg c.toNat] w (vE c):=(zp c w).mono λ_ _ h=>⟨h.1,by rw[h.2];exact ZO⟩
def gU{b:Nat}(h:Bd b A w1)(d:A[k]?=v)(g:Gr w1 w'):Gr w1 w'/\w'.rangeAt b 0 A.toList/\w'.cell? ⟨b,k,N⟩=S v:=⟨g,(λj u a=>by rw[Z2];exact(h.gr g).cell (by rw[<-qO];exact a)),(h.gr g).cell d⟩
def nK(e:A.size=64)(d:∀i,i<64->A[i]?=I Zg (z i).toNat):∀v∈A.toList,v.oneCell'=Zk:=by
 intro v f;obtain⟨i,b,rfl⟩:=List.getElem_of_mem f;have a:i<64:=by simpa[e]using b
 have:=d i a;rw[<-qO,Yf b]at this;simp at this;simp[this,Value.oneCell']
def ju(z:I2)(A:I0)(P:A.size=64)(a1:∀i,i<64->A[i]?=I Zg (z i).toNat)(y:Int)(h0:0<=y)(h1:y<=63)(b:Bool)(w:I6):ZL 192 #[A,y,xK b] w (zM z y b):=by
 obtain⟨f,a2⟩:∃f:I5,Y (f=λn=>Zm (vB (z n)=xK b)&&xS (zI z) (vE (z n)).toNat (xK b) (n:Int) y):=⟨_,X R⟩;have m:zM z y b=(h_ 64).any f:=by rw[a2.a];rfl
 rw[m];have D:=X (λ(k:Nat)(hk:k<=5)(n:Nat)(hn:n<64) W=>qzz A (zI z) (λi a5=>a1 i a5) P k hk (xK b) (n:Int) y O O h0 h1 W);have a8:Y (Bd w A (w.alloc (Z A 67))):=⟨Zv,Vj⟩;have K:Y (Gr w (w.alloc (Z A 67))):=X ZN;have a6:=X a1;have hu:=t_;have a5:(c_.info? 67).map (·.size)=S A.toList.length:=by rw[x7];simp[P]
 have hl:A.toList.length=64:=by simpa using P
 have a0:=nK P a1;have a7:xK b=1\/xK b=-1:=by cases b<;>simp[xK]
 have M:Y (∀c:UInt8,vB c=xK b->∃k:Nat,k<=5/\vE c=(k:Int)):=λc h=>aD h;generalize xK b=J at a2 D a7 M|-;unfold ZL;go_in;go_wp2;go_loopg [7] 64 (λg n wr=>∃k:Nat,k+g=64/\n=k/\(∀j,j<k->f j=Zl)/\Gr (w.alloc (Z A 67)) wr)
 .exact⟨0,R,R,λj e=>w_ e (Yy j),ZO⟩
 obtain⟨k,k1,rfl,q,o⟩:=hrel;have a3:=X q;by_cases x:k<64
 .have a:=a8.gr o;have H:=a6 k x;have V:=Bd.cell a H;have u:Y (f k=(Zm (vB (z k)=J)&&xS (zI z) (vE (z k)).toNat J (k:Int) y)):=X (by rw[a2.a]);by_cases E:vB (z k)=J
  .obtain⟨Q,C,p⟩:=M (z k) E;have a4:=X p;have T:(vB (z k)==J)=Zk:=(by rw[E];simp);have B:Y (f k=xS (zI z) Q J (k:Int) y):=X (by rw[u.a,qJ E,p];simp);obtain⟨av,r⟩:=Zo (xS (zI z) Q J (k:Int) y);cases av
   .have d:Y (f k=Zl):=X (by rw[B.a,r]);go_wp2_with(go_at_call 115;apply Z1 (za _ _));go_region_held3 (λw'=>Gr wr w'/\w'.rangeAt w 0 A.toList/\w'.cell? ⟨w,k,N⟩=I Zg (z k).toNat) (first|exact gU a H ZO.drew|exact gU a H ‹_›|exact gU a H (Gr.alloc (vy ‹_›) _ _)) (first|(go_at_call 107;refine Z0 (lH _ _) λw' F=>?_;rw[a4.a];have l:=o_ (vy ‹_›) F)|(go_at_call 247;refine Z0 (D Q C k x _) λw' F=>?_;rw[r];have l:=o_ (vy ‹_›) F));go_wp2;go_roundg (gk-1)
    .exact⟨k+1,O,Vg,(by
     intro j e;by_cases G:j=k
     .subst G;exact d
     exact a3 j O),o_ o l⟩
    omega
   have d:Y (f k=Zk):=X (by rw[B.a,r]);go_wp2_with(go_at_call 115;apply Z1 (za _ _));go_region_held3 (λw'=>Gr wr w'/\w'.rangeAt w 0 A.toList/\w'.cell? ⟨w,k,N⟩=I Zg (z k).toNat) (first|exact gU a H ZO.drew|exact gU a H ‹_›|exact gU a H (Gr.alloc (vy ‹_›) _ _)) (first|(go_at_call 107;refine Z0 (lH _ _) λw' F=>?_;rw[a4.a];have l:=o_ (vy ‹_›) F)|(go_at_call 247;refine Z0 (D Q C k x _) λw' F=>?_;rw[r];have l:=o_ (vy ‹_›) F));go_wp2;go_ret;exact⟨by rw[qY.2 ⟨k,qK.2 x,d.a⟩];rfl,o_ K (o_ o l)⟩
  have T:(vB (z k)==J)=Zl:=by simpa using E
  have d:Y (f k=Zl):=(by rw[u.a,qE E];rfl);go_wp2_with(go_at_call 115;apply Z1 (za _ _));go_roundg (gk-1)
  .exact⟨k+1,O,Vg,(by
   intro j e;by_cases G:j=k
   .subst G;exact d
   exact a3 j O),o⟩
  omega
 have ek:k=64:=O;subst ek;go_wp2;go_ret;exact⟨by
  have:(h_ 64).any f=Zl:=by rw[XD];intro j e;rw[a3.a j (qK.1 e)];decide
  rw[this];rfl,o_ K.a o⟩
def qbJ(b:Bool)(w:I6):ZL 195 #[I L 5,xK b] w (I Zg (vk b).toNat):=by rw[<-sj];exact(DE b w).mono λ_ _ h=>⟨h.1,by rw[h.2];exact ZO⟩
def gT{b:Nat}(h:Bd b A w1)(a:A[k]?=v)(g:Gr w1 w'):Gr w1 w'/\w'.cell? ⟨b,k,N⟩=S v:=⟨g,(h.gr g).cell a⟩
def qzo(z:I2)(A:I0)(G:∀i,i<64->A[i]?=I Zg (z i).toNat)(b:Bool)(w:I6):ZL 193 #[A,xK b] w (xR z b):=by
 have C:Y (Bd w A (w.alloc (Z A 67))):=⟨Zv,Vj⟩;have u:Y (Gr w (w.alloc (Z A 67))):=X ZN;have B:=X G;have x:=X (qbJ b);have l:=X (λk h K y=>qkm (z:=z) (b:=b) (k:=k) h K y);have o:=X (λh=>aC (z:=z) (b:=b) h);generalize vk b=e at x l o;generalize xK b=Q at x|-;generalize xR z b=V at l o|-;unfold ZL;go_in;go_wp2;go_loopg [5] 64 (λg n wr=>∃k:Nat,k+g=64/\n=k/\(∀j,j<k->(z j==e)=Zl)/\Gr (w.alloc (Z A 67)) wr)
 .exact⟨0,R,R,λj H=>w_ H (Yy j),ZO⟩
 obtain⟨k,T,rfl,P,f⟩:=hrel;have p:=X P;by_cases v:k<64
 .have a:=C.gr f;have q:=B k v;by_cases r:z k=e
  .have d:Y (V=(k:Int)):=l k p (by simp[r]) v;subst r;go_wp2;go_region_held3 (λw'=>Gr wr w'/\w'.cell? ⟨w,k,N⟩=I Zg (z k).toNat) (first|exact gT a q ZO.drew|exact gT a q ‹_›|exact gT a q (Gr.alloc (vy ‹_›) _ _)) (first|(go_at_call 195;refine Z0 (x _) λw' E=>?_;have m:=o_ (vy ‹_›) E));go_wp2;go_ret;exact⟨xo d.symm,o_ u (o_ f m)⟩
  have M:(((z k).toNat:Int)==(e.toNat:Int))=Zl:=by rw[qM];intro h;exact r (q6.1 O)
  have D:Y ((z k==e)=Zl):=X (by simpa using r);go_wp2;go_region_held3 (λw'=>Gr wr w'/\w'.cell? ⟨w,k,N⟩=I Zg (z k).toNat) (first|exact gT a q ZO.drew|exact gT a q ‹_›|exact gT a q (Gr.alloc (vy ‹_›) _ _)) (first|(go_at_call 195;refine Z0 (x _) λw' E=>?_;have m:=o_ (vy ‹_›) E));go_wp2;go_roundg (gk-1)
  .exact⟨k+1,O,Vg,(by
   intro j H;by_cases F:j=k
   .subst F;exact D
   exact p j O),o_ f m⟩
  omega
 have J:k=64:=O;subst J;have d:=X (o p);go_wp2;go_ret;exact⟨xo d.symm,o_ u f⟩
def qxr(z:I2)(b:Bool)(k:Nat):ka z b (k+1)=ka z b k+(if vB (z k)=xK b then 1 else 0):=by
 unfold ka;rw[YI,YJ,qZ];by_cases h:vB (z k)=xK b
 .rw[qI h];simp[h]
 rw[qF h];simp[h]
def qxw(z:I2)(b:Bool)(k:Nat):vZ z b (k+1)=vZ z b k+(if jB (z k)=((bg b+5:Nat):Int)then 1 else 0):=by
 unfold vZ;rw[YI,YJ,qZ];by_cases h:jB (z k)=((bg b+5:Nat):Int)
 .rw[qI h];simp only[List.filter_cons,h,decide_true,YS,List.filter_nil,Yq,XN]
 rw[qF h];simp only[List.filter_cons,h,decide_false,qR,YH,List.filter_nil,XN]
def cB{f:I5}:∀k,((h_ k).filter f).length<=k:=λk=>by
 have:=Y8 f (h_ k);simpa using this
def t8(d:k<64)(h:vf z k=Zk)(wh:Bool)(f:I5)(b a g:Int):zT z wh f b a g=Zl:=by grind[vf,qK,zT]
def au(z:I2)(k:Nat)(k0 k1 m0 m1:Nat):Prop:=k0=vZ z Zk k/\k1=vZ z Zl k/\m0=ka z Zk k/\m1=ka z Zl k
def au.le{a b:Nat}(h:au z k a b d e):a<=k/\b<=k/\d<=k/\e<=k:=by obtain⟨rfl,rfl,rfl,rfl⟩:=h;exact⟨cB k,cB k,cB k,cB k⟩
def au.none{b:Nat}(h:au z k b d f g)(e:z k=46):au z (k+1) b d f g:=by
 obtain⟨rfl,rfl,rfl,rfl⟩:=h;have i:jB (z k)=-1:=by rw[e];exact uo
 have a:vB (z k)=0:=by rw[vB,qI O]
 refine⟨?_,?_,?_,?_⟩
 .rw[qxw,qF O];rfl
 .rw[qxw,qF O];rfl
 .rw[qxr,qF (by rw[a];decide)];rfl
 rw[qxr,qF (by rw[a];decide)];rfl
def au.some{m o p:Nat}(h:au z k m n o p)(b:Bool)(d:vB (z k)=xK b):au z (k+1) (m+if b&&Zm (vE (z k)=5)then 1 else 0) (n+if !b&&Zm (vE (z k)=5)then 1 else 0) (o+if b then 1 else 0) (p+if b then 0 else 1):=by
 obtain⟨rfl,rfl,rfl,rfl⟩:=h;obtain⟨i,r,g,j⟩:=zq d;have l:vE (z k)=(i:Int):=by have:=rn (z k);unfold vE at j|-;have q:bg b=0\/bg b=6:=Tw;split<;>split at j<;>omega
 have e:bg Zk=0:=R;have f:bg Zl=6:=R;refine⟨?_,?_,?_,?_⟩
 .rw[qxw,g,l];cases b
  .rw[qF (show ¬(((bg Zl+i:Nat):Int)=((bg Zk+5:Nat):Int)) by rw[e,f];omega)];rfl
  congr 1;by_cases a:i=5
  .subst a;rfl
  rw[qF (show ¬(((bg Zk+i:Nat):Int)=((bg Zk+5:Nat):Int)) from O),qF (show ¬((Zk&&Zm ((i:Int)=5))=Zk) from WX)]
 .rw[qxw,g,l];cases b
  .congr 1;by_cases a:i=5
   .subst a;rfl
   rw[qF (show ¬(((bg Zl+i:Nat):Int)=((bg Zl+5:Nat):Int)) from O),qF (show ¬((!false&&Zm ((i:Int)=5))=Zk) from WX)]
  rw[qF (show ¬(((bg Zk+i:Nat):Int)=((bg Zl+5:Nat):Int)) by rw[e,f];omega)];rfl
 .rw[qxr,d];cases b<;>rfl
 rw[qxr,d];cases b<;>rfl
def DW(w:I6)(PA a b:I0)(t u:TypeId):zJ w PA (((w.alloc (Z PA 70)).alloc (Z a t)).alloc (Z b u)):=zJ.gr (w:=w.alloc (Z PA 70)) (qy Zv) ZN.al
def AS(w:I6)(PA a b:I0)(t u:TypeId)(o:Nat)(v:I7)(h:PA[o]?=v):(((w.alloc (Z PA 70)).alloc (Z a t)).alloc (Z b u)).cell? ⟨w,o,N⟩=v:=by rw[YZ _ _ _ UA,YZ _ _ _ Vj,Z8 _ _ _ _ R];exact h
def i7(b:Bool)(j:Int)(w:I6)(a:j=5\/j=3):i_ c_ 195 #[j,xK b] w λe w'=>e=I Zg (fC b j)/\w'=w:=by
 obtain rfl|rfl:=a
 .refine(DE b w).mono λ_ _ h=>⟨h.1.trans ?_,h.2⟩;cases b<;>rfl
 refine(DF b w).mono λ_ _ h=>⟨h.1.trans ?_,h.2⟩;cases b<;>rfl
section
attribute [local go_sem] i8 lA lB lC
def HH(w1:I6)(b:Nat)(PA:I0)(w:I6):Prop:=zJ b PA w/\Gr w1 w
def HH.gr{b:Nat}(h:HH w1 b PA w)(g:Gr w w'):HH w1 b PA w':=⟨h.1.gr g,o_ h.2 g⟩
def si{a:Nat}(e:au z 64 a d f g)(l:a=1)(m:d=1)(b:Bool):∃y:Nat,y<64/\xR z b=(y:Int):=by
 obtain⟨j,k,_,_⟩:=e;have:vZ z b 64=1:=by cases b<;>omega
 obtain⟨y,h,_,i⟩:=js this;exact⟨y,h,i⟩
def FN{f:I5}{g:Int}(r:jE z wh f b h g PA):(PA.toList.take 64).toArray.size=64/\∀i,i<64->(PA.toList.take 64).toArray[i]?=I Zg (z i).toNat:=by exact IG
def DB{d:Array Oper}{op:Oper}{a:Act}(l:PA.size=72){S:I6->Prop}(i:Region.wanted op (yielded d a.tmps)=Zk)(x:Operand)(g:op.op=.load 67 x)(b:Nat)(k:a.eval x=ZI b)(f:∀w,S w->zJ b PA w):YieldsIf c_ d S op ((PA.toList.take 64).toArray) a:=
 XW (P:=c_) i 67 x g b 0 k (PA.toList.take 64) _ (λw h=>λj v e=>(f w h).2 j v (by
  rw[Yv]at e;split at e
  .exact e
  cases e)) t_ rfl (by rw[x7];simp[l])
def Dv{f:I5}{g:Int}(r:jE z wh f b h g PA)(w:I6):ZL 116 #[PA] w (xK wh):=by
 have a:(w.alloc (Z PA 70)).cell? ⟨w,64,N⟩=wh:=by rw[Z8 _ _ _ _ R];exact r.wh
 cases wh
 .unfold ZL;go_in;go_wp2;exact WM
 unfold ZL;go_in;go_wp2;exact WM
def nJ{a:Nat}(l:au z 64 a d e i)(k:∀j,j<64->vf z j=Zl)(wh:Bool)(f:I5)(b h g:Int):zT z wh f b h g=(Zm (a=1)&&Zm (d=1)&&Zm (e<=16)&&Zm (i<=16)&&jH z f&&xX z wh b&&!(zM z (xR z (!wh)) wh)&&zP h g):=by
 obtain⟨rfl,rfl,rfl,rfl⟩:=l;have:((h_ 64).all λn=>!(vf z n))=Zk:=by rw[qW];intro j m;rw[k j (qK.1 m)];rfl
 rw[zT,this,Xc]
def qbk(z:I2)(wh:Bool):∃d:Int,((xK wh<0/\d=2)\/(¬xK wh<0/\d=5))/\(∀b:Int,b≠-1->¬(8*d<=b/\b<8*d+8)->xX z wh b=Zl)/\∀n:Nat,8*d<=(n:Int)->(n:Int)<8*d+8->∃U D:Nat,U<64/\D<64/\(U:Int)=n+8*xK wh/\(D:Int)=n-8*xK wh/\xX z wh n=(Zm (((z n).toNat:Int)=46)&&Zm (((z U).toNat:Int)=46)&&Zm (((z D).toNat:Int)=((yP 0 (!wh)).toNat:Int))):=by
 cases wh
 .refine⟨2,Zi ⟨WW,R⟩,λb j k=>by unfold xX;simp[j];omega,λn a b=>⟨n-8,n+8,O,O,by show _=(n:Int)+8*-1;omega,by show _=(n:Int)-8*-1;omega,?_⟩⟩;have e:Zm ((n:Int)=-1)=Zl:=qE O;have f:Zm ((16:Int)<=n)=Zk:=qJ O;have g:Zm ((n:Int)<24)=Zk:=qJ O;exact Ik
 refine⟨5,Zj ⟨WW,R⟩,λb j k=>by unfold xX;simp[j];omega,λn a b=>⟨n+8,n-8,O,O,by show _=(n:Int)+8*1;omega,by show _=(n:Int)-8*1;omega,?_⟩⟩;have e:Zm ((n:Int)=-1)=Zl:=qE O;have f:Zm ((40:Int)<=n)=Zk:=qJ O;have g:Zm ((n:Int)<48)=Zk:=qJ O;exact Ik
def qaX(z:I2)(f:I5)(a:k<4):∃(b h d:Nat)(g:Bool),b<64/\d<64/\(∀W:I6,i_ c_ 196 #[k] W λe w'=>e=Ze #[b,h,d,xK g]/\w'=W)/\zX z f k=(!(f k)||(Zm (((z b).toNat:Int)=fC g 5)&&Zm (((z d).toNat:Int)=fC g 3))):=by
 have i:k=0\/k=1\/k=2\/k=3:=O;obtain rfl|rfl|rfl|rfl:=i
 .exact⟨4,6,7,Zk,O,O,λW=>zr 0 a W,R⟩
 .exact⟨4,2,0,Zk,O,O,λW=>zr 1 a W,R⟩
 .exact⟨60,62,63,Zl,O,O,λW=>zr 2 a W,R⟩
 exact⟨60,58,56,Zl,O,O,λW=>zr 3 a W,R⟩
def tz{f:I5}{g:Int}(r:jE z wh f b h g PA)(w:I6):ZL 114 #[PA] w (zT z wh f b h g):=by
 have t0:=X r.sq;have a3:Y (∀k,k<64->vf z k=Zk->zT z wh f b h g=Zl):=X λk hk hb=>t8 hk hb wh f b h g;have s7:Y (∀o1 o2:I0,Gr w (((w.alloc (Z PA 70)).alloc (Z o1 281)).alloc (Z o2 281))):=X λo1 o2=>ZN.al.al;unfold ZL;go_in;go_wp2;go_loopg [5] 64 (λg n wr=>∃k:Nat,k+g=64/\n=k/\(∀j,j<k->vf z j=Zl)/\∃p k1 m0 m1:Nat,au z k p k1 m0 m1/\wr=((w.alloc (Z PA 70)).alloc (Z #[p,k1] 281)).alloc (Z #[m0,m1] 281))
 case atStart=>exact⟨0,R,R,λj hj=>w_ hj (Yy j),0,0,0,0,⟨R,R,R,R⟩,R⟩
 case round=>
  obtain⟨k,n5,rfl,k3,p,k1,m0,m1,a0,rfl⟩:=hrel;have k0:=X k3;clear k3;have m6:=a0.le;have u:=X a0;clear a0;by_cases M:k<64
  .have c6:=AS w PA #[p,k1] #[m0,m1] 281 281 k _ (t0.a k M);by_cases hd:z k=46
   .have g2:Y (vf z k=Zl):=X (by unfold vf;rw[hd];rfl);have A:=X (u.a.none hd);rw[hd]at c6;go_wp2;go_roundg (gk-1)
    case measure=>omega
    case rel=>exact⟨k+1,O,Vg,(by
     intro j hj;by_cases a4:j=k
     .subst a4;exact g2.a
     .exact k0.a j O),p,k1,m0,m1,A.a,R⟩
   .have r7:(((z k).toNat:Int)==46)=Zl:=(by rw[qM];intro h;exact hd (q6.1 (by show(z k).toNat=46;omega)));have l:Y (vf z k=(Zm (vE (z k)<0)||(Zm (vE (z k)=0)&&(Zm (k/8=0)||decide (k/8=7))))):=X (by
     unfold vf;have:(z k==46)=Zl:=(by simpa using hd);rw[this];rfl)
    have a6:vB (z k)=0\/vB (z k)=xK Zk\/vB (z k)=xK Zl:=by
     unfold vB;split
     .exact Zi R
     .split
      .exact Zj (Zi R)
      .exact Zj (Zj R)
    have t2:vB (z k)=0->vE (z k)<0:=by
     unfold vB vE;intro h;split at h
     .rw[qF O];assumption
     .split at h<;>omega
    have l5:-1<=vE (z k)/\vE (z k)<=5:=(by have:=rn (z k);unfold vE;split<;>omega);have d5:=X (zp (z k));have d1:=X (za (z k));have a1:=X (λb hc=>u.a.some b hc);have G:=X (a3.a k M);clear hd;generalize vE (z k)=x at l t2 l5 d5 a1;generalize vB (z k)=y at a6 t2 d1 a1;obtain⟨bv,g3⟩:=Zn (vf z k);rw[g3.a]at l G;obtain⟨q,hq⟩:∃q:Int,(k:Int)/8=q:=⟨_,R⟩;have l:Y (bv=(Zm (x<0)||(Zm (x=0)&&(Zm (q=0)||decide (q=7))))):=X (by rw[l.a,XB.2 (show k/8=0↔q=0 from O),XB.2 (show k/8=7↔q=7 from O)]);cases bv
    .have f9:Y (∀j,j<k+1->vf z j=Zl):=X λj hj=>by
      by_cases a4:j=k
      .subst a4;exact g3.a
      .exact k0.a j O
     have hx:¬x<0/\¬(x=0/\(q=0\/q=7)):=(by have:=l.a.symm;simpa using this);obtain⟨n3,n4⟩:=hx;obtain⟨bb,T⟩:∃bb,y=xK bb:=by
      obtain T|T|T:=a6
      .exact w_ (t2 T) n3
      .exact⟨_,T⟩
      .exact⟨_,T⟩
     have A:=a1.a bb T;have f5:(x=0/\(q==0)=Zl/\(q==7)=Zl)\/((x==0)=Zl/\x=5)\/((x==0)=Zl/\(x==5)=Zl/\¬x=5):=(by simp only[qM];omega);clear a1 t2 a6 G l n4;cases bb;all_goals
      have f6:=T;unfold xK at f6;simp only[qR,YH,YS]at f6;subst f6;clear T;obtain⟨rfl,f8,k5⟩|⟨h9,rfl⟩|⟨h9,r3,s1⟩:=f5
      all_goals
       simp[*]at A;have d0:=X A;clear A;go_wp2_with(first|(go_at_call 107;refine Z1 (d5.a _) ?_)|(go_at_call 115;refine Z1 (d1.a _) ?_));go_roundg (gk-1)
       case measure=>omega
       case rel=>exact⟨k+1,O,Vg,f9.a,_,_,_,_,d0.a,WU⟩
    .have a:=X (G.a R);have f5:x<0\/(x=0/\q=0)\/(x=0/\¬q=0/\q=7):=(by have:=l.a.symm;simp at this;omega);clear a1 t2 a6 G l;obtain hx|⟨rfl,f8⟩|⟨rfl,f8,k5⟩:=f5;all_goals
      go_wp2_with(first|(go_at_call 107;refine Z1 (d5.a _) ?_)|(go_at_call 115;refine Z1 (d1.a _) ?_));go_ret;exact⟨Vy,s7.a _ _⟩
  .have ek:k=64:=O;subst ek;have d:=X (nJ u.a k0.a wh f b h g);have b0:=u;clear u k0 a3;by_cases h0:p=1
   .by_cases h1:k1=1
    .by_cases h2:m0<=16
     .by_cases h3:m1<=16
      .rw[qJ h0,qJ h1,qJ h2,qJ h3]at d;have a8:Y (∀bb:Bool,∃y:Nat,y<64/\xR z bb=(y:Int)):=X (si b0.a h0 h1);clear b0;subst h0 h1;go_upto_region 19 with fail;generalize hW:((w.alloc (Z PA 70)).alloc (Z #[I L 1,I L 1] 281)).alloc (Z #[m0,m1] 281)=w4;have h6:Y (zJ w PA w4):=X (by rw[<-hW];exact DW w PA _ _ _ _);have o:Y (Gr w w4):=X (by rw[<-hW];exact s7.a _ _);clear hW s7 m6;have g4:=X r.c;have t3:Y (∀k,k<4->zX z f k=Zl->zT z wh f b h g=Zl):=X λk hk hc=>(by rw[d.a,xt hk hc];simp);go_wp2;go_loopg [9] 4 (λgg n wr=>∃k:Nat,k+gg=4/\n=k/\(∀j,j<k->zX z f j=Zk)/\Gr w4 wr)
       case atStart=>exact⟨0,R,R,λj hj=>w_ hj (Yy j),ZO⟩
       case round=>
        obtain⟨k,n5,rfl,k3,d3⟩:=hrel;have k0:=X k3;have i:=X d3;clear k3;have s8:=h6.a.gr d3;clear d3;by_cases M:k<4
        .obtain⟨K0,M0,R0,bb,u1,u2,b4,b3⟩:=qaX z f M;have d4:=X b4;have F:=X b3;have f2:=X (i7 bb);have l4:=s8.at' (g4.a k M);have m2:=s8.at' (t0.a K0 u1);have n1:=s8.at' (t0.a R0 u2);have l3:=X (t3.a k M);have a9:Y (zX z f k=Zk->∀j,j<k+1->zX z f j=Zk):=X λq j hj=>by
          by_cases a4:j=k
          .subst a4;exact q
          .exact k0.a j O
         obtain⟨fv,g5⟩:=Zo (f k);obtain⟨kv,g8⟩:=Zo ((z K0).toNat:Int);obtain⟨rv,h7⟩:=Zo ((z R0).toNat:Int);obtain⟨KM,k9⟩:=Zo (fC bb 5);obtain⟨RM,l1⟩:=Zo (fC bb 3);rw[g5]at l4 F;rw[g8]at m2 F;rw[h7]at n1 F;rw[k9,l1]at F;have v1:(k:Int)<4:=O;have v2:(K0:Int)<64:=O;have v3:(R0:Int)<64:=O;clear s8 g5 g8 h7 b4 b3;by_cases hg:fv=Zk->kv=KM/\rv=RM
         .have n0:=X (a9.a (by rw[F.a];cases fv;rfl;simp[hg R]));cases fv;rotate_left;obtain⟨h1,h2⟩:=hg R;subst h1 h2;all_goals
           clear F a9;go_wp2_with(go_at_call 196;refine Z1 (d4.a _) ?_);go_quiet((go_at_call 195;exact YT (f2.a _ _ UQ)));go_wp2;go_roundg (gk-1)
           case measure=>omega
           case rel=>exact⟨k+1,O,Vg,n0.a,r_ i.a _⟩
         .obtain⟨rfl,a7⟩:fv=Zk/\¬(kv=KM/\rv=RM):=⟨by cases fv;simp at hg;rfl,λq=>hg λ_=>q⟩;have a:=X (l3.a (by rw[F.a];simpa using a7));by_cases h1:kv=KM
          .have r6:(rv !=RM)=Zk:=qU.2 λq=>a7 ⟨h1,q⟩;subst h1;exact OQ
          .have k4:(kv !=KM)=Zk:=qU.2 h1;exact OQ
        .have h5:Y (jH z f=Zk):=X (qvw (by
          intro j hj;exact k0.a j O))
         have ek:k=4:=O;subst ek;clear M k0 t3 g4;rw[h5.a]at d;have l2:=X r.b;have f7:=r.size;have a5:=X r;clear r;have f4:=X (λW=>Dv a5.a W);obtain⟨me,Q⟩:=Zn (xK wh);rw[Q.a]at f4;go_upto_region 26 with(first|(refine ql Vb _ R w R f7 s8 ?_)|(go_at_call 116;refine Z0 (f4.a _) λw5 d2=>?_));have H:=s8.gr d2;have B:=X d2;clear s8 d2 f4;have g1:=H.at' l2.a;go_upto_if 117 with fail;go_cut [15]from 118 to 165 (λ_ wx=>(∃nq,wx=w5.drewN nq)/\xX z wh b=Zk)
         case first=>
          obtain⟨RK,b6,c5,V⟩:=qbk z wh;have P:=X (DG (!wh));have f3:a_ L (-me)=xK (!wh):=Tn;have f0:me=1\/me=-1:=Tn;rw[Q.a]at b6 V;generalize xK (!wh)=mn at P f3;generalize ((yP 0 (!wh)).toNat:Int)=PW at P V;obtain⟨m8,f1⟩:=Zo (8*me);have v1:a_ L (8*me)=m8:=Vc;by_cases b7:b=-1
          .subst b7;have t1:Y (xX z wh (-1)=Zk):=X (by unfold xX;simp);clear f0 f1;go_wp2;go_meet
           case rel=>exact⟨⟨0,R⟩,t1.a⟩
          .have r0:(b !=-1)=Zk:=qU.2 b7;by_cases hl:8*RK<=b/\b<8*RK+8
           .obtain⟨g9,h4⟩:=hl;obtain⟨n,rfl⟩:∃n:Nat,b=n:=⟨b.toNat,O⟩;obtain⟨U,D,hU,hD,eU,eD,b2⟩:=V n g9 h4;have l:=X b2;have v2:a_ L ((n:Int)+m8)=(U:Int):=Vc;have v3:a_ L ((n:Int)-m8)=(D:Int):=Vc;have q1:(n:Int)<64:=O;have q4:¬(63:Int)<n:=O;have q5:¬(n:Int)<0:=O;have q2:(U:Int)<64:=O;have q3:(D:Int)<64:=O;have p0:=H.at' (t0.a n O);have p7:=H.at' (t0.a U hU);have p8:=H.at' (t0.a D hD);have hq:(n:Int)/8=RK:=O;generalize ((z n).toNat:Int)=x0 at p0 l;generalize ((z U).toNat:Int)=x1 at p7 l;generalize ((z D).toNat:Int)=x2 at p8 l;clear b2 eU eD V c5 f1 f0;have a:Y (¬(x0=46/\x1=46/\x2=PW)->zT z wh f n h g=Zl):=X λq=>by
             have e:(Zm (x0=46)&&Zm (x1=46)&&Zm (x2=PW))=Zl:=(by rw[Bool.eq_false_iff];intro e;simp only[qH,qG]at e;exact q ⟨e.1.1,e.1.2,e.2⟩);rw[d.a,l.a,e];simp
            obtain⟨hm,rfl⟩|⟨hm,rfl⟩:=b6;all_goals
             by_cases p:x0=46
             .subst p;by_cases k1:x1=46
              .subst k1;by_cases k2:x2=PW
               .have t1:Y (xX z wh (n:Int)=Zk):=X (by rw[l.a,k2];simp);have n7:(x2 !=PW)=Zl:=(by rw[k2];simp);clear k2;go_wp2;go_quiet((go_at_call 195;exact YT (P.a _)));go_wp2;go_meet
                case rel=>exact⟨⟨nq,R⟩,t1.a⟩
               .have a2:=X (a.a λq=>k2 q.2.2);have n7:(x2 !=PW)=Zk:=qU.2 k2;go_wp2;go_quiet((go_at_call 195;exact YT (P.a _)));go_wp2;go_ret;exact⟨by rw[a2.a];rfl,o_ o.a (o_ i.a (r_ B.a _))⟩
              .have a2:=X (a.a λq=>k1 q.2.1);have s5:(x1 !=46)=Zk:=qU.2 k1;go_wp2;go_quiet((go_at_call 195;exact YT (P.a _)));go_wp2;go_ret;exact⟨by rw[a2.a];rfl,o_ o.a (o_ i.a (r_ B.a _))⟩
             .have a2:=X (a.a λq=>p q.1);have s2:(x0 !=46)=Zk:=qU.2 p;go_wp2;go_quiet((go_at_call 195;exact YT (P.a _)));go_wp2;go_ret;exact⟨by rw[a2.a];rfl,o_ o.a (o_ i.a (r_ B.a _))⟩
           .have a:Y (zT z wh f b h g=Zl):=X (by rw[d.a,c5 b b7 hl];simp);obtain⟨q,hq⟩:∃q:Int,b/8=q:=⟨_,R⟩;have s0:(q !=RK)=Zk:=qU.2 λe=>hl O;clear c5 V f1 f0 hl;obtain⟨hm,rfl⟩|⟨hm,rfl⟩:=b6;all_goals
             by_cases g9:b<0
             .go_wp2;go_ret;exact⟨Vy,o_ o.a (o_ i.a B.a)⟩
             .by_cases h4:63<b
              .go_wp2;go_ret;exact⟨Vy,o_ o.a (o_ i.a B.a)⟩
              .go_wp2;go_ret;exact⟨Vy,o_ o.a (o_ i.a B.a)⟩
         case rest=>
          obtain⟨⟨nq,n2⟩,b1⟩:=hcut;subst n2;have t1:=X b1;have f3:Y (a_ L (-me)=xK (!wh)):=X Tn;clear b1 g1;go_upto_region 34 with fail;obtain⟨y,r4,T⟩:=a8.a (!wh);have b5:=X (FN a5.a);have l0:Y (∀W:I6,ZL 193 #[(PA.toList.take 64).toArray,xK (!wh)] W y):=X λW=>(by rw[<-T];exact qzo z _ b5.a.2 (!wh) W);obtain⟨av,g0⟩:=Zn (zM z (y:Int) wh);have k8:Y (∀W:I6,ZL 192 #[(PA.toList.take 64).toArray,y,me] W av):=X λW=>(by rw[<-g0.a,<-Q.a];exact ju z _ b5.a.1 b5.a.2 (y:Int) O O wh W);have E:Y (zT z wh f b h g=(!av&&zP h g)):=X (by
           rw[d.a,t1.a];show(Zk&&Zk&&Zk&&Zk&&Zk&&Zk&&!(zM z (xR z (!wh)) wh)&&zP h g)=_;rw[T,g0.a];rfl)
          have h8:HH (w5.drewN nq) w PA (w5.drewN nq).drew:=⟨(zJ.gr H (r_ ZO _)).gr ZO.drew,ZO.drew⟩;refine ZT (S:=HH (w5.drewN nq) w PA) WR h8 (λJ=>?_);refine ty 0 (ZI w) R (Zi ⟨Vb,λw _=>?_⟩) J ?_
          .go_simp
          refine ty 1 ((PA.toList.take 64).toArray) R (DB f7 Vb _ R w R (λ_ h=>h.1)) J ?_;refine ty 2 (ZI w) R (Zi ⟨Vb,λw _=>?_⟩) J ?_
          .go_simp
          refine ty 3 ((PA.toList.take 64).toArray) R (DB f7 Vb _ R w R (λ_ h=>h.1)) J ?_;refine ty 4 me R (Zi ⟨Vb,λw _=>?_⟩) J ?_
          .go_simp
          refine ty 5 (xK (!wh)) R (Zi ⟨Vb,λw _=>?_⟩) J ?_
          .go_simp;exact f3.a
          refine ty 7 me R (Zi ⟨Vb,λw _=>?_⟩) J ?_
          .go_simp
          refine rd 6 λK hK=>?_;go_simp;refine Z0 (l0.a _) λw6 g6=>?_;refine hK.out _ _ (J.gr g6) λJ=>?_;clear hK K h8 g6;refine rd 8 λK hK=>?_;go_simp;refine Z0 (k8.a _) λw7 g7=>?_;refine hK.out _ _ (J.gr g7) λJ=>?_;clear hK K g7;refine rd 9 λK hK=>?_;go_simp;refine hK.out _ _ J λJ=>?_;clear hK K;refine ZZ WR ?_ _;have r1:=J.1.at' a5.a.h;have r2:=J.1.at' a5.a.g;have s9:Y (Gr w w7):=X (o_ (o_ o.a (o_ i.a (r_ B.a _))) J.2);clear J;cases av
          .by_cases c1:0<=h
           .by_cases c2:h<=65535
            .by_cases c3:1<=g
             .by_cases c4:g<=65535
              .have a:Y (zT z wh f b h g=Zk):=X (by rw[E.a];unfold zP;simp[c1,c2,c3,c4]);exact O2
              .have a:Y (zT z wh f b h g=Zl):=X (by rw[E.a];unfold zP;simp[c4]);exact O2
             .have a:Y (zT z wh f b h g=Zl):=X (by rw[E.a];unfold zP;simp[c3]);exact O2
            .have a:Y (zT z wh f b h g=Zl):=X (by rw[E.a];unfold zP;simp[c2]);exact O2
           .have a:Y (zT z wh f b h g=Zl):=X (by rw[E.a];unfold zP;simp[c1]);exact O2
          .have a:Y (zT z wh f b h g=Zl):=X (by rw[E.a];rfl);exact O2
      .have a:Y (zT z wh f b h g=Zl):=X (by rw[d.a,qE h3];simp);exact In
     .have a:Y (zT z wh f b h g=Zl):=X (by rw[d.a,qE h2];simp);exact In
    .have k4:((k1:Int)==1)=Zl:=Vp;have a:Y (zT z wh f b h g=Zl):=X (by rw[d.a,qE h1];simp);exact In
   .have r5:((p:Int)==1)=Zl:=Vp;have a:Y (zT z wh f b h g=Zl):=X (by rw[d.a,qE h0];simp);exact In
end
def ixd(c:UInt8):Int:=e_ [48,49,50,51,52,53,54,55,56,57] c
def ixf(c:UInt8):Int:=e_ [97,98,99,100,101,102,103,104] c
def ixr(c:UInt8):Int:=e_ [49,50,51,52,53,54,55,56] c
def EY:∀c:UInt8,ixd c=if dg c then(c.toNat:Int)-48 else -1:=vg WS
def EX:∀c:UInt8,ixf c=if 97<=c.toNat/\c.toNat<=104 then(c.toNat:Int)-97 else -1:=vg WS
def EV:∀c:UInt8,ixr c=if 49<=c.toNat/\c.toNat<=56 then(c.toNat:Int)-49 else -1:=vg WS
def kV(l:I1):Int:=match vR l with|some n=>(n:Int)|none=>-1
def dJ(s:I4):Int:=match uX s with|some n=>(n:Int)|none=>-1
def zb(s:I4)(w:I6):i_ c_ 104 #[s] w λe w'=>e=Zd (dJ s)/\w'=w:=by
 by_cases m:s.size=2
 .have a:Y (dJ s=if 97<=s[0].toNat/\s[0].toNat<=104/\49<=s[1].toNat/\s[1].toNat<=56 then((s[0].toNat-97+8*(s[1].toNat-49):Nat):Int)else -1):=X (by
   unfold dJ uX;rw[Wf m];by_cases h:97<=s[0].toNat/\s[0].toNat<=104/\49<=s[1].toNat/\s[1].toNat<=56
   .rw[qI h,qI h]
   .rw[qF h,qF h])
  have b:=EX s[0];have d:=EV s[1];obtain⟨x,j⟩:=Zn (e_ (ByteArray.mk #[97,98,99,100,101,102,103,104]).data.toList s[0]);obtain⟨y,k⟩:=Zn (e_ (ByteArray.mk #[49,50,51,52,53,54,55,56]).data.toList s[1]);rw[show ixf s[0]=x from j.a]at b;rw[show ixr s[1]=y from k.a]at d;have f:=s[0].toNat_lt;have g:=s[1].toNat_lt;generalize dJ s=V at a|-;by_cases c1:97<=s[0].toNat/\s[0].toNat<=104;rw[qI c1]at b;by_cases c2:49<=s[1].toNat/\s[1].toNat<=56;rw[qI c2]at d;have i:Y (V=8*y+x):=X (by rw[a.a,qI ⟨c1.1,c1.2,c2.1,c2.2⟩,b,d];omega);have l:0<=x/\x<=7:=O;have n:0<=y/\y<=7:=O;clear b d c1 c2 a f g;rotate_left;rw[qF c2]at d;have i:Y (V=-1):=X (by rw[a.a,qF (λh=>c2 ⟨h.2.2.1,h.2.2.2⟩)]);have l:0<=x/\x<=7:=O;subst d;clear b c1 c2 a f g;rotate_left;rw[qF c1]at b;have i:Y (V=-1):=X (by rw[a.a,qF (λh=>c1 ⟨h.1,h.2.1⟩)]);subst b;clear d c1 a f g;all_goals
   go_in;go_wp2_with(go_at_call 111;apply Z1 (xa _ WW _ _);(first|rw[j.a]|rw[k.a]));go_ret;exact⟨xo i.symm,R⟩
 .have a:dJ s=-1:=by unfold dJ uX;rw[dif_neg m]
  rw[a];go_in;exact Wz
def JW(D M:Nat)(l:I1):Int:=match (kZ D l).filter (λn=>Zm (n<=M))with|some n=>(n:Int)|none=>-1
def JV(D M:Nat)(s:I4)(j:s.size<=maxLen)(h:s.size<1\/D<s.size\/(1<s.size/\s.data.toList.head?=S 48))(w:I6):i_ c_ 199 #[s,D,M] w λe w'=>e=Zd (JW D M s.data.toList)/\w'=w:=by
 have a:JW D M s.data.toList=-1:=by
  have:kZ D s.data.toList=N:=by
   rw[kZ,qF];rintro⟨g,i,f,_⟩;simp only[ZX,YY]at g i f;obtain h|h|h:=h
   .omega
   .omega
   exact f h.1 h.2
  rw[JW,this];rfl
 rw[a];unfold maxLen at j;by_cases c1:s.size=0
 .exact IW
 by_cases c2:D<s.size
 .have b:(D:Int)<(s.size:Int):=O;exact IW
 have b:¬(D:Int)<(s.size:Int):=O;have c3:1<s.size:=O;have d:s[0]=48:=by exact OV
 have k:s[0].toNat=48:=by rw[d];rfl
 exact IW
def JU(D M:Nat)(T:D<=9)(s:I4)(C:1<=s.size)(R:s.size<=D)(q:s.size<=1\/s.data.toList.head?≠S 48)(w:I6):i_ c_ 199 #[s,D,M] w λe w'=>e=Zd (JW D M s.data.toList)/\w'=w:=by
 have m:Y (∀k (h:k<s.size),dg s[k]=Zl->JW D M s.data.toList=-1):=by
  intro k h p;have:kZ D s.data.toList=N:=by unfold kZ;rw[qF];rintro⟨_,_,_,g⟩;rw[iy s k h p]at g;exact w_ g WW
  unfold JW;rw[this];rfl
 have l:Y (s.data.toList.all dg=Zk->JW D M s.data.toList=if dv s.data.toList<=M then(dv s.data.toList:Int)else -1):=by
  intro f;have r:1<=s.data.toList.length/\s.data.toList.length<=D/\(1<s.data.toList.length->s.data.toList.head?≠S 48):=by simp only[ZX,YY];exact⟨C,R,λh=>q.resolve_left O⟩
  unfold JW kZ;rw[qI ⟨r.1,r.2.1,r.2.2,f⟩];by_cases p:dv s.data.toList<=M
  .rw[qI p];simp[Option.filter,p]
  .rw[qF p];simp[Option.filter,p]
 have r:s.size<=1\/((s[0].toNat:Int)==48)=Zl:=by exact OW
 clear q;generalize JW _ _ _=V at m l|-;by_cases a4:s.size<=1;all_goals
  have A:1<s.size->((s[0].toNat:Int)==48)=Zl:=λh=>r.resolve_left O;clear r;try have a7:=A O
  clear A;have P:¬(D:Int)<(s.size:Int):=O
  have a5:((s.size:Int)==0)=Zl:=Vp
  have a6:¬s.size=0:=O
  have a2:¬s=ByteArray.empty:=λe=>by rw[e]at C;exact w_ C WW
  go_in;go_wp2;go_loopg [7,8] s.size (λg n i wr=>∃k:Nat,k+g=s.size/\i=k/\n=(dv (s.data.toList.take k))/\(s.data.toList.take k).all dg=Zk/\wr=w)
  case atStart=>exact⟨0,O,rfl,rfl,rfl,rfl⟩
  case round=>
   obtain⟨k,k1,rfl,rfl,f,rfl⟩:=hrel;have B:=tP k (s.data.toList.take k) WX f;have b:=X f;clear f;by_cases y:k<s.size
   .have E:10^k<=10^8:=X8 O O;have F:dv (s.data.toList.take k)<=99999999:=O
    clear B E;have z:=X (xi s k y);generalize p:dv (s.data.toList.take k)=d at F;have G:=X p;clear p;have u:=EY s[k];obtain⟨x,a0⟩:=Zn (e_ (ByteArray.mk #[48,49,50,51,52,53,54,55,56,57]).data.toList s[k]);rw[show ixd s[k]=x from a0.a]at u;cases j:dg s[k]with
    | false=>
     rw[j,qF WW]at u;have a:=X (m k y j);subst u;clear j;go_wp2_with(go_at_call 111;refine(xa _ WW _ _).mono ?_;rintro e w' ⟨rfl,rfl⟩;rw[a0.a]);go_ret;exact⟨xo a.symm,rfl⟩
    | true=>
     rw[j,qI rfl]at u;have J:48<=s[k].toNat/\s[k].toNat<=57:=(by unfold dg at j;simpa using j);have a3:0<=x/\x<=9:=O
     have H:Y (((10*d+(s[k].toNat-48):Nat):Int)=10*(d:Int)+x):=X O;have v:=X j;clear j u J;go_wp2_with(go_at_call 111;apply Z1 (xa _ WW _ _);rw[a0.a]);go_roundg (gk-1)
     case measure=>omega
     case rel=>
      refine⟨k+1,O,Vg,?_,?_,rfl⟩
      .rw[z.a,yz,G.a,H.a]
      .rw[z.a,Xf,b.a];simp[v.a]
   .have Q:k=s.size:=O
    subst Q;have o:s.data.toList.take s.size=s.data.toList:=Yk WU;rw[o]at b B|-;clear o;have a:=X (l b);clear l b m;generalize dv _=d at a B|-;have W:d<1000000000:=Tv
    clear B;by_cases K:d<=M
    .rw[qI K]at a;have a1:¬(M:Int)<d:=O
     go_wp2;go_ret;exact⟨xo a.symm,rfl⟩
    .rw[qF K]at a;have a1:(M:Int)<d:=O
     go_wp2;go_ret;exact⟨xo a.symm,rfl⟩
def ry(D M:Nat)(a:D<=9)(s:I4)(b:s.size<=maxLen)(w:I6):i_ c_ 199 #[s,D,M] w λe w'=>e=Zd (JW D M s.data.toList)/\w'=w:=by
 by_cases h:s.size<1\/D<s.size\/(1<s.size/\s.data.toList.head?=S 48)
 .exact JV D M s b h w
 exact JU D M a s O O (by
  by_cases g:s.size<=1
  .exact Zi g
  exact Zj λe=>h (Zj (Zj ⟨O,e⟩))) w
def qzj(s:I4)(a:s.size<=maxLen)(w:I6):i_ c_ 199 #[s,I L 5,I L 65535] w λe w'=>e=Zd (kV s.data.toList)/\w'=w:=by have:=ry 5 65535 WW s a w;rwa[show JW 5 65535 s.data.toList=kV s.data.toList by rw[JW,kV,lN]]at this
def qxo(n:Nat)(h:n<64)(w:I6):ZL 110 #[I L n] w (Zb ⟨(xQ n).toArray⟩):=by
 obtain⟨q,b⟩:∃q:Nat,n/8=q:=⟨_,R⟩;obtain⟨r,f⟩:∃q:Nat,n%8=q:=⟨_,R⟩;have m:(n:Int).tdiv 8=(q:Int):=Uh;have o:(n:Int).tmod 8=(r:Int):=Vu;have i:q<8:=O;have j:r<8:=O;have k:a_ L ((q:Int)+1)=(q:Int)+1:=Vc;have l:a_ L ((r:Int)+1)=(r:Int)+1:=Vc;have p:∀W:I6,(Instr.sliceAt 9 (Zb ⟨#[97,98,99,100,101,102,103,104]⟩) (S r) (S (I L ((r:Int)+1))) N).run c_ W=.ok (Zb ⟨#[j_ (97+r)]⟩) W:=λW=>by have:r=0\/r=1\/r=2\/r=3\/r=4\/r=5\/r=6\/r=7:=O;rcases this with rfl|rfl|rfl|rfl|rfl|rfl|rfl|rfl<;>rfl
 have u:∀W:I6,(Instr.sliceAt 9 (Zb ⟨#[49,50,51,52,53,54,55,56]⟩) (S q) (S (I L ((q:Int)+1))) N).run c_ W=.ok (Zb ⟨#[j_ (49+q)]⟩) W:=λW=>by have:q=0\/q=1\/q=2\/q=3\/q=4\/q=5\/q=6\/q=7:=O;rcases this with rfl|rfl|rfl|rfl|rfl|rfl|rfl|rfl<;>rfl
 unfold ZL;go_in;go_wp2;go_quiet(fail);go_wp2;go_ret;refine⟨?_,(q_ w).drewN _⟩;have g:xQ n=[j_ (97+r),j_ (49+q)]:=by rw[xQ,b,f]
 rw[g];have d:r=0\/r=1\/r=2\/r=3\/r=4\/r=5\/r=6\/r=7:=O;have a:q=0\/q=1\/q=2\/q=3\/q=4\/q=5\/q=6\/q=7:=O;have e:((⟨#[97+j_ r]⟩:I4)++⟨#[49+j_ q]⟩)=⟨[j_ (97+r),j_ (49+q)].toArray⟩:=by rcases d with rfl|rfl|rfl|rfl|rfl|rfl|rfl|rfl<;>rcases a with rfl|rfl|rfl|rfl|rfl|rfl|rfl|rfl<;>decide
 show Zd (Zb ((⟨#[97+j_ r]⟩:I4)++⟨#[49+j_ q]⟩))=_;rw[e]
def CW{f:I5}{g:Int}(r:jE z wh f b h g PA)(w:I6):ZL 114 #[PA] w (k6 z wh f b h g):=by rw[<-aY];exact tz r w
section
open Go.Sort
def ixs(c:UInt8):Int:=e_ [32,49,50,51,52,53,54,55,56] c
def Be:∀c:UInt8,uT c=Zk->ixs c=(c.toNat:Int)-48/\e_ xU c=-1/\49<=c.toNat/\c.toNat<=56:=vg WS
def Ba:∀c:UInt8,uT c=Zl->-1<=ixs c/\ixs c<=0:=vg WS
def Bc:∀c:UInt8,uT c=Zl->0<=e_ xU c->ixs c=-1:=vg WS
def EW:∀c:UInt8,-1<=e_ xU c/\e_ xU c<12:=vg WS
def mK(s:I4)(hs:s.size<=maxLen)(w:I6):i_ c_ 198 #[s] w λe w'=>yf s.data.toList e/\Gr w w':=by
 unfold maxLen at hs;go_in;go_wp2;go_loopg [5,6,7] s.size (λg b5 af i wr=>∃k:Nat,k+g=s.size/\i=k/\∃(b:List Int)(a:Bool),vY (s.data.toList.take k)=S (b,a)/\b5=b.length/\af=a/\∃(v:I0),wr=((w.alloc (Z #[I Zg 0,I Zg 0,I Zg 0,I Zg 0,I Zg 0,I Zg 0,I Zg 0,I Zg 0] 277)).alloc (Z v 277))/\yu b v/\b.length<=8)
 case atStart=>exact⟨0,O,R,[],Zl,R,R,R,_,R,yu.nil,WU⟩
 case round=>
  obtain⟨k,k1,rfl,b,a,a2,rfl,rfl,v,rfl,a0,a7⟩:=hrel;have J:=X a2;have hR:=X a0;clear a2 a0;by_cases r:k<s.size
  .obtain⟨xd,m⟩:=Zn (e_ (ByteArray.mk #[32,49,50,51,52,53,54,55,56]).data.toList s[k]);obtain⟨W,n⟩:=Zn (e_ (ByteArray.mk #[80,78,66,82,81,75,112,110,98,114,113,107]).data.toList s[k]);have a4:-1<=W/\W<12:=(by rw[<-n.a];exact EW s[k]);have b6:Y (bz s[k]=!decide (W<0)):=(by rw[<-n.a];rfl);cases l:uT s[k]with
   | true=>
    have p:=X l;obtain⟨b3,b4,d3,d4⟩:=Be s[k] l;have e1:=m.symm.trans b3;have e2:=n.symm.trans b4;obtain⟨q,a1⟩:∃q:Nat,s[k].toNat-48=q:=⟨_,R⟩;have e3:xd=(q:Int):=O
    have a8:1<=q/\q<=8:=O
    subst e3 e2;clear l b3 b4 d3 d4 e1 a4 b6;cases a
    .by_cases F:8<b.length+q
     .have f:Y (jL s.data.toList=N):=zn s k r (by rw[J.a];unfold zZ;simp only[p.a,YS,Xo,a1,qJ F]);obtain⟨u,y,z,A,B,C,D,E,rfl⟩:=uU hR;clear hR;go_wp2_with(go_at_call 111;apply Z1 (xa _ WW _ _);(first|rw[m.a]|rw[n.a]));refine ZS (v:=Ze #[Zc #[I Zg u,I Zg y,I Zg z,I Zg A,I Zg B,I Zg C,I Zg D,I Zg E],Zl]) Vt R ⟨Zj ⟨f,_,_,_,_,_,_,_,_,R⟩,?_⟩
      repeat(first|exact ZO|apply Gr.drew|apply r_|apply Gr.alloc)
     .have a3:((b.length:Int)==8)=Zl:=Vp
      have Q:=X F;go_wp2_with(go_at_call 111;apply Z1 (xa _ WW _ _);(first|rw[m.a]|rw[n.a]));go_loopg [5,8] q (λg b5 dd wr=>∃j:Nat,j+g=q/\dd=I L ((q:Int)-j)/\∃d:List Int,d=b++List.replicate j 46/\b5=d.length/\∃(v:I0),wr=((w.alloc (Z #[I Zg 0,I Zg 0,I Zg 0,I Zg 0,I Zg 0,I Zg 0,I Zg 0,I Zg 0] 277)).alloc (Z v 277))/\yu d v)
      case atStart=>exact⟨0,O,WU,b,WU,R,v,R,hR⟩
      case round=>
       obtain⟨j,j1,rfl,d,o,rfl,R',rfl,c6⟩:=hrel;have G:=X o;have c5:=X c6;have P:d.length=b.length+j:=(by rw[o];simp);clear o c6;by_cases hj:j<q
       .have M:d.length<8:=O
        have a6:=c5.1;have V:d.length<R'.size:=O
        clear P;have T:((w.alloc (Z #[I Zg 0,I Zg 0,I Zg 0,I Zg 0,I Zg 0,I Zg 0,I Zg 0,I Zg 0] 277)).alloc (Z R' 277)).cell? ⟨w+1,d.length,N⟩=R'[d.length]'V:=UB
        have b2:a_ L ((q:Int)-j-1)=(q:Int)-((j+1:Nat):Int):=Vc
        have b0:(0:Int)<(q:Int)-j:=O
        go_wp2;go_roundg (gk-1)
        case measure=>omega
        case rel=>refine⟨j+1,O,R,d++[46],?_,WU,_,R,c5.snoc M _⟩;rw[G.a,qS,<-List.replicate_succ']
       .have ej:j=q:=O
        subst ej;go_wp2;go_roundg (s.size-k-1)
        case measure=>omega
        case rel=>have ea:=G;refine⟨k+1,O,Vg,d,Zk,?_,R,R,R',R,c5,by rw[ea];simp;omega⟩;rw[xi s k r,vj,J.a,ea];unfold zZ;simp only[p.a,YS,Xo,a1,qE Q.a,qR,YH]
    .have f:Y (jL s.data.toList=N):=zn s k r (by rw[J.a];unfold zZ;simp only[p.a,YS,Bool.true_or]);obtain⟨u,y,z,A,B,C,D,E,rfl⟩:=uU hR;go_wp2_with(go_at_call 111;apply Z1 (xa _ WW _ _);(first|rw[m.a]|rw[n.a]));refine ZS (v:=Ze #[Zc #[I Zg u,I Zg y,I Zg z,I Zg A,I Zg B,I Zg C,I Zg D,I Zg E],Zl]) Vt R ⟨Zj ⟨f,_,_,_,_,_,_,_,_,R⟩,?_⟩
     repeat(first|exact ZO|apply Gr.drew|apply r_|apply Gr.alloc)
   | false=>
    have p:=X l;obtain⟨b3,b4⟩:=Ba s[k] l;have e1:-1<=xd:=(by rw[<-m.a];exact b3);have e2:xd<=0:=(by rw[<-m.a];exact b4);have e3:0<=W->xd=-1:=λh=>(by rw[<-m.a];exact Bc s[k] l (by rw[<-n.a]at h;exact h));by_cases c4:W<0
    .have f:Y (jL s.data.toList=N):=zn s k r (by rw[J.a];unfold zZ;simp only[p.a,b6.a,qJ c4];rfl);obtain⟨u,y,z,A,B,C,D,E,rfl⟩:=uU hR;go_wp2_with(go_at_call 111;apply Z1 (xa _ WW _ _);(first|rw[m.a]|rw[n.a]));refine ZS (v:=Ze #[Zc #[I Zg u,I Zg y,I Zg z,I Zg A,I Zg B,I Zg C,I Zg D,I Zg E],Zl]) Vt R ⟨Zj ⟨f,_,_,_,_,_,_,_,_,R⟩,?_⟩
     repeat(first|exact ZO|apply Gr.drew|apply r_|apply Gr.alloc)
    .have e4:=e3 O;subst e4;by_cases F:8<b.length+1
     .have f:Y (jL s.data.toList=N):=zn s k r (by rw[J.a];unfold zZ;simp only[p.a,b6.a,qE c4,X3,qR,YH,YS,F]);have M:b.length=8:=O
      have a9:(b.length:Int)=8:=O
      obtain⟨u,y,z,A,B,C,D,E,rfl⟩:=uU hR;go_wp2_with(go_at_call 111;apply Z1 (xa _ WW _ _);(first|rw[m.a]|rw[n.a]));refine ZS (v:=Ze #[Zc #[I Zg u,I Zg y,I Zg z,I Zg A,I Zg B,I Zg C,I Zg D,I Zg E],Zl]) Vt R ⟨Zj ⟨f,_,_,_,_,_,_,_,_,R⟩,?_⟩
      repeat(first|exact ZO|apply Gr.drew|apply r_|apply Gr.alloc)
     .have M:b.length<8:=O
      have a3:((b.length:Int)==8)=Zl:=Vp
      have a5:Y (bz s[k]=Zk):=(by rw[b6.a,qE c4];rfl);have a6:=hR.1;have V:b.length<v.size:=O
      have T:((w.alloc (Z #[I Zg 0,I Zg 0,I Zg 0,I Zg 0,I Zg 0,I Zg 0,I Zg 0,I Zg 0] 277)).alloc (Z v 277)).cell? ⟨w+1,b.length,N⟩=v[b.length]'V:=UB
      go_wp2_with(go_at_call 111;apply Z1 (xa _ WW _ _);(first|rw[m.a]|rw[n.a]));go_loopg [5,8] 0 (λg b5 dd wr=>g=0/\dd=I L (-1)/\b5=I L ((b.length:Int)+1)/\wr=((w.alloc (Z #[I Zg 0,I Zg 0,I Zg 0,I Zg 0,I Zg 0,I Zg 0,I Zg 0,I Zg 0] 277)).alloc (Z (v.setIfInBounds b.length (I Zg (s[k].toNat:Int))) 277)))
      case atStart=>exact⟨R,R,R,R⟩
      case round=>
       obtain⟨rfl,rfl,rfl,rfl⟩:=hrel;go_wp2;go_roundg (s.size-k-1)
       case measure=>omega
       case rel=>refine⟨k+1,O,Vg,b++[(s[k].toNat:Int)],Zl,?_,WU,R,_,R,hR.snoc M _,WX⟩;rw[xi s k r,vj,J.a];unfold zZ;simp only[p.a,a5.a,qR,YH,YS,qF F]
  .have ek:k=s.size:=O;subst ek;have K:s.data.toList.take s.size=s.data.toList:=Yk WU;rw[K]at J;clear K;by_cases F:b.length=8
   .have H:=hR.done F;obtain⟨u,y,z,A,B,C,D,E,rfl⟩:=uU hR;have b7:Y (yf s.data.toList (Zd (Ze #[Zc #[I Zg u,I Zg y,I Zg z,I Zg A,I Zg B,I Zg C,I Zg D,I Zg E],Zk]))) :=
     X (Zi ⟨b,by unfold jL;rw[J.a];simp[F],by rw[<-H]⟩)
    clear hR H J;go_wp2;refine ZS (v:=Ze #[Zc #[I Zg u,I Zg y,I Zg z,I Zg A,I Zg B,I Zg C,I Zg D,I Zg E],Zk]) Vt R ⟨b7,?_⟩;exact OC
   .obtain⟨u,y,z,A,B,C,D,E,rfl⟩:=uU hR;have b7:Y (yf s.data.toList (Zd (Ze #[Zc #[I Zg u,I Zg y,I Zg z,I Zg A,I Zg B,I Zg C,I Zg D,I Zg E],Zl]))) :=
     X (Zj ⟨by unfold jL;rw[J.a];simp[F],_,_,_,_,_,_,_,_,R⟩)
    have b1:((b.length:Int)==8)=Zl:=WX;go_wp2;refine ZS (v:=Ze #[Zc #[I Zg u,I Zg y,I Zg z,I Zg A,I Zg B,I Zg C,I Zg D,I Zg E],Zl]) Vt R ⟨b7,?_⟩;exact OC
def DH:(c_.info? 9).map (λi=>(i.zero,i.size,i.bytes))=S (S (Zb ⟨#[]⟩),1,16):=WR
def yt(base:Nat)(v:I7)(xs:I3)(w:I6):Prop:=w.ownsRow base 9 1 v xs.length (xs.map Zb)
def qjd{l:I3}(h:yt base v l w):∀k,v.ownBlock=S k->base<=k:=by exact O8
def jc(c:UInt8)(out:I3):I1:=(out.map λx=>x.data.toList++[c]).flatten
def BZ(c:UInt8)(out:I3)(x:I4):jc c (out++[x])=jc c out++(x.data.toList++[c]):=by unfold jc;simp
theorem gS(c:UInt8):∀(out:I3)(x:I4),f_ ((out++[x]).map (·.data.toList)) [c]=jc c out++x.data.toList
 | [],x=>by simp[jc,Lib.join_one]
 | [y],x=>by simp[jc,ve,Lib.join_one]
 | y::z::r,x=>by
  have a:=gS c (z::r) x;simp only[YA,YM]at a|-;rw[ve,a];simp[jc]
def qkq(s:I4)(f i:Nat):(s.extract f i).data.toList=(s.data.toList.take i).drop f:=by rw[ByteArray.data_extract,Array.toList_extract,List.extract_eq_take_drop,List.drop_take]
def bI{l:I1}(h:f<=i):l.take f++(l.take i).drop f=l.take i:=by
 conv=>rhs;rw[<-XQ f (l.take i)]
 rw[List.take_take,Nat.min_eq_left h]
def Cut(s:I4)(c:UInt8)(i f:Nat)(out:I3):Prop:=(∀x∈out,c∉x.data.toList)/\out.length<=i/\((i<=s.size/\f<=i/\jc c out=s.data.toList.take f/\∀j,f<=j->j<i->s.data.toList[j]?≠S c)\/(i=s.size+1/\out≠[]/\f_ (out.map (·.data.toList)) [c]=s.data.toList))
def aL{s:I4}{c:UInt8}(h:∀j,f<=j->j<i->s.data.toList[j]?≠S c):c∉(s.extract f i).data.toList:=by
 rw[qkq s f i];intro b;obtain⟨j,a⟩:=List.mem_iff_getElem?.1 b;rw[Wr,Yv]at a;split at a
 .exact h (f+j) O ‹_› a
 cases a
def Cut.skip{s:I4}{c:UInt8}{out:I3}(h:Cut s c i f out)(n:i<s.size)(l:s[i]≠c):Cut s c (i+1) f out:=by
 obtain⟨k,q,⟨b,p,d,g⟩|⟨b,_⟩⟩:=h
 .refine⟨k,O,Zi ⟨O,O,d,λj a o=>?_⟩⟩;by_cases e:j=i
  .subst e;rw[cL s j n];intro m;exact l (qP m)
  exact g j a O
 omega
def Cut.cut{s:I4}{c:UInt8}{out:I3}(h:Cut s c i f out)(m:i<s.size)(l:s[i]=c):Cut s c (i+1) (i+1) (out++[s.extract f i]):=by
 obtain⟨k,p,⟨b,d,e,g⟩|⟨b,_⟩⟩:=h
 .refine⟨λx a=>?_,WX,Zi ⟨O,Zy,?_,λj n o=>O⟩⟩
  .obtain a|a:=Yi.1 a
   .exact k x a
   rw[qT.1 a];exact aL g
  rw[BZ,e,qkq s f i,<-qS,bI d,xi s i m,l]
 omega
def Cut.last{s:I4}{c:UInt8}{out:I3}(h:Cut s c s.size f out):Cut s c (s.size+1) (s.size+1) (out++[s.extract f s.size]):=by
 obtain⟨i,j,⟨b,d,e,g⟩|⟨b,_⟩⟩:=h
 .refine⟨λx a=>?_,WX,Zj ⟨R,WU,?_⟩⟩
  .obtain a|a:=Yi.1 a
   .exact i x a
   rw[qT.1 a];exact aL g
  rw[gS,e,qkq s f s.size,bI d];exact Yk WU
 omega
def Cut.from_le{s:I4}{c:UInt8}{out:I3}(h:Cut s c i f out)(d:i<=s.size):f<=i:=by
 obtain⟨_,_,⟨_,a,_⟩|⟨b,_⟩⟩:=h
 .exact a
 omega
def qvl(s:I4)(hs:s.size<4294967281)(c:UInt8)(w:I6):i_ c_ 71 #[s,I Zg c.toNat] w λe w'=>∃v C,e=Zd v/\yt w v C w'/\(∀x∈C,c∉x.data.toList)/\C≠[]/\f_ (C.map (·.data.toList)) [c]=s.data.toList/\Gr w w':=by
 obtain⟨a0,a2,z,A,B⟩:=We DH;have p:=a2;go_in;go_wp2;go_loopg [5,6,7] (s.size+1) (λg v Q W wr=>∃k f:Nat,k+g=s.size+1/\W=k/\Q=f/\∃out:I3,Cut s c k f out/\yt w v out wr/\Gr w wr)
 .exact⟨0,0,O,R,R,[],⟨λx V=>(by cases V),Zy,Zi ⟨Nat.zero_le _,Zy,by simp[jc],λj a8 a3=>w_ a3 (Yy j)⟩⟩,⟨R,Zi ⟨R,R⟩⟩,ZO⟩
 obtain⟨k,f,k1,rfl,rfl,out,hcut,y,n⟩:=hrel;have M:=hcut.2.1;have T:w<=wr.heap.size:=ZR n;have d:=hcut;have b:=y;have m:=n;by_cases q:k<=s.size
 .have a6:=hcut.from_le q;by_cases r:k<s.size
  .by_cases o:s[k]=c
   .have a:=d.cut r o;subst o;have H:((k:Int)==(s.size:Int))=Zl:=Vp;go_wp2_with(at_builtin;apply Xv _ R (.tmp 25) (.tmp 30) 43 rfl w 9 a0 (Zb ⟨#[]⟩) 1 16 underlying43 p z A B R WW u5 out.length (out.map Zb) R (b.alloc _) ⟨wr,0,N⟩ 1 1 [Zb (s.extract f k)] R R (Wp _ _ _) Vi Vk O WX;intro v' a4 l i u);go_roundg (gk-1)
    .refine⟨k+1,k+1,O,Vg,Vg,out++[s.extract f k],a,?_,?_⟩
     .rw[yt,Ys,qZ];exact l
     exact(m.alloc _ _).grown i WX (qjd b)
    omega
   have a:=d.skip r o;have H:((k:Int)==(s.size:Int))=Zl:=Vp;have a7:((s[k].toNat:Int)==(c.toNat:Int))=Zl:=(by rw[qM];intro h;exact o (q6.1 O));go_wp2;go_roundg (gk-1)
   .exact⟨k+1,f,O,Vg,R,out,a,b,m⟩
   omega
  have P:k=s.size:=O;subst P;have a:=d.last;go_wp2_with(at_builtin;apply Xv _ R (.tmp 25) (.tmp 30) 43 rfl w 9 a0 (Zb ⟨#[]⟩) 1 16 underlying43 p z A B R WW u5 out.length (out.map Zb) R (b.alloc _) ⟨wr,0,N⟩ 1 1 [Zb (s.extract f s.size)] R R (Wp _ _ _) Vi Vk O WX;intro v' a4 l i u);go_roundg (gk-1)
  .refine⟨s.size+1,s.size+1,O,Vg,Vg,out++[s.extract f s.size],a,?_,?_⟩
   .rw[yt,Ys,qZ];exact l
   exact(m.alloc _ _).grown i WX (qjd b)
  omega
 obtain⟨a1,a5,⟨D,_⟩|⟨D,J,K⟩⟩:=hcut
 .exact w_ D q
 subst D;have E:=a1;have F:=J;have G:=K;go_wp2;go_ret;exact⟨u5,out,R,b,E,F,G,m⟩
theorem qz9(c:UInt8):∀(k:Nat)(x:I1) (r:List (I1)),(∀y∈x::r,c∉y)->k<r.length->(Lib.splitK [c] 0 k (f_ (x::r) [c])).length=k+1
 | 0,_,_,_,_=>rfl
 | k+1,x,[],_,hk=>by simp at hk
 | k+1,x,y::r,h,hk=>by
  rw[ve,qS];show(Lib.splitK [c] 0 (k+1) (x++c::f_ (y::r) [c])).length=_;rw[qj6 c k x _ (h x WU),Yq,qz9 c k y r (λz a=>h z (by simp at a|-;right;exact a)) (by simp at hk;omega)]
theorem aK:∀{a b:I3},a.map (·.data.toList)=b.map (·.data.toList)->a=b
 | [],[],_=>rfl
 | [],y::b,h=>by simp at h
 | x::a,[],h=>by simp at h
 | x::a,y::b,h=>by
  simp only[YM,X7]at h;have e:x=y:=by cases x;cases y;simpa using h.1
  rw[e,aK h.2]
def dQ(c:UInt8)(n:Nat)(l:1<=n)(s:I4)(a:I3)(h:∀x∈a,c∉x.data.toList)(j:a≠[])(e:f_ (a.map (·.data.toList)) [c]=s.data.toList):(a.length<=n->xL c n s=a)/\(n<a.length->(xL c n s).length=n):=by
 obtain⟨x,r,rfl⟩:=XI j;have b:∀y∈x.data.toList::r.map (·.data.toList),c∉y:=λy g=>by
  obtain rfl|g:=Yj.1 g
  .exact h x WU
  obtain⟨z,k,rfl⟩:=YL.1 g;exact h z (by simp[k])
 rw[YM]at e;constructor
 .intro f;apply aK;rw[qv4 c n x.data.toList (r.map (·.data.toList)) b Uq s e.symm,YM]
 intro f;have d:=qzr [c] x.data.toList (r.map (·.data.toList));rw[e]at d;simp only[YD,Yq,XN,Z2,Nat.mul_one,ZX,YY]at d f;have i:min n (s.size+1)-1=n-1:=O;have:=Xn List.length (qjc c n s);rw[YD,i,<-e,qz9 c (n-1) _ _ b WX]at this;omega
def qvk(c:UInt8)(n:Nat)(j:1<=n)(s:I4)(d:I3)(e:∀x∈d,c∉x.data.toList)(f:d≠[])(g:f_ (d.map (·.data.toList)) [c]=s.data.toList)(m:Nat)(k:m<n):(d.length=m->xL c n s=d)/\(d.length≠m->(xL c n s).length≠m):=by
 obtain⟨a,b⟩:=dQ c n j s d e f g;refine⟨λh=>a O,λh=>?_⟩;by_cases i:d.length<=n
 .rw[a i];exact h
 rw[b O];omega
def kY(c:UInt8):Int:=e_ [75,81,107,113] c
def j8:List UInt8->Int->Bool
 | [],_=>Zk
 | c::r,last=>Zm (last<kY c)&&j8 r (kY c)
def fL:∀c:UInt8,-1<=kY c/\kY c<=3:=vg WS
def Az:∀c:UInt8,∀i:Nat,i<4->(kY c=(i:Int)↔c=vn i):=by have:∀i:Fin 4,∀c:UInt8,(kY c=((i.val:Nat):Int)↔c=vn i.val):=λi=>vg (by revert i;decide +kernel);intro c i a;exact this ⟨i,a⟩ c
def bC(c:UInt8)(r:I1):Lib.trimPrefix (c::r) [c]=r:=by simp[Lib.trimPrefix,Lib.hasPrefix]
def qj2{c:UInt8}{l:I1}(h:l.head?≠S c):Lib.trimPrefix l [c]=l:=by
 cases l with
 | nil=>simp[Lib.trimPrefix,Lib.hasPrefix]
 | cons b r=>
  have:b≠c:=λe=>h Tg;simp[Lib.trimPrefix,Lib.hasPrefix,Ne.symm this]
def tB(c:UInt8)(l:I1):Lib.hasPrefix l [c]=Zm (l.head?=c):=by
 cases l with
 | nil=>simp[Lib.hasPrefix]
 | cons b r=>
  by_cases h:b=c
  .simp[Lib.hasPrefix,h]
  have a:¬c=b:=λe=>h e.symm;simp[Lib.hasPrefix,List.isPrefixOf,h,a]
def eS{m:I1}(a:i<4):j8 m ((i:Int)-1)=j8 (Lib.trimPrefix m [vn i]) (i:Int):=by
 cases m with
 | nil=>rw[qj2 WU];rfl
 | cons b r=>
  by_cases h:b=vn i
  .subst h;rw[bC];have e:=(Az (vn i) i a).2 R;show(Zm ((i:Int)-1<kY (vn i))&&j8 r (kY (vn i)))=_;rw[e,qJ O];rfl
  rw[qj2 Vq];have d:kY b≠(i:Int):=λe=>h ((Az b i a).1 e);show(Zm ((i:Int)-1<kY b)&&j8 r (kY b))=(Zm ((i:Int)<kY b)&&j8 r (kY b));congr 1;apply XB.2;omega
def mE{m:I1}:∀{last:Int},j8 m last=Zk->∀c∈m,last<kY c:=by
 induction m with
 | nil=>intro last _ c a;cases a
 | cons b r ih=>
  intro last h c a;have d:Zm (last<kY b)=Zk/\j8 r (kY b)=Zk:=by have:(Zm (last<kY b)&&j8 r (kY b))=Zk:=h;simpa using this
  have e:=q8 d.1;obtain rfl|a:=Yj.1 a
  .exact e
  have:=ih d.2 c a;omega
theorem qjf(l:I1):∀i,i<=4->j8 (jN l i) ((i:Int)-1)=j8 l (-1)
 | 0,_=>rfl
 | i+1,hi=>by
  rw[<-qjf l i O,eS (m:=jN l i) (i:=i) O];show j8 (Lib.trimPrefix (jN l i) [vn i]) (((i+1:Nat):Int)-1)=_;congr 1;omega
def Ap(m:I1):j8 m 3=m.isEmpty:=by
 cases m with
 | nil=>rfl
 | cons b r=>
  have:=fL b;show(Zm ((3:Int)<kY b)&&j8 r (kY b))=Zl;rw[qE O];rfl
def eU(l:I1):(jN l 4).isEmpty=j8 l (-1):=by rw[<-qjf l 4 O,<-Ap];rfl
theorem bV(l:I1)(k:Nat)(d:k<4):∀i,i<=k->(vn k∈jN l i↔vn k∈l)
 | 0,_=>Iff.rfl
 | i+1,hi=>by
  rw[<-bV l k d i O];show vn k∈Lib.trimPrefix (jN l i) [vn i]↔_;by_cases h:(jN l i).head?=vn i
  .obtain⟨r,f⟩:∃r,jN l i=vn i::r:=by
    cases e:jN l i with
    | nil=>rw[e]at h;simp at h
    | cons b r=>rw[e]at h;simp at h;exact⟨r,by rw[h]⟩
   rw[f,bC];have a:vn k≠vn i:=λe=>(by have g:=(Az (vn k) k d).2 R;have j:=(Az (vn k) i O).2 e;omega);simp[a]
  rw[qj2 h]
def sb(l:I1)(h:j8 l (-1)=Zk)(i:Nat)(m:i<4):zW l i=Zm (vn i∈l):=by
 rw[zW,tB];apply XB.2;rw[<-bV l i m i Zy];have g:=qjf l i O;rw[h]at g;constructor
 .intro a;cases e:jN l i with
  | nil=>rw[e]at a;simp at a
  | cons b r=>rw[e]at a;simp at a;rw[a];simp
 intro d;cases e:jN l i with
 | nil=>rw[e]at d;cases d
 | cons b r=>
  rw[e]at d g;by_cases k:b=vn i
  .rw[k];rfl
  obtain f|f:=Yj.1 d
  .exact w_ f.symm k
  have j:Zm ((i:Int)-1<kY b)=Zk/\j8 r (kY b)=Zk:=by have:(Zm ((i:Int)-1<kY b)&&j8 r (kY b))=Zk:=g;simpa using this
  have o:=q8 j.1;have n:=mE j.2 _ f;rw[(Az (vn i) i m).2 R]at n;omega
noncomputable def gq:I0:=P_ 69 #[I L (-1)] b_
def CZ:c_.built 70 [(3,I L (-1))]=gq:=by rw[wD,xv _ _ 3 69 1 _ _ R R (by rw[xF];decide)];rfl
def AE:b_.toList.take 64=List.replicate 64 (I Zg 0):=WR
def AK:b_[65]?=Za Zl:=WR
def AJ:b_[66]?=Za Zl:=WR
def AI:b_[67]?=Za Zl:=WR
def AG:b_[68]?=Za Zl:=WR
def rI:jE (λ_=>0) Zl (λ_=>Zl) 0 0 0 b_:=by
 refine⟨xF,λi a=>?_,WR,λi a=>?_,WR,WR,WR⟩
 .have h:=Xn (λl=>l[i]?) AE;simp only[Yv,qI a,List.getElem?_replicate,qO]at h;rw[h];rfl
 have:i=0\/i=1\/i=2\/i=3:=O;obtain rfl|rfl|rfl|rfl:=this
 .exact AK
 .exact AJ
 .exact AI
 exact AG
end
section
open Go.Sort
variable {z:I2}{wh:Bool}{f:I5}{b h g:Int}{PA:I0}
def qz(h:i≠j):(PA.setIfInBounds i v)[j]?=PA[j]?:=by rw[Yu,qF h]
def FG(h:i<PA.size):(PA.setIfInBounds i v)[i]?=v:=by rw[Yu,qI R,qI h]
def jE.setSq(r:jE z wh f b h g PA)(i:Nat)(d:i<64)(c:UInt8):jE (λj=>if j=i then c else z j) wh f b h g (PA.setIfInBounds i (I Zg c.toNat)):=by
 refine⟨Vx,λj a=>?_,?_,λj a=>?_,?_,?_,?_⟩
 .by_cases e:j=i
  .subst e;rw[FG Vw,qI R]
  rw[qz (λh=>e h.symm),qF e];exact r.sq j a
 .rw[qz O];exact r.wh
 .rw[qz O];exact r.c j a
 .rw[qz O];exact r.b
 .rw[qz O];exact r.h
 rw[qz O];exact r.g
def jE.setWh(r:jE z wh f b h g PA)(x:Bool):jE z x f b h g (PA.setIfInBounds 64 x):=by
 refine⟨Vx,λj a=>?_,FG Vw,λj a=>?_,?_,?_,?_⟩
 .exact IH
 .rw[qz O];exact r.c j a
 .rw[qz O];exact r.b
 .rw[qz O];exact r.h
 rw[qz O];exact r.g
def jE.setC(r:jE z wh f b h g PA)(i:Nat)(d:i<4)(x:Bool):jE z wh (λj=>if j=i then x else f j) b h g (PA.setIfInBounds (65+i) x):=by
 refine⟨Vx,λj a=>?_,?_,λj a=>?_,?_,?_,?_⟩
 .exact IH
 .rw[qz O];exact r.wh
 .by_cases e:j=i
  .subst e;rw[FG Vw,qI R]
  rw[qz O,qF e];exact r.c j a
 .rw[qz O];exact r.b
 .rw[qz O];exact r.h
 rw[qz O];exact r.g
def jE.setB(r:jE z wh f b h g PA)(x:Int):jE z wh f x h g (PA.setIfInBounds 69 x):=by
 refine⟨Vx,λj a=>?_,?_,λj a=>?_,FG Vw,?_,?_⟩
 .exact IH
 .rw[qz O];exact r.wh
 .rw[qz O];exact r.c j a
 .rw[qz O];exact r.h
 rw[qz O];exact r.g
def jE.setH(r:jE z wh f b h g PA)(x:Int):jE z wh f b x g (PA.setIfInBounds 70 x):=by
 refine⟨Vx,λj a=>?_,?_,λj a=>?_,?_,FG Vw,?_⟩
 .exact IH
 .rw[qz O];exact r.wh
 .rw[qz O];exact r.c j a
 .rw[qz O];exact r.b
 rw[qz O];exact r.g
def jE.setG(r:jE z wh f b h g PA)(x:Int):jE z wh f b h x (PA.setIfInBounds 71 x):=by
 refine⟨Vx,λj a=>?_,?_,λj a=>?_,?_,?_,FG Vw⟩
 .exact IH
 .rw[qz O];exact r.wh
 .rw[qz O];exact r.c j a
 .rw[qz O];exact r.b
 rw[qz O];exact r.h
end
section
open Go.Sort
def pr:jE (λ_=>0) Zl (λ_=>Zl) (-1) 0 0 gq:=by
 have e:gq=b_.setIfInBounds 69 (I L (-1)):=by
  apply YV;intro i;rw[gq,(zo 69 #[I L (-1)] b_).2 i (by rw[xF];decide),Yu];by_cases h:i=69
  .subst h;rw[qI ⟨Zy,WW⟩,qI R,qI (by rw[xF];decide)];rfl
  rw[qF WX,qF O]
 rw[e];exact rI.setB (-1)
def C1{a:I3}(h:yt base v a w)(e:a≠[]):∃b cap,v=Zq (S ⟨b,0,N⟩) a.length cap/\base<=b/\a.length<=cap/\Wd b a w:=by
 obtain⟨_,d⟩|⟨g,cap,cur,rfl,k,f,d,n,o,m⟩:=h.2
 .exact w_ (Yz.1 d) e
 refine⟨g,cap,R,k,d,(qB.1 f).1,λj i=>?_⟩;rw[Zs f,<-qO];have:=Xn (λl=>l[j]?) m;simp only[Yv,Nat.mul_one,qI i,YN,Yf i]at this;exact this
def Ag{b:Nat}{cs:I0}{t:TypeId}(h:W.heap[b]?=Z cs t):(W.setCell ⟨b,i,N⟩ v).heap[b]?=Z (cs.setIfInBounds i v) t:=by have d:=(qB.1 h).1;have a:=(qB.1 h).2;exact Iy
structure Fo(w:I6)(bp:Nat)(PA:I0)(cur:I6):Prop where
 res:cur.heap[w.heap.size]?=S (Z b_ 70)
 p:cur.heap[bp]?=S (Z PA 70)
 ne:w.heap.size<bp
 lp:bp<cur.heap.size
 gr:Gr w cur
def Fo.next{cur:I6}{bp:Nat}(h:Fo w bp PA cur)(g:Gr cur a):Fo w bp PA a:=⟨by rw[Zz g (Nat.lt_trans h.ne h.lp)];exact h.res,by rw[Zz g h.lp];exact h.p,h.ne,qN h.lp (ZR g),o_ h.gr g⟩
def Fo.put{cur:I6}{bp:Nat}(h:Fo w bp PA cur)(i:Nat)(v:I7):Fo w bp (PA.setIfInBounds i v) (cur.setCell ⟨bp,i,N⟩ v):=⟨by rw[Yg cur ⟨bp,i,N⟩ v w (Nat.ne_of_lt h.ne)];exact h.res,Ag h.p,h.ne,by rw[World.size_setCell];exact h.lp,Yr h.gr (Nat.le_of_lt h.ne) v⟩
def Fo.cell{cur:I6}{bp:Nat}(h:Fo w bp PA cur)(a:PA[i]?=v):cur.cell? ⟨bp,i,N⟩=v:=by rw[Zs h.p];exact a
def Fo.soft{cur:I6}{bp:Nat}(h:Fo w bp PA cur)(i:Nat):cur.frozen? ⟨bp,i,N⟩=Zl:=by unfold World.frozen?;rw[h.p];simp
def kT(s:I4)(e:Ending):Prop:=(∃p,xG s=S p/\e=Zd (Ze #[Zc (jV p),Za Zk]))\/(xG s=N/\∃A:I0,A.size=72/\A.all (·.oneCell')=Zk/\e=Zd (Ze #[Zc A,Za Zl]))
def rV{s:I4}(h:(xL 32 7 s).length≠6):xG s=N:=by
 unfold xG;split
 .rename_i a;rw[a]at h;exact w_ R h
 rfl
def rW{s a b d e f g:I4}(h:xL 32 7 s=[a,b,d,e,f,g]):xG s=Ac a b d e f g:=by rw[xG,h]
structure HN(w:I6)(bp:Nat)(PA:I0)(cur:I6)(z:I2)(wt:Bool)(ys:I3)(k:Nat)(rs:List (List Int)):Prop where
 fo:Fo w bp PA cur
 row:jE z wt (λ_=>Zl) (-1) 0 0 PA
 rk:jK (ys.take k)=S rs
 at':∀i f,i<k->f<8->∃r,rs[i]?=S r/\r[f]?=S ((z (8*(7-i)+f)).toNat:Int)
structure DR(w:I6)(bp:Nat)(PA:I0)(cur:I6)(z z':I2)(wt:Bool)(zs:I1)(k j rb:Nat)(t:TypeId):Prop where
 fo:Fo w bp PA cur
 row:jE z' wt (λ_=>Zl) (-1) 0 0 PA
 rb:cur.heap[rb]?=S (Z (zs.map (λc=>I Zg (c.toNat:Int))).toArray t)
 new:∀f,f<j->zs[f]?=S (z' (8*(7-k)+f))
 old:∀m,m<8*(7-k)\/8*(7-k)+8<=m->z' m=z m
def DR.rcell{cur:I6}{bp b:Nat}{e:I2}{wt:Bool}{a:I1}{t:TypeId}(h:DR w bp PA cur z e wt a k j b t)(d:j<a.length):cur.cell? ⟨b,j,N⟩=I Zg (a[j]).toNat:=by rw[Zs h.rb];simp[d]
def DR.step{cur:I6}{bp b:Nat}{d:I2}{wt:Bool}{a:I1}{t:TypeId}(h:DR w bp PA cur z d wt a k j b t)(g:j<a.length)(i:j<8)(p:k<8)(n:b≠bp):DR w bp (PA.setIfInBounds (8*(7-k)+j) (I Zg (a[j]).toNat)) (cur.setCell ⟨bp,8*(7-k)+j,N⟩ (I Zg (a[j]).toNat)) z (λm=>if m=8*(7-k)+j then a[j]else d m) wt a k (j+1) b t:=by
 refine⟨h.fo.put _ _,h.row.setSq _ O _,?_,λf o=>?_,λm l=>?_⟩
 .rw[Yg cur ⟨bp,_,N⟩ _ b n];exact h.rb
 .by_cases e:f=j
  .subst e;rw[qI R];simp[g]
  rw[qF O];exact h.new f O
 rw[qF O];exact h.old m l
def DR.done{cur:I6}{bp:Nat}{b:I0}{m:I2}{wt:Bool}{g:I1}{t:TypeId}{d:I3}{rs:List (List Int)}(h:DR w bp b a z m wt g k 8 x t)(j:HN w bp PA cur z wt d k rs)(p:k<d.length)(q:k<8)(v:jL d[k].data.toList=nI g):∃rs',HN w bp b a m wt d (k+1) rs':=by
 have u:rs.length=k:=by have:=(jg _ _ j.rk).2;rw[Xt]at this;omega
 refine⟨rs++[nI g],h.fo,h.row,?_,λi f y l=>?_⟩
 .rw[Yd p,uJ,j.rk,v]
 by_cases e:i=k
 .subst e;refine⟨nI g,by rw[<-u];simp,?_⟩;rw[nI,YN,h.new f l];rfl
 obtain⟨r,n,o⟩:=j.at' i f O l;refine⟨r,by rw[List.getElem?_append_left O];exact n,?_⟩;rw[o,h.old (8*(7-i)+f) O]
def nN{x:I4}(h:(xL 47 9 x).length≠8):(j7 x).isSome=Zl:=by rw[j7,qF h];rfl
def mJ{a:I3}(b:k<a.length)(d:jL a[k].data.toList=N):jK a=N:=by
 induction a generalizing k with
 | nil=>exact w_ b (Yy _)
 | cons y r ih=>
  cases k with
  | zero=>rw[jK,show jL y.data.toList=N from d]
  | succ k=>
   have:=ih (k:=k) VE VG;rw[jK,this];cases jL y.data.toList<;>rfl
def nP{x:I4}{a:I3}(h:xL 47 9 x=a)(b:k<a.length)(d:jL a[k].data.toList=N):(j7 x).isSome=Zl:=by
 subst h;unfold j7;split
 .rw[mJ b d];rfl
 rfl
def yR(l:I1):Nat->Int
 | 0=>-1
 | k+1=>match l[k]? with
  | some c=>kY c
  | none=>-1
def lF(l:I1)(k:Nat)(c:UInt8)(h:l[k]?=c):yR l (k+1)=kY c:=by show(match l[k]? with|some c=>kY c|none=>-1)=kY c;rw[h]
def CJ(l:I1)(k:Nat)(c:UInt8)(h:l[k]?=c):l.drop k=c::l.drop (k+1):=by obtain⟨a,rfl⟩:=Z5.1 h;exact XP a
def rO(l:I1)(k:Nat)(c:UInt8)(h:l[k]?=c):j8 (l.drop k) (yR l k)=(Zm (yR l k<kY c)&&j8 (l.drop (k+1)) (yR l (k+1))):=by rw[CJ l k c h,lF l k c h];rfl
def CO{c:UInt8}(h:kY c<0)(i:Nat)(a:i<4):c≠vn i:=λe=>by
 have:=(Az c i a).2 e;omega
def CN{c:UInt8}(h:0<=kY c):∃j:Nat,j<4/\kY c=(j:Int)/\c=vn j:=by have:=fL c;obtain⟨j,b⟩:∃j:Nat,kY c=(j:Int):=⟨(kY c).toNat,O⟩;have a:j<4:=O;exact⟨j,a,b,(Az c j a).1 b⟩
def qv6(l:I1)(k:Nat)(c d:UInt8)(h:l[k]?=c):d∈l.take (k+1)↔d∈l.take k\/d=c:=by obtain⟨a,rfl⟩:=Z5.1 h;rw[Yd a,Yi,qT]
def yq(l:I1)(k:Nat)(i:Nat):Bool:=Zm (vn i∈l.take k)
def Am{f:I5}{g:Int}{a:I0}(r:jE z wh f b h g PA)(q:jE z wh f b h g a):PA=a:=by
 apply YV;intro i;by_cases d:i<64
 .rw[r.sq i d,q.sq i d]
 by_cases e:i<72
 .have:i=64\/i=65+0\/i=65+1\/i=65+2\/i=65+3\/i=69\/i=70\/i=71:=O;obtain rfl|rfl|rfl|rfl|rfl|rfl|rfl|rfl:=this
  .rw[r.wh,q.wh]
  .rw[r.c 0 O,q.c 0 O]
  .rw[r.c 1 O,q.c 1 O]
  .rw[r.c 2 O,q.c 2 O]
  .rw[r.c 3 O,q.c 3 O]
  .rw[r.b,q.b]
  .rw[r.h,q.h]
  rw[r.g,q.g]
 rw[Z6 Vw,Z6 (by rw[q.size];omega)]
def jE.casNo{g:Int}{l:I1}{c:UInt8}(r:jE z wh (yq l k) b h g PA)(a:l[k]?=c)(e:kY c<0):jE z wh (yq l (k+1)) b h g PA:=
 r.congr (λ_ _=>R) (λi d=>by
  unfold yq;apply XB.2;rw[qv6 l k c _ a];have:=CO e i d;constructor
  .exact Zi
  rintro(h|h)
  .exact h
  exact w_ h.symm this)
def jE.casYes{g:Int}{l:I1}(r:jE z wh (yq l k) b h g PA)(d:j<4)(a:l[k]?=vn j):jE z wh (yq l (k+1)) b h g (PA.setIfInBounds (65+j) Zk):=
 (r.setC j d Zk).congr (λ_ _=>R) (λi f=>by
  unfold yq;by_cases e:i=j
  .subst e;rw[qI R,eq_comm,qG,qv6 l k _ _ a];exact Zj R
  rw[qF e];apply XB.2;rw[qv6 l k _ _ a];have:vn i≠vn j:=λh=>by have m:=(Az (vn i) i f).2 R;have n:=(Az (vn i) j d).2 h;omega
  constructor
  .exact Zi
  rintro(h|h)
  .exact h
  exact w_ h this)
theorem DJ:∀(d:List (List Int)),yw d->∀i f,f<8->d.flatten[8*i+f]?=(d[i]?).bind (·[f]?)
 | [],_,i,f,_=>by simp
 | r::t,h,i,f,hf=>by
  have a:r.length=8:=h r WU;cases i with
  | zero=>rw[List.flatten_cons,List.getElem?_append_left O];simp
  | succ i=>
   rw[List.flatten_cons,List.getElem?_append_right O,a,show 8*(i+1)+f-8=8*i+f from O,DJ t (λx b=>h x (by simp[b])) i f hf];simp
def HN.board{cur:I6}{bp:Nat}{wt:Bool}{e:I3}{rs:List (List Int)}{x:I4}(h:HN w bp PA cur z wt e 8 rs)(n:xL 47 9 x=e)(g:e.length=8):∃b,j7 x=S b/\∀i,i<64->b[i]?=S ((z i).toNat:Int):=by have a:=h.rk;rw[Yk O]at a;obtain⟨k,l⟩:=jg _ _ a;refine⟨rs.reverse.flatten,by rw[j7,n,qI g,a],λi o=>?_⟩;have d:=DJ rs.reverse (λr m=>k r (List.mem_reverse.1 m)) (i/8) (i%8) O;rw[show 8*(i/8)+i%8=i from O]at d;rw[d,List.getElem?_reverse O,l,g];obtain⟨r,j,f⟩:=h.at' (7-i/8) (i%8) O O;rw[show 8-1-i/8=7-i/8 from O,j];rw[show 8*(7-(7-i/8))+i%8=i from O]at f;exact f
def cF(l:I1):vS l=if l=[45]then S (λ_=>Zl)else if !l.isEmpty&&j8 l (-1)then S (zW l)else N:=by rw[vS,eU]
def ti{l:I1}(a:l≠[45])(b:j8 l (-1)=Zl):(vS l).isSome=Zl:=by rw[cF,qF a,b];simp
def tf:(vS []).isSome=Zl:=by rw[cF];rfl
def nD{l:I1}(f:l≠[])(h:l=[45]\/j8 l (-1)=Zk):∃c,vS l=S c/\∀i,i<4->yq l l.length i=c i:=by
 rw[cF];by_cases b:l=[45]
 .subst b;refine⟨_,R,λi e=>?_⟩;have:i=0\/i=1\/i=2\/i=3:=O;exact O1
 have d:=h.resolve_left b;rw[qF b,d];refine⟨zW l,by cases l with|nil=>exact w_ rfl f|cons a r=>rfl,λi e=>?_⟩;rw[sb l d i e];rw[yq,XA]
def bn{l:I1}(h:0<=kV l):∃n:Nat,vR l=n/\kV l=(n:Int):=by grind[kV,vR]
def tG{s m n a o j k:I4}{wt:Bool}(F:xG s=Ac m n a o j k)(D:∃b,j7 m=S b/\∀i,i<64->b[i]?=S ((z i).toNat:Int))(G:kO n=wt)(x:a.data.toList≠[]) (E:a.data.toList=[45]\/j8 a.data.toList (-1)=Zk) (d:v8 o=S b) (y:0<=kV j.data.toList) (A:0<=kV k.data.toList)(row:jE z wt (yq a.data.toList a.data.toList.length) b (kV j.data.toList) (kV k.data.toList) PA):∃p,xG s=S p/\PA=jV p:=by
 obtain⟨B,C,H⟩:=D;obtain⟨c,e,f⟩:=nD x E;obtain⟨M,r,v⟩:=bn y;obtain⟨J,u,w⟩:=bn A;rw[v,w]at row;have h:xG s=S ⟨B,wt,c,b,(M:Int),(J:Int)⟩:=by rw[F];rw[Ac,C,G,e,d,r,u]
 refine⟨_,h,?_⟩;have l:=jo h;refine Am (row.congr (λi g=>?_) f) l;have P:=l.sq i g;obtain⟨U,u1,u2,_⟩:=FM s _ h;obtain⟨K,q⟩:=qzx u1 u2;have:=q i g;rw[Xu,YN,H i g]at this;simp only[Option.map_some,Xh,I.injEq,true_and]at this;exact q6.1 O
def iw{l:I1}(h:¬0<=kV l):(vR l).isSome=Zl:=by grind[kV,vR]
def HI(bp gw:Nat)(PA:I0)(x:I4)(h g:Int)(w:I6):Prop:=zJ bp PA w/\w.cell? ⟨gw,2,N⟩=S (Zb x)/\w.cell? ⟨bp,70,N⟩=S (I L h)/\w.cell? ⟨bp,71,N⟩=S (I L g)
def Et{x:I4}(h:x.toList≠[45])(a:dJ x=b):if 0<=b then v8 x=S b else(v8 x).isSome=Zl:=by
 subst a;unfold v8 dJ;rw[qF h];cases uX x with
 | none=>rw[qF WW];rfl
 | some n=>rw[qI (Int.natCast_nonneg n)];rfl
def qvf{b:Nat}{cs:I0}(h:j≠b):(W.setRow b cs).heap[j]?=W.heap[j]?:=by unfold World.setRow;show(W.heap.modify b _)[j]?=_;rw[Array.getElem?_modify,qF (λe=>h e.symm)]
def HI.far{bp a:Nat}{x:I4}{g:Int}{b:Nat}{cs:I0}(s:HI bp a PA x h g W)(o:b<bp)(p:a≠b):HI bp a PA x h g (W.setRow b cs):=by obtain⟨⟨e,f⟩,k,l,m⟩:=s;have d:∀i,(W.setRow b cs).cell? ⟨bp,i,N⟩=W.cell? ⟨bp,i,N⟩:=λi=>X9 (qvf (Ne.symm (Nat.ne_of_lt o)));have n:∀i,(W.setRow b cs).cell? ⟨a,i,N⟩=W.cell? ⟨a,i,N⟩:=λi=>X9 (qvf p);refine⟨⟨by rw[Xa];exact e,λj v q=>?_⟩,by rw[n];exact k,by rw[d];exact l,by rw[d];exact m⟩;rw[d];exact f j v q
def mZ(f t:Nat)(H:f<64)(J:t<64)(u:UInt8)(w:I6):ZL 55 #[ZJ f t u] w (xJ (uY f t u)):=by
 obtain⟨v,b⟩:∃v:Nat->I4,Y (∀n,v n=xJ (xQ n)):=⟨λn=>xJ (xQ n),X (λ_=>R)⟩;have hN:Y (∀n:Nat,n<64->∀W,ZL 110 #[n] W (v n)):=X (λn h W=>by rw[b.a];exact qxo n h W);unfold ZL;go_in;have a:Y (xJ (uY f t u)=xJ (xQ f++xQ t)++xJ (if u=0 then[]else[u])):=(by rw[F6];rfl);have r:(xJ (xQ f++xQ t)).size=4:=R;obtain⟨k,l⟩:∃x,Y (x=xJ (xQ f++xQ t)):=⟨_,X R⟩;have D:∀W:I6,(k_ .add (v f) (v t)).run c_ W=.ok k W:=λW=>UH;rw[<-l.a]at r a;go_wp2;have j:Y (∀w',Gr (w.alloc (Z (ZJ f t u) 125)) w'->_):=λw' g=>sO g;have o:Gr w (w.alloc (Z (ZJ f t u) 125)):=Below.alloc (XL _ w) Zy _;have d:=X o;generalize w.alloc _=w1 at j d|-;go_region_held3 (λw'=>Gr w1 w'/\w'.cell? w=I L f/\w'.cell? ⟨w,1,N⟩=I L t/\w'.cell? ⟨w,2,N⟩=I Zg u.toNat) (first|exact j.a _ ZO.drew|exact j.a _ ‹_›) (first|(go_at_call 110;refine Z0 (hN.a _ O _) λw' C=>?_;have A:=o_ (vy ‹_›) C));rename_i E;obtain⟨p,c0,c1,c2⟩:=E;have q:Y (Gr w w'):=X (o_ d.a p);by_cases y:u=0
 .exact Ia
 have K:((u.toNat:Int)!=0)=Zk:=qU.2 (λe=>y (q6.1 VI));have z:Y (xJ (uY f t u)=k++(⟨#[u]⟩:I4)):=(by rw[a.a,qF y];rfl);have G:∀W:I6,(k_ .add k (⟨#[u]⟩:I4)).run c_ W=.ok (k++(⟨#[u]⟩:I4)) W:=λW=>Xy W k _ (by show k.size+1<=_;rw[r];decide);have m:=qq4 (w'.alloc (Z #[I Zg u.toNat] 5)) ⟨w',0,N⟩ 1 [u] (by
  intro i F;rw[X2,Z2,Z8 _ _ _ _ R];have:i=0:=by simp at F;omega
  subst this;rfl)
 have B:(convert 145 9 (Zq (S ⟨w',0,N⟩) 1 1)).run c_ (w'.alloc (Z #[I Zg u.toNat] 5))=.ok (Zb ⟨#[u]⟩) (w'.alloc (Z #[I Zg u.toNat] 5)):=m;go_wp2;go_ret;exact⟨by rw[z.a];rfl,Gr.alloc q _ _⟩
instance:Inhabited Mo:=⟨⟨(0,0,0),by decide,by decide⟩⟩
end
def dU{s:Nat}{e:TypeId}{d:List I7}(h:w.ownsRow base e s v n d)(g:Gr w w'):w'.ownsRow base e s v n d:=by
 refine⟨h.1,?_⟩;obtain f|⟨k,cap,cur,j,i,b,a⟩:=h.2
 .exact Zi f
 exact Zj ⟨k,cap,cur,j,i,ZE g b,a⟩
def ud(xs:List Mv):I3:=xs.map λx=>xJ (yJ x)
def qxz{A r gi:Nat}{b:List Mv}(Q:PA.size=72)(m:iM r gi PA b w):i_ c_ 36 #[zG A r,PA] w λe w'=>∃v,e=Zd v/\yt w v (ud (jI b)) w'/\Gr w w':=by
 obtain⟨i0,hi,a2,a3,a4⟩:=We DH;have a0:=X hi;have b2:=X m;have d:Ig w r PA ((w.alloc (Z (zG A r) 74)).alloc (Z PA 70)):=by obtain⟨e1,e2⟩:=x6 w (Z (zG A r) 74) (Z PA 70);exact⟨by rw[Zs e1];rfl,e2,ZN.al⟩
 have J:((w.alloc (Z (zG A r) 74)).alloc (Z PA 70)).cell? w=S (.func (.func A) #[] #[]):=by obtain⟨e1,e2⟩:=x6 w (Z (zG A r) 74) (Z PA 70);rw[Zs e1];rfl
 simp only[zG]at|-;go_in;go_upto_region 1 with fail;show n_ _ _ _ _ ((w.alloc (Z (zG A r) 74)).alloc (Z PA 70));generalize (w.alloc _).alloc _=wA at d J|-;have c1:=d.q;have b5:=d.pa;have b3:=X d.gr;have G:Y (i_ c_ 49 #[Zc #[.func (.func A) #[] #[],.func (.func r) #[] #[]],PA] wA λe w'=>∃v,e=Zd v/\w'.ownsRow wA 87 3 v b.length (vO (jI b))/\Gr wA w'):=X (qko Q (b2.gr d.gr));have B:∀x∈jI b,bi x:=λx T=>b2.ok x ((xq b).mem_iff.1 T);have V:=qj7 b;have a6:=b2.len;obtain⟨z,b6⟩:∃z,Y (z=jI b):=⟨_,X R⟩;rw[<-b6.a]at G B V;go_wp2_with(first|(refine ZD (w+1) PA b5 Q ?_)|(go_at_call 49;apply G.mono;rintro e w1 ⟨v,rfl,hv,b7⟩;obtain⟨p,cap,rfl,a5,K⟩:=rJ hv));have P:=X (o_ b3 b7);have D:=X K;go_loopg [5,7,12] b.length (λg v _ i wr=>∃k:Nat,k+g=b.length/\i=k/\yt w1 v (ud (z.take k)) wr/\Gr w1 wr)
 .exact⟨0,O,R,⟨R,Zi ⟨R,R⟩⟩,ZO⟩
 obtain⟨k,k1,rfl,n,a⟩:=hrel;by_cases a1:k<b.length
 .obtain⟨g,rfl,b0,x1,x2⟩:=D k a1 O;have h:g<w1.heap.size:=Zx b0;have b0:=(ZW a h).trans b0;have x1:=(ZW a h).trans x1;have x2:=(ZW a h).trans x2;have C:bi z[k]:=B _ (Xs _);have b4:Y (z.take (k+1)=z.take k++[z[k]]):=X (Yd O);generalize z[k]=y at b0 x1 x2 C b4;obtain⟨f,t,u⟩:=y;have o:=X n;have j:=X a;have a9:=ZR a;obtain⟨b1,hS⟩:∃b1,Y (b1=xJ (yJ (f,t,u))):=⟨_,X R⟩;have hN:Y (∀W,ZL 38 #[ZJ f t u] W b1):=X (λW=>by rw[hS.a];exact gK f t C.1 C.2 u W);have F:Y (Gr wr (wr.alloc (Z (ZJ f t u) 87))):=X ZN;go_upto_region 5 with fail;have T:=ZQ wr (Z (ZJ f t u) 87);generalize wr.alloc _=wb at F T|-;obtain⟨y0,y1,y2⟩:=qm T;go_upto_region 6 with(first|(go_at_call 38;refine Z0 (hN _) λw2 M=>?_;have c4:=o_ j (o_ F M);have a8:=ZR c4;have E:=X (dU o (o_ F M)))|(at_builtin;refine Xv _ R (.tmp 16) (.tmp 19) 43 rfl w1 9 i0 (Zb ⟨#[]⟩) 1 16 underlying43 a0.a a2 a3 a4 R WW u5 (ud (z.take k)).length ((ud (z.take k)).map Zb) R (E.a.alloc _) ⟨w2,0,N⟩ 1 1 [Zb b1] R R (Wp _ _ _) Vi (by unfold maxLen;rw[ud,YD,Xt];omega) (by rw[ud,YD,Xt];omega) WX ?_;intro v' w3 l H a7));go_wp2;go_roundg (gk-1)
  .refine⟨k+1,O,Vg,?_,?_⟩
   .unfold yt;rw[b4.a,ud,Ys,Ys,qZ];rw[hS.a]at l;exact l
   exact(c4.alloc _ _).grown H WX (qjd E)
  omega
 have ek:k=b.length:=O;rw[ek,<-V,XA,b6.a]at n;have o:=X n;have j:=X a;subst ek;go_wp2;go_ret;exact⟨_,R,qxn o (ZR P),o_ P j⟩
def bZ{g:Int}(r:jE z wh fc b h g PA)(f t:Nat)(x:f<64)(E:t<64)(u:UInt8)(w:I6):ZL 194 #[PA,ZJ f t u] w (Zm (vE (z f)=0)&&Zm ((t:Int)=b)&&Zm (f%8≠t%8)):=by
 have y:=r.sq f x;have D:=r.b;have p:(f:Int).tmod 8=((f%8:Nat):Int):=Vu;have v:(t:Int).tmod 8=((t%8:Nat):Int):=Vu;have l:=λW=>zp (z f) W;have d:∀o:I0,Gr w ((w.alloc (Z PA 70)).alloc (Z o 125)):=λo=>ZN.al;generalize vE _=n at l|-;have k:(((f%8:Nat):Int)!=((t%8:Nat):Int))=Zm (f%8≠t%8):=by
  by_cases e:f%8=t%8
  .simp[e]
  have:((f%8:Nat):Int)≠((t%8:Nat):Int):=O
  simp only[qU,ne_eq,this,e,not_false_eq_true,decide_true]
 obtain⟨q,m⟩:=Zn (Zm (f%8≠t%8));rw[m.a];have a:=k;rw[m.a]at a;clear m k;generalize f%8=C at p a;generalize t%8=F at v a;by_cases i:n=0
 .have A:(n==0)=Zk:=by simp[i]
  rw[qJ i];clear i;by_cases j:(t:Int)=b;have B:((t:Int)==b)=Zk:=by simp[j]
  rw[qJ j];rotate_left;have B:((t:Int)==b)=Zl:=by rw[qM];exact j
  rw[qE j];all_goals
   clear j;unfold ZL;go_in;go_wp2_with(go_at_call 107;apply Z1 (l _));go_ret;exact⟨R,d _⟩
 have A:(n==0)=Zl:=by rw[qM];exact i
 rw[qE i];clear i;unfold ZL;go_in;go_wp2_with(go_at_call 107;apply Z1 (l _));go_ret;exact⟨R,d _⟩
def qxf{g:Int}(r:jE z wh fc b h g PA)(f t:Nat)(u:UInt8)(w:I6):ZL 108 #[PA,ZJ f t u] w (zK wh fc f t u):=by
 have a0:=r.size;have F:=X r.c;have y:=X (λW=>Dv r W);have q:=X (λi k W=>zr i k W);have a6:Y (∀o:I0,Gr w ((w.alloc (Z PA 70)).alloc (Z o 125))):=λo=>ZN.al;have B:Y (∀w',Gr ((w.alloc (Z PA 70)).alloc (Z (ZJ f t u) 125)) w'->_):=λw' g=>eQ g;unfold zK;unfold ZL;go_in;go_wp2;have H:=X (a6 (ZJ f t u));generalize (w.alloc _).alloc _=a7 at B H|-;go_loopg [5] 4 (λa3 i wr=>∃d:Nat,d+a3=4/\i=d/\Gr a7 wr/\gh (jZ wh fc f t u) a3 d=gh (jZ wh fc f t u) 4 0)
 .exact⟨0,O,R,ZO,R⟩
 obtain⟨d,d1,rfl,a4,M⟩:=hrel;have l:=X a4;have A:=X M;by_cases G:d<4
 .obtain⟨P,E⟩:=B _ l;have p:=X (vF P);have Q:wr.cell? ⟨w,65+d,N⟩=(fc d):=by rw[qn P];exact F d G
  have e:wr.cell? ⟨w+1,0,N⟩=f:=Ta;have J:wr.cell? ⟨w+1,1,N⟩=t:=Ta;have K:wr.cell? ⟨w+1,2,N⟩=I Zg u.toNat:=Ta;have v:Y (∀w',Gr a7 w'->w'.cell? ⟨w+1,0,N⟩=I L f/\w'.cell? ⟨w+1,1,N⟩=I L t/\w'.cell? ⟨w+1,2,N⟩=I Zg u.toNat):=X (λw' g=>by have E:=(B w' g).2;exact⟨Ta,Ta,Ta⟩);obtain⟨C,rfl⟩:∃C,gk=C+1:=⟨gk-1,O⟩;have D:Y (gh (jZ wh fc f t u) (C+1) d=if fc d&&(xK (Zm (d<2))==xK wh)&&((f:Int)==xY d)&&((t:Int)==vN d)&&((u.toNat:Int)==0)then(d:Int)else gh (jZ wh fc f t u) C (d+1)):=R;obtain⟨x1,a2⟩:=Zo (xK (Zm (d<2))==xK wh);obtain⟨x2,a5⟩:=Zo ((f:Int)==xY d);obtain⟨x3,T⟩:=Zo ((t:Int)==vN d);obtain⟨x4,V⟩:=Zo ((u.toNat:Int)==0);generalize fc d=x0 at Q D;rw[a2,a5,T,V]at D;have n:=X (D.symm.trans A);cases x0
  .go_wp2_with(first|(go_at_call 196;apply Z1 (q d G _))|(go_at_call 116;refine Z0 (y.a _) λa1 a=>?_;obtain⟨e,J,K⟩:=v.a _ (o_ l.a a);have m:=X (o_ l.a a))|(refine ql Vb _ R w R a0 p.a ?_));go_roundg C
   .exact⟨d+1,O,R,l,n⟩
   omega
  cases x1
  .exact Ww
  cases x2
  .exact Ww
  cases x3
  .exact Ww
  cases x4
  .exact Ww
  skip;go_wp2_with(first|(go_at_call 196;apply Z1 (q d G _))|(go_at_call 116;refine Z0 (y _) λa1 a=>?_;obtain⟨e,J,K⟩:=v _ (o_ l a);have m:=X (o_ l a))|(refine ql Vb _ R w R a0 p.a ?_));go_ret;exact⟨by rw[<-n.a];rfl,o_ H m⟩
 have j:d=4:=O;subst j;obtain rfl:gk=0:=O;go_wp2;go_ret;exact⟨by rw[<-A.a];rfl,o_ H l⟩
def fj(z:I2)(A:I0)(d:∀i,i<64->A[i]?=I Zg (z i).toNat)(i:Nat)(g:i<4)(w:I6):ZL 299 #[A,xY i,zD i] w (nB z i):=by
 have a:i=0\/i=1\/i=2\/i=3:=O;refine zh A (λn=>((z n).toNat:Int)) d (xY i) (zD i) ?_ ?_ ?_ ?_ (ll i) (AR i) ?_ ?_ ?_ ?_ ?_ ?_ w
 .exact OL
 .exact OL
 .exact OL
 .exact OL
 .exact OL
 .exact OL
 .intro j;obtain rfl|rfl|rfl|rfl:=a
  .show(4:Int)+((j+1:Nat):Int)=4+(j:Int)+8*0+1;omega
  .show(4:Int)-((j+1:Nat):Int)=4-(j:Int)+8*0+(-1);omega
  .show(60:Int)+((j+1:Nat):Int)=60+(j:Int)+8*0+1;omega
  show(60:Int)-((j+1:Nat):Int)=60-(j:Int)+8*0+(-1);omega
 .exact OL
 .intro j b;obtain rfl|rfl|rfl|rfl:=a
  .have:j<=3:=b;show 0<=(4:Int)+(j:Int)/\(4:Int)+(j:Int)<=63;omega
  .have:j<=4:=b;show 0<=(4:Int)-(j:Int)/\(4:Int)-(j:Int)<=63;omega
  .have:j<=3:=b;show 0<=(60:Int)+(j:Int)/\(60:Int)+(j:Int)<=63;omega
  have:j<=4:=b;show 0<=(60:Int)-(j:Int)/\(60:Int)-(j:Int)<=63;omega
 intro j f b;obtain rfl|rfl|rfl|rfl:=a
 .have:j<3:=b;show(4:Int)+(j:Int)≠7;omega
 .have:j<4:=b;show(4:Int)-(j:Int)≠0;omega
 .have:j<3:=b;show(60:Int)+(j:Int)≠63;omega
 have:j<4:=b;show(60:Int)-(j:Int)≠56;omega
def s3(i:Nat)(b:i<4):0<=xY i/\xY i<=63/\0<=vN i/\vN i<=63/\a_ L (xY i+vN i)=xY i+vN i/\0<=(xY i+vN i).tdiv 2/\(xY i+vN i).tdiv 2<=63/\a_ L (-(xK (Zm (i<2))))=xK (!decide (i<2)):=by have a:i=0\/i=1\/i=2\/i=3:=O;rcases a with rfl|rfl|rfl|rfl<;>decide +kernel
def sP{b:Nat}(h:zJ b A W):W.rangeAt b 0 (A.toList.take 64):=λj v a=>h.2 j v (by
 rw[Yv]at a;split at a
 .exact a
 cases a)
def tF{g:Int}(r:jE z wh fc b h g PA)(i:Nat)(a0:i<4)(w:I6):ZL 248 #[PA,i] w (km z i):=by
 have C:=λW=>zr i a0 W;obtain⟨a2,G⟩:=FN r;obtain⟨a3,a4,D,E,a6,a1,P,hs⟩:=s3 i a0;have l:=λW=>fj z _ G i a0 W;have j:=λy y0 y1 W=>ju z _ a2 G y y0 y1 (!decide (i<2)) W;have d:=λW (h:zJ w PA W)=>sP h;have f:∀W,Gr (w.alloc (Z PA 70)) W->zJ w PA W:=λW g=>vF ((Zz g Vj).trans (ZQ w _));have o:=(q_ w).alloc PA 70;have n:(c_.info? 67).map (·.size)=S (PA.toList.take 64).length:=by rw[x7];simp[r.size]
 have a:=n;have k:km z i=(nB z i&&!(zM z (xY i) (!decide (i<2)))&&!(zM z ((xY i+vN i).tdiv 2) (!decide (i<2)))&&!(zM z (vN i) (!decide (i<2)))):=R;generalize km z i=F at k|-;generalize PA.toList.take _=e at l j d a;generalize xY i=K at *;generalize vN i=T at *;generalize zD i=a7 at *;generalize xK _=sd at *;unfold ZL;go_in;go_upto_region 2 with(go_at_call 196;apply Z1 (C _));have m:=q_ (w.alloc (Z PA 70));generalize w.alloc _=wa at m f o|-;go_upto_region 3 with(first|(go_at_call 299;refine Z0 (l _) λw3 v=>?_)|(refine Yo R 67 _ R w 0 R e _ (d _ (f _ m)) t_ rfl a ?_));have p:=o_ m v;go_upto_region 4 with(first|(go_at_call 192;refine Z0 (j _ a3 a4 _) λw4 x=>?_)|(refine Yo R 67 _ R w 0 R e _ (d _ (f _ p)) t_ rfl a ?_));have q:=o_ p x;have J:a_ L ((K+T).tdiv 2)=(K+T).tdiv 2:=Vc;go_upto_region 5 with(first|(go_at_call 192;refine Z0 (j _ a1 P _) λw5 A=>?_)|(refine Yo R 67 _ R w 0 R e _ (d _ (f _ q)) t_ rfl a ?_));have u:=o_ q A;generalize (K+T).tdiv 2=M at a1 P k|-;go_upto_region 6 with(first|(go_at_call 192;refine Z0 (j _ D E _) λw6 B=>?_)|(refine Yo R 67 _ R w 0 R e _ (d _ (f _ u)) t_ rfl a ?_));have H:=o_ o (o_ u B);generalize zM z K (!decide (i<2))=Q at k|-;generalize zM z M (!decide (i<2))=a5 at k|-;generalize zM z T (!decide (i<2))=V at k|-;generalize nB z i=c1 at k|-;cases c1<;>cases Q<;>cases a5<;>cases V;all_goals
  go_wp2;go_ret;exact⟨by rw[k];rfl,H⟩
def tH(s:I4)(hs:s.size<4294967281)(w:I6):i_ c_ 113 #[Zb s] w λe w'=>kT s e/\Gr w w':=by
 have g8:=X (λW=>qvl s hs 32 W);have M:=pr.size;have g7:=X (qx pr);go_enter func113,ntmps113;go_upto_region 2 with(first|(refine qqq R 70 #[(3,.const (I L (-1)))] R gq ?_ ?_;focus (exact CZ))|(refine ZC (w.heap.size+1) gq Zw M g7.a ?_));generalize y2:((w.alloc (Z b_ 70)).alloc (Z b_ 70)).setRow (w.heap.size+1) gq=w3;have f4:Fo w (w.heap.size+1) gq w3:=by rw[<-y2];exact⟨by rw[YG (show Gr (w.alloc (Z b_ 70)) _ from ZN.setRow _ Vj _) _ Vj];exact Zv,Zt Zw,O,by rw[Xa,Z3,Z3];omega,ZN.al.setRow _ O _⟩
 clear y2;generalize w.heap.size+1=bp at f4|-;go_upto_region 3 with(go_at_call 71;refine(g8.a _).mono ?_;rintro e w4 ⟨v,xs,rfl,a8,y3,t4,y6,v9⟩);obtain⟨gw,cap,rfl,r6,v2,E⟩:=C1 a8 t4;have T:=f4.next v9;have f6:gw≠bp:=by have:=f4.lp;omega
 have r7:Y (gw≠w.heap.size):=X (by have:=f4.lp;have:=f4.ne;omega);obtain⟨d0,f7⟩:=qvk 32 7 O s xs y3 t4 y6 6 O;clear f4 v9 a8 r6 g8;by_cases h6:xs.length=6
 .have t2:=d0 h6;match xs,h6 with
  | [x0,x1,a,As,x4,x5],_=>
   have hr:=X (rW t2);have Bl:∀x∈xL 32 7 s,x.size<=s.size:=λx hx=>zc _ _ _ _ hx;rw[t2]at Bl;have z0:=Bl x0 WU;have z2:=Bl a WU;have z3:=Bl As WU;have z4:=Bl x4 WU;have z5:=Bl x5 WU;have c1:=E.at' 1 WU;simp only[X0,XJ]at c1;have r:=X E;clear Bl t2 d0 f7 y3 t4 y6 E;simp only[Yq,XN]at v2|-;by_cases f8:(kO x1).isSome=Zk
   .have Bk:=(Fu x1).1;rw[f8]at Bk;obtain⟨wt,t3⟩:=Xr.1 f8;have m1:=(Fu x1).2 wt t3;have a9:=X t3;have hwc:=T.cell (PA:=gq) pr.wh;have t0:=T.soft 64;have s8:=X (pr.setWh wt);have l0:=T.put 64 (Za wt);have k2:=r.a.far f6 (i:=64) (v:=Za wt);have c0:=k2.at' 0 WU;simp only[XJ]at c0;have f9:=(pr.setWh wt).size;have s5:=X (qx (pr.setWh wt));have g8:=X (λW=>qvl x0 O 47 W);generalize gq.setIfInBounds 64 (Za wt)=f2 at s8 l0 f9 s5
    have hb:((x1.toList==[119])=Zk/\wt=Zk)\/((x1.toList==[119])=Zl/\(x1.toList==[98])=Zk/\wt=Zl):=by
     cases wt
     .right;rw[m1]at Bk;exact⟨m1,by simpa using Bk,R⟩
     .left;exact⟨m1,R⟩
    have k3:=X k2;clear Bk f8 t3 m1 k2 r;obtain⟨h1,rfl⟩|⟨h1,h2,rfl⟩:=hb
    all_goals
     go_upto_region 7 with(first|(go_at_call 71;refine(g8.a _).mono ?_;rintro e w6 ⟨v,ys,rfl,a8,y7,t5,y8,r5⟩));obtain⟨gr,rcap,rfl,r6,hrc,At⟩:=C1 a8 t5;have l1:=l0.next r5;have n7:=X (k3.a.next r5);have hnr:gr≠bp:=by have:=l0.lp;omega
     obtain⟨d0,f7⟩:=qvk 47 9 O x0 ys y7 t5 y8 8 O;clear l0 r5 a8 r6 g8 k3 T c0 c1 hwc t0 h1;by_cases h8:ys.length=8
     .have v1:((ys.length:Int)!=8)=Zl:=(by rw[h8];rfl);have d4:=X At;have z1:∀y∈ys,y.size<=x0.size:=λy hy=>zc _ _ _ _ (by have:=d0 h8;unfold xL at this;rw[this];exact hy);clear At;go_wp2_with(fail);go_loopg [7] 8 (λg i wr=>∃k:Nat,k+g=8/\i=I L k/\∃PA z rs,HN w bp PA wr z _ ys k rs/\Wd gr ys wr/\Wd gw [x0,x1,a,As,x4,x5] wr)
      case atStart=>exact⟨0,O,R,f2,_,[],⟨l1,s8.a,R,λi f hi=>w_ hi (Yy _)⟩,d4.a,n7.a⟩
      case round=>
       clear d4 n7 l1 s8;obtain⟨k,k1,rfl,PA,z,rs,hB,At,E⟩:=hrel;have d:=hB.row.size;have G:=X (qx hB.row);have k4:=X hB;have r:=X E;by_cases l3:k<8
       .have hk:k<ys.length:=O
        have r4:=At.at' k hk;have d4:=X At;clear At E hB;go_wp2_with fail;refine(mK ys[k] (by have:=z1 ys[k] (Xs hk);unfold maxLen;omega) _).mono ?_;rintro e w7 ⟨hrk,l2⟩;have A:=k4.a.fo.next l2;obtain⟨acc,ha,rfl⟩|⟨hn,a0,a1,a2,a3,a4,a5,a6,a7,rfl⟩:=hrk
        .obtain⟨zs,rfl,hz8,-,-⟩:=gA _ _ ha
         match zs,hz8 with
         | [b0,b1,b2,b3,b4,b5,b6,b7],_=>
          have x3:=X ha;have H:=X (r.a.next l2);have n0:=X (d4.a.next l2);clear ha r4;simp only[nI,YM,Wi];go_wp2_with fail;have m0:(w7.alloc (Z #[I Zg b0.toNat,I Zg b1.toNat,I Zg b2.toNat,I Zg b3.toNat,I Zg b4.toNat,I Zg b5.toNat,I Zg b6.toNat,I Zg b7.toNat] 277)).heap[w7.heap.size]?=_:=Zv;have g4:Gr w7 (w7.alloc (Z #[I Zg b0.toNat,I Zg b1.toNat,I Zg b2.toNat,I Zg b3.toNat,I Zg b4.toNat,I Zg b5.toNat,I Zg b6.toNat,I Zg b7.toNat] 277)):=ZN;have u:=A.next g4;have Bg:=X (H.a.next g4);have h7:=X (n0.a.next g4);have w9:w7.heap.size≠bp:=by have:=A.lp;omega
          generalize w7.alloc _=w8 at m0 g4 u Bg h7|-;generalize w7.heap.size=rb at m0 w9|-;have m6:=X m0;clear H n0 A l2 g4 m0;go_loopg [10] 8 (λg f wr=>∃j:Nat,j+g=8/\f=I L j/\∃t9 z',DR w bp t9 wr z z' _ [b0,b1,b2,b3,b4,b5,b6,b7] k j rb 277/\Wd gr ys wr/\Wd gw [x0,x1,a,As,x4,x5] wr)
          case atStart=>exact⟨0,O,R,PA,z,⟨u,k4.a.row,m6.a,λf hf=>w_ hf (Yy _),λ_ _=>R⟩,h7.a,Bg.a⟩
          case round=>
           clear m6 Bg h7 u;obtain⟨j,j1,rfl,t9,z',hI,At,E⟩:=hrel;by_cases hj:j<8
           .have k8:=hI.rcell hj;have f7:=hI.fo.cell (hI.row.sq (8*(7-k)+j) O);have t0:=hI.fo.soft (8*(7-k)+j);have k5:=X (hI.step hj hj l3 w9);have d5:=X (At.far hnr (i:=8*(7-k)+j) (v:=I Zg ([b0,b1,b2,b3,b4,b5,b6,b7][j]).toNat));have f1:=X (E.far f6 (i:=8*(7-k)+j) (v:=I Zg ([b0,b1,b2,b3,b4,b5,b6,b7][j]).toNat));generalize ([b0,b1,b2,b3,b4,b5,b6,b7][j])=bj at k8 k5 d5 f1;clear hI At E;go_wp2_with fail;go_roundg (gk-1)
            case measure=>omega
            case rel=>exact⟨j+1,O,R,_,_,k5.a,d5.a,f1.a⟩
           .have hj8:j=8:=O
            subst hj8;have k5:=X (hI.done k4.a hk l3 x3.a);have d5:=X At;have f1:=X E;clear hI At E;go_wp2_with fail;go_roundg (8-k-1)
            case measure=>omega
            case rel=>
             obtain⟨rs',y1⟩:=k5.a;exact⟨k+1,O,R,_,_,rs',y1,d5.a,f1.a⟩
        .have F:Y (xG s=N):=X (by rw[hr.a];exact jr (Zi (nP (d0 h8) hk hn)));have d1:∀c t,Fo w bp PA (w7.alloc (Z c t)):=λc t=>A.next ZN
         go_wp2_with(first|(refine ZD bp PA (Fo.p (w:=w) (d1 _ _)) d ?_)|(refine ZC w.heap.size PA (Fo.res (bp:=bp) (PA:=PA) (d1 _ _)) d G.a ?_));exact ZS (v:=Ze #[Zc PA,Za Zl]) (qj results113 _ _ w.heap.size 70 _ (0,0) _ R (Zt (d1 _ _).res) s_ rfl UX) R ⟨Zj ⟨F.a,PA,d,G.a,R⟩,(d1 _ _).gr.setRow _ Zy _⟩
       .have hk8:k=8:=O
        subst hk8;have hbd:=X (hB.board (d0 h8) h8);have A:=X hB.fo;have y0:=X hB.row;clear At k4 r;clear hB;have r:=X E;clear E d0 f7 y7 t5 y8;go_wp2_with fail;simp only[h8,Int.cast_ofNat_Int];clear h8 v1 z1;go_loopg [11,12] a.size (λg la i wr=>∃k:Nat,k+g=a.size/\i=I L k/\la=I L (yR a.data.toList k)/\∃PA,Fo w bp PA wr/\jE z _ (yq a.data.toList k) (-1) 0 0 PA/\(a.data.toList=[45]\/j8 a.data.toList (-1)=j8 (a.data.toList.drop k) (yR a.data.toList k))/\Wd gw [x0,x1,a,As,x4,x5] wr)
        case atStart=>exact⟨0,O,R,R,PA,A.a,y0.a.congr (λ_ _=>R) (λi _=>by simp[yq]),Zj R,r.a⟩
        case round=>
         clear A y0 r G d;obtain⟨k,k1,rfl,rfl,PA,A,f0,x9,E⟩:=hrel;have d:=f0.size;have G:=X (qx f0);have c2:=E.at' 2 WU;simp only[X0,XJ]at c2;have r:=X E;have B:=X f0;have Bs:=X x9;clear E f0 x9;by_cases l3:k<a.size
         .have c6:=X (cL a k l3);have l4:Y (∀W:I6,i_ c_ 111 #[Zb ⟨#[75,81,107,113]⟩,I Zg (a[k].toNat:Int)] W λe w'=>e=Zd (I L (kY a[k]))/\w'=W):=X (λW=>xa ⟨#[75,81,107,113]⟩ WW a[k] W);have s9:=X (rO a.data.toList k a[k] c6.a);have s0:=X (lF a.data.toList k a[k] c6.a)
          have F:Y (a.data.toList≠[45]->kY a[k]<=yR a.data.toList k->xG s=N):=X (λhn w2=>by
           rw[hr.a];refine jr (Zj (Zj (Zi (ti hn ?_))));rw[Bs.a.resolve_left hn,s9.a,qE O];rfl)
          have g6:Y (a.data.toList=[45]\/yR a.data.toList k<kY a[k]->a.data.toList=[45]\/j8 a.data.toList (-1)=j8 (a.data.toList.drop (k+1)) (yR a.data.toList (k+1))):=X (λh=>by
           by_cases hn:a.data.toList=[45]
           .exact Zi hn
           .refine Zj ?_;rw[Bs.a.resolve_left hn,s9.a,qJ (h.resolve_left hn)];rfl)
          have g9:Y (kY a[k]<0->jE z _ (yq a.data.toList (k+1)) (-1) 0 0 PA):=X (λh=>B.a.casNo c6.a h);have l5:Y (∀j:Nat,j<4->a[k]=vn j->jE z _ (yq a.data.toList (k+1)) (-1) 0 0 (PA.setIfInBounds (65+j) (Za Zk))):=X (λj hj e=>B.a.casYes hj (by rw[c6.a,e]));have k9:(a.toList==[45])=Zm (a.data.toList=[45]):=(by rw[Xl];by_cases h:a.data.toList=[45]<;>simp[h]);have hqb:=fL a[k];have Bp:Y (0<=kY a[k]->∃j:Nat,j<4/\kY a[k]=(j:Int)/\a[k]=vn j):=X (λh=>CN (c:=a[k]) h);have hlq:Y (∀l,yR a.data.toList k=l->True):=X (λ_ _=>x_);clear s9 hlq;generalize w1:yR a.data.toList k=la at F g6;have hla':=X w1;clear w1;obtain⟨q,hq⟩:=Zo (kY a[k]);rw[hq]at l4 s0 F g6 g9 hqb Bp;clear hq Bs;by_cases f5:a.data.toList=[45]\/la<q
          .have w5:=X (g6.a f5)
           have hb:(a.toList==[45])=Zk\/((a.toList==[45])=Zl/\la<q):=by
            rw[k9];by_cases h:a.data.toList=[45]
            .exact Zi UW
            .exact Zj ⟨UW,f5.resolve_left h⟩
           clear F g6 k9 f5;obtain hd|⟨hd,hl⟩:=hb
           all_goals
            by_cases hq0:0<=q
            .obtain⟨j,j4,hj,k8⟩:=Bp.a hq0;have hcc:=A.cell (B.a.c j j4);have t0:=A.soft (65+j);have hf2:=X (A.put (65+j) (Za Zk));have hw2:=X (r.a.far f6 (i:=65+j) (v:=Za Zk));have s7:=X (l5.a j j4 k8);subst hj;clear k8 l5 g9 Bp c6 B r;go_wp2_with(go_at_call 111;refine Z1 (l4.a _) ?_);go_roundg (gk-1)
             case measure=>omega
             case rel=>exact⟨k+1,O,R,by rw[s0.a],_,hf2.a,s7.a,w5.a,hw2.a⟩
            .have s7:=X (g9.a O);clear l5 g9 Bp c6 B;go_wp2_with(go_at_call 111;refine Z1 (l4.a _) ?_);go_roundg (gk-1)
             case measure=>omega
             case rel=>exact⟨k+1,O,R,by rw[s0.a],_,A,s7.a,w5.a,r.a⟩
          .have p8:a.data.toList≠[45]:=λh=>f5 (Zi h)
           have w2:q<=la:=by
            refine Xd λh=>f5 (Zj ?_);omega
           have x8:=X (F.a p8 w2);have hd:(a.toList==[45])=Zl:=(by rw[k9];simp[p8]);clear F g6 k9 f5 l5 g9 Bp c6 B p8
           go_wp2_with(first|(go_at_call 111;refine Z1 (l4.a _) ?_)|(refine ZD bp PA (Fo.p (w:=w) A) d ?_)|(refine ZC w.heap.size PA (Fo.res (bp:=bp) (PA:=PA) A) d G.a ?_));exact ZS (v:=Ze #[Zc PA,Za Zl]) (qj results113 _ _ w.heap.size 70 _ (0,0) _ R (Zt A.res) s_ rfl UX) R ⟨Zj ⟨x8.a,PA,d,G.a,R⟩,A.gr.setRow _ Zy _⟩
         .have ek:k=a.size:=O
          subst ek;have k0:Y (jE z _ (yq a.data.toList a.data.toList.length) (-1) 0 0 PA):=X (by have:=B.a;rwa[show a.size=a.data.toList.length from WU]at this);have v3:Y (a.data.toList=[45]\/j8 a.data.toList (-1)=Zk):=X (Bs.a.imp id (λh=>by rw[h,Ws WU];rfl));have w0:Y (gw≠w.heap.size):=X r7.a;have c4:=r.a.at' 4 WU;simp only[X0,XJ]at c4;have r0:=A.cell B.a.h;have s70:=A.soft 70;have s1:=X (λW=>qzj x4 Vk W);have s2:=X (λW=>qzj x5 Vk W);obtain⟨n4,d2⟩:=Zn (kV x4.data.toList);obtain⟨n5,d3⟩:=Zn (kV x5.data.toList);rw[d2.a]at s1;rw[d3.a]at s2;clear Bs B d G;go_upto_region 30 with(go_at_call 199;refine Z1 (s1.a _) ?_);have Bn:=A.put 70 (I L n4);have P:=X (k0.a.setH n4);have Q:=X (r.a.far f6 (i:=70) (v:=I L n4));generalize PA.setIfInBounds 70 (I L n4)=z9 at Bn P;generalize World.setCell _ ⟨bp,70,N⟩ (I L n4)=w66 at Bn Q|-;have c5:=Q.a.at' 5 WU;simp only[X0,XJ]at c5;have r1:=Bn.cell P.a.g;have s71:=Bn.soft 71;clear A r k0 c4 c2 r0 s70 s1;go_upto_region 31 with(go_at_call 199;refine Z1 (s2.a _) ?_);have V:=Bn.put 71 (I L n5);have J:=X (P.a.setG n5);have H:=X (Q.a.far f6 (i:=71) (v:=I L n5));generalize z9.setIfInBounds 71 (I L n5)=x2 at V J;generalize World.setCell _ ⟨bp,71,N⟩ (I L n5)=w77 at V H|-;have c3:=H.a.at' 3 WU;simp only[X0,XJ]at c3;clear Bn Q P c5 r1 s71 s2;have g0:Y ((As.toList==[45])=Zm (As.toList=[45])):=X (by by_cases h:As.toList=[45]<;>simp[h])
          obtain⟨cb,p7⟩:=Zo (As.toList==[45]);go_upto_if 118 with fail;go_cut [118]from 119 to 127 (λ_ wx=>∃PA b wv,Fo w bp PA wx/\kO x1=S wv/\jE z wv (yq a.data.toList a.data.toList.length) b n4 n5 PA/\Wd gw [x0,x1,a,As,x4,x5] wx/\v8 As=S b)
          case first=>
           cases cb
           .have h3:¬As.toList=[45]:=Ot
            have t1:=X (λW=>zb As W);have v0:=V.cell J.a.b;have s69:=V.soft 69;obtain⟨b3,r2⟩:=Zn (dJ As);rw[r2.a]at t1;have r3:Y (if 0<=b3 then v8 As=S b3 else(v8 As).isSome=Zl):=X (Et h3 r2.a);clear g0 h3 r2;go_upto_region 33 with(go_at_call 104;refine Z1 (t1.a _) ?_);have u:=V.put 69 (I L b3);have m:=X (J.a.setB b3);have Bg:=X (H.a.far f6 (i:=69) (v:=I L b3));generalize x2.setIfInBounds 69 (I L b3)=PA at u m;generalize World.setCell _ ⟨bp,69,N⟩ (I L b3)=w8 at u Bg|-;clear V H J c3 v0 s69 t1;have v0:=u.cell m.a.b;by_cases h0:0<=b3
            .have f3:Y (v8 As=S b3):=X (by have:=r3.a;rwa[qI h0]at this);clear r3;go_wp2_with fail;go_meet
             case rel=>exact⟨_,_,_,u,a9.a,m.a,Bg.a,f3.a⟩
            .have F:Y (xG s=N):=X (by rw[hr.a];exact jr (Zj (Zj (Zj (Zi (by have:=r3.a;rwa[qF h0]at this))))));have d:=m.a.size;have G:=X (qx m.a)
             go_wp2_with(first|(refine ZD bp PA (Fo.p (w:=w) u) d ?_)|(refine ZC w.heap.size PA (Fo.res (bp:=bp) (PA:=PA) u) d G.a ?_));exact ZS (v:=Ze #[Zc PA,Za Zl]) (qj results113 _ _ w.heap.size 70 _ (0,0) _ R (Zt u.res) s_ rfl UX) R ⟨Zj ⟨F.a,PA,d,G.a,R⟩,u.gr.setRow _ Zy _⟩
           .have h3:As.toList=[45]:=Ot
            have f3:Y (v8 As=S (-1)):=X (by unfold v8;rw[qI h3]);clear g0 h3;go_wp2_with fail;go_meet
            case rel=>exact⟨_,_,_,V,a9.a,J.a,H.a,f3.a⟩
          case rest=>
           clear V J H c3 g0 a9 p7;obtain⟨PA,b,wv,u,p0,h9,n3,m2⟩:=hcut;have a9:=X p0;have m:=X h9;have Bg:=X n3;have f3:=X m2;clear p0 h9 n3 m2;go_upto_region 35 with fail;have d:=m.a.size;have G:=X (qx m.a);have r0:=u.cell m.a.h;have r1:=u.cell m.a.g;have c2:=Bg.a.at' 2 WU;simp only[X0,XJ]at c2;have g1:Y (a.data.toList=[]->kT s (Zd (Ze #[Zc PA,Za Zl]))):=X (λh=>Zj ⟨by rw[hr.a];exact jr (Zj (Zj (Zi (by rw[h];exact tf)))),PA,d,G.a,R⟩);have g3:Y (¬0<=n4->kT s (Zd (Ze #[Zc PA,Za Zl]))):=X (λh=>Zj ⟨by rw[hr.a];exact jr (Zj (Zj (Zj (Zj (Zi (iw (by rw[d2.a];exact h))))))),PA,d,G.a,R⟩);have g2:Y (¬0<=n5->kT s (Zd (Ze #[Zc PA,Za Zl]))):=X (λh=>Zj ⟨by rw[hr.a];exact jr (Zj (Zj (Zj (Zj (Zj (iw (by rw[d3.a];exact h))))))),PA,d,G.a,R⟩)
           have g5:Y (a.data.toList≠[]->0<=n4->0<=n5->kT s (Zd (Ze #[Zc PA,Za Zk]))):=X (λh0 h4 h5=>by
            have hq:=m.a;rw[<-d2.a,<-d3.a]at hq;obtain⟨p,hp,e⟩:=tG hr.a hbd.a a9.a h0 v3.a f3.a (by rw[d2.a];exact h4) (by rw[d3.a];exact h5) hq;exact Zi ⟨p,hp,by rw[e]⟩)
           have v4:Y ((a.toList==[])=Zm (a.data.toList=[])):=X (by rw[Xl];cases a.data.toList<;>simp)
           clear m Bg f3;obtain⟨em,hem⟩:=Zo (a.toList==[]);obtain⟨y4,h4⟩:=Zo (Zm (0<=n4));obtain⟨y5,h5⟩:=Zo (Zm (0<=n5))
           have v5:Y (kT s (Zd (Ze #[Zc PA,Za (!em&&y4&&y5)]))):=X (by
            have hd:=v4.a.symm.trans hem;cases em
            .cases y4
             .exact g3.a (of_decide_eq_false h4)
             .cases y5
              .exact g2.a (of_decide_eq_false h5)
              .exact g5.a (of_decide_eq_false hd) (q8 h4) (q8 h5)
            .exact g1.a (q8 hd))
           clear g1 g3 g2 g5 v4;have a8:HI bp gw PA a n4 n5 wc.drew:=⟨⟨(show bp<wc.heap.size from u.lp),(qy u.p).2⟩,c2,r0,r1⟩;refine ZT (S:=HI bp gw PA a n4 n5) WR a8 (λo=>?_);refine ty 0 (Zc PA) R (zy d Vb _ R bp R (λ_ h=>h.1)) o ?_;refine ty 1 (Zq (S ⟨gw,0,N⟩) 6 cap) R (Zi ⟨Vb,λW D=>?_⟩) o ?_
           .obtain⟨q1,q2,q3,q4⟩:=D;clear o;go_simp
           refine ty 2 (.pointer (S ⟨gw,2,N⟩)) R (Zi ⟨Vb,λW D=>?_⟩) o ?_
           .obtain⟨q1,q2,q3,q4⟩:=D;clear o;go_simp
           refine ty 3 (Zb a) R (Zi ⟨Vb,λW D=>?_⟩) o ?_
           .obtain⟨q1,q2,q3,q4⟩:=D;clear o;go_simp
           refine ty 4 (Za (!em)) R (Zi ⟨Vb,λW D=>?_⟩) o ?_
           .obtain⟨q1,q2,q3,q4⟩:=D;clear o;go_simp
           refine ty 5 (Za (!em)) R (Zi ⟨Vb,λW D=>?_⟩) o ?_
           .obtain⟨q1,q2,q3,q4⟩:=D;clear o;go_simp
           cases em
           case' true=>
            refine ZA 6 o ?_;refine ZA 7 o ?_;refine ZA 8 o ?_;refine ty 9 (Za Zl) R (Zi ⟨Vb,λW D=>?_⟩) o ?_
            .obtain⟨q1,q2,q3,q4⟩:=D;clear o;go_simp
            refine ty 10 (Za Zl) R (Zi ⟨Vb,λW D=>?_⟩) o ?_
            .obtain⟨q1,q2,q3,q4⟩:=D;clear o;go_simp
            refine ZA 11 o ?_;refine ZA 12 o ?_;refine ZA 13 o ?_;refine ty 14 (Za Zl) R (Zi ⟨Vb,λW D=>?_⟩) o ?_
            .obtain⟨q1,q2,q3,q4⟩:=D;clear o;go_simp
           case' false=>
            refine ty 6 (.pointer (S ⟨bp,70,N⟩)) R (Zi ⟨Vb,λW D=>?_⟩) o ?_
            .obtain⟨q1,q2,q3,q4⟩:=D;clear o;go_simp
            refine ty 7 (I L n4) R (Zi ⟨Vb,λW D=>?_⟩) o ?_
            .obtain⟨q1,q2,q3,q4⟩:=D;clear o;go_simp
            refine ty 8 (Za y4) R (Zi ⟨Vb,λW D=>?_⟩) o ?_
            .obtain⟨q1,q2,q3,q4⟩:=D;clear o;go_simp
            refine ty 9 (Za y4) R (Zi ⟨Vb,λW D=>?_⟩) o ?_
            .obtain⟨q1,q2,q3,q4⟩:=D;clear o;go_simp
            refine ty 10 (Za y4) R (Zi ⟨Vb,λW D=>?_⟩) o ?_
            .obtain⟨q1,q2,q3,q4⟩:=D;clear o;go_simp
            cases y4
            case' false=>
             refine ZA 11 o ?_;refine ZA 12 o ?_;refine ZA 13 o ?_;refine ty 14 (Za Zl) R (Zi ⟨Vb,λW D=>?_⟩) o ?_
             .obtain⟨q1,q2,q3,q4⟩:=D;clear o;go_simp
            case' true=>
             refine ty 11 (.pointer (S ⟨bp,71,N⟩)) R (Zi ⟨Vb,λW D=>?_⟩) o ?_
             .obtain⟨q1,q2,q3,q4⟩:=D;clear o;go_simp
             refine ty 12 (I L n5) R (Zi ⟨Vb,λW D=>?_⟩) o ?_
             .obtain⟨q1,q2,q3,q4⟩:=D;clear o;go_simp
             refine ty 13 (Za y5) R (Zi ⟨Vb,λW D=>?_⟩) o ?_
             .obtain⟨q1,q2,q3,q4⟩:=D;clear o;go_simp
             refine ty 14 (Za y5) R (Zi ⟨Vb,λW D=>?_⟩) o ?_
             .obtain⟨q1,q2,q3,q4⟩:=D;clear o;go_simp
           all_goals
            refine rd 15 λK hK=>?_;rw[qI Vb];refine YQ 70 _ _ R w.heap.size PA R R 70 b_ (Fo.res (bp:=bp) (PA:=PA) (cur:=wc) u) UX (by rw[d];exact xF.symm) G.a ?_;refine hK.out _ _ (o.far u.ne w0.a) λo=>?_;clear hK K;simp only[py];refine rd 16 λK hK=>?_;go_simp;refine hK.out _ _ o λo=>?_;clear hK K;refine ZZ WR ?_ _;clear o a8;go_wp2_with fail;exact ZS (v:=Ze #[Zc PA,Za _]) (qj results113 _ _ w.heap.size 70 _ (0,0) _ R (Zt (Fo.res (bp:=bp) (PA:=PA) (cur:=wc) u)) s_ rfl UX) R ⟨v5.a,u.gr.drew.setRow _ Zy _⟩
     .have F:Y (xG s=N):=X (by rw[hr.a];exact jr (Zi (nN (f7 h8))));have v1:((ys.length:Int)!=8)=Zk:=qU.2 O
      go_wp2_with(first|(refine ZD bp f2 (Fo.p (w:=w) ‹_›) f9 ?_)|(refine ZC w.heap.size f2 (Fo.res (bp:=bp) (PA:=f2) ‹_›) f9 s5.a ?_));exact ZS (v:=Ze #[Zc f2,Za Zl]) (qj results113 _ _ w.heap.size 70 _ (0,0) _ R (Zt l1.res) s_ rfl (by rw[f9];exact q9)) R ⟨Zj ⟨F.a,f2,f9,s5.a,R⟩,l1.gr.setRow _ Zy _⟩
   .have F:Y (xG s=N):=X (by rw[hr.a];exact jr (Zj (Zi (by simpa using f8))));have Bk:=(Fu x1).1;rw[show(kO x1).isSome=Zl by simpa using f8]at Bk;obtain⟨n1,n2⟩:(x1.toList==[119])=Zl/\(x1.toList==[98])=Zl:=(by simpa using Bk);clear f8 Bk
    go_wp2_with(first|(refine ZD bp gq (Fo.p (w:=w) ‹_›) M ?_)|(refine ZC w.heap.size gq (Fo.res (bp:=bp) (PA:=gq) ‹_›) M g7.a ?_));exact ZS (v:=Ze #[Zc gq,Za Zl]) (qj results113 _ _ w.heap.size 70 _ (0,0) _ R (Zt T.res) s_ rfl (by rw[M];exact q9)) R ⟨Zj ⟨F.a,gq,M,g7.a,R⟩,T.gr.setRow _ Zy _⟩
 .have F:Y (xG s=N):=X (rV (f7 h6));have h6i:((xs.length:Int)!=6)=Zk:=qU.2 O;go_wp2_with(first|(refine ZD bp gq (Fo.p (w:=w) ‹_›) M ?_)|(refine ZC w.heap.size gq (Fo.res (bp:=bp) (PA:=gq) ‹_›) M g7.a ?_));exact ZS (v:=Ze #[Zc gq,Za Zl]) (qj results113 _ _ w.heap.size 70 _ (0,0) _ R (Zt T.res) s_ rfl (by rw[M];exact q9)) R ⟨Zj ⟨F.a,gq,M,g7.a,R⟩,T.gr.setRow _ Zy _⟩
def kT.plain{s:I4}{e:Ending}(h:kT s e):∃A ok,e=Zd (Ze #[Zc A,Za ok])/\A.size=72/\A.all (·.oneCell')=Zk/\(ok=Zk->∃p,xG s=S p/\A=jV p)/\(ok=Zl->xG s=N):=by
 obtain⟨p,a,rfl⟩|⟨a,A,f,g,rfl⟩:=h
 .exact Ic
 exact⟨A,Zl,R,f,g,λh=>Ub,λ_=>a⟩
structure Pr(w:I6)(bp:Nat)(A:I0)(cur:I6):Prop where
 res:cur.heap[w.heap.size]?=S (Z b_ 70)
 p:cur.heap[bp]?=S (Z A 70)
 lt:bp<cur.heap.size
 lr:w.heap.size<cur.heap.size
 gr:Gr w cur
def Pr.next{cur:I6}{bp:Nat}(h:Pr w bp A cur)(g:Gr cur a):Pr w bp A a:=⟨by rw[Zz g h.lr];exact h.res,Oq,qN h.lt (ZR g),qN h.lr (ZR g),o_ h.gr g⟩
def qvq(s:I4)(G:s.size<4294967281)(w:I6):i_ c_ 53 #[Zb s] w λe w'=>zA s e/\Gr w w':=by
 have x:Gr w (w.alloc (Z b_ 70)):=ZN;have F:Y (i_ c_ 113 #[Zb s] (w.alloc (Z b_ 70)) λe w'=>∃A ok,e=Zd (Ze #[Zc A,Za ok])/\A.size=72/\A.all (·.oneCell')=Zk/\(ok=Zk->∃p,xG s=S p/\A=jV p)/\(ok=Zl->xG s=N)/\Gr (w.alloc (Z b_ 70)) w'):=X ((tH s G _).mono λe w' h=>by obtain⟨A,ok,v,J,K,P,M⟩:=h.1.plain;exact⟨A,ok,v,J,K,P,M,h.2⟩);have u:Y ((w.alloc (Z b_ 70)).heap[w.heap.size]?=S (Z b_ 70)):=X Zv;have n:Y (w.heap.size<(w.alloc (Z b_ 70)).heap.size):=X Vj;have k:=X x;clear x G;go_in;go_upto_region 2 with(first|(go_at_call 113;refine F.a.mono ?_;rintro e l ⟨A,ok,rfl,o,E,D,B,y⟩)|(refine ZC l.heap.size A Zv o E ?_));generalize j:(l.alloc (Z b_ 70)).setRow l.heap.size A=H;have z:Gr l H:=by rw[<-j];exact ZN.setRow _ Zy _
 have d:=o_ y z;have C:Pr w l A H:=⟨by rw[Zz d n.a];exact u.a,by rw[<-j];exact Zt (Z7 l _),by rw[<-j,Xa,Z3];omega,qN n (ZR d),o_ k d⟩;generalize l.heap.size=bp at C|-;clear j z d y F u n k;cases ok
 .have a:Y (zA s (Zd (Ze #[b_,I L 1]))):=Zj (Zj ⟨B R,R⟩);clear B D;go_wp2_with(refine ZC w b_ (Pr.res (bp:=bp) (A:=A) ‹_›) xF xH ?_);exact ZS (v:=Ze #[b_,I L 1]) (qj results53 _ _ w 70 _ (0,0) _ R (Zt C.res) s_ rfl Vz) R ⟨a,C.gr.setRow _ Zy _⟩
 .obtain⟨p,f,i⟩:=D R;have b:Y (∀W:I6,ZL 114 #[A] W (xP p)):=λW=>by rw[i];exact CW (jo f) W
  clear D B;obtain⟨q,r⟩:=Zo (xP p);cases q
  .have a:Y (zA s (Zd (Ze #[b_,I L 2]))):=Zj (Zi ⟨p,f,r,R⟩);rw[r]at b;clear f i r;go_wp2_with(first|(refine ZC w b_ (Pr.res (bp:=bp) (A:=A) ‹_›) xF xH ?_)|(refine ZD bp A (Pr.p (w:=w) ‹_›) o ?_)|(go_at_call 114;refine Z0 (b _) λQ m=>?_;have g:=Pr.next ‹_› m));exact ZS (v:=Ze #[b_,I L 2]) (qj results53 _ _ w 70 _ (0,0) _ R (Zt g.res) s_ rfl Vz) R ⟨a,g.gr.setRow _ Zy _⟩
  .have a:Y (zA s (Zd (Ze #[A,I L 0]))):=Zi ⟨p,f,r,by rw[i]⟩;rw[r]at b;clear f i r;go_wp2_with(first|(refine ZC w A (Pr.res (bp:=bp) (A:=A) ‹_›) o E ?_)|(refine ZD bp A (Pr.p (w:=w) ‹_›) o ?_)|(go_at_call 114;refine Z0 (b _) λQ m=>?_;have g:=Pr.next ‹_› m));exact ZS (v:=Ze #[A,I L 0]) (qj results53 _ _ w 70 _ (0,0) _ R (Zt g.res) s_ rfl (by rw[o];exact q9)) R ⟨a,g.gr.setRow _ Zy _⟩
def BQ(e:Int)(w:I6):i_ c_ 30 #[e] w λr w'=>r=Zd e/\w'=w:=by go_in;exact Wz
structure Tb(w:I6)(b:Nat)(A:I0)(cur:I6):Prop where
 gr:Gr w cur
 p:cur.heap[b]?=S (Z A 70)
 lt:b<cur.heap.size
def Tb.next{cur:I6}{b:Nat}(h:Tb w b A cur)(g:Gr cur a):Tb w b A a:=⟨o_ h.gr g,Oq,qN h.lt (ZR g)⟩
def yT:I4:=⟨#[52,107,51,47,56,47,56,47,56,47,56,47,56,47,56,47,52,75,51,32,119,32,45,32,45,32,48,32,49]⟩
def mn:(xG yT).map xP=Zk:=WS
def fJ:∃p,xG yT=S p/\xP p=Zk:=Xp.1 mn
