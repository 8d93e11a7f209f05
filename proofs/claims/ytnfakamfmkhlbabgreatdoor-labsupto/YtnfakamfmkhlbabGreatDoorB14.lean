import Derived.Test.YtnfakamfmkhlbabGreatDoorB13
set_option maxRecDepth 100000
set_option maxHeartbeats 4000000
set_option linter.all false
open Go.Value renaming int->I,bool->Za,string->Zb,agg->Zc,tuple->Ze,slice->Zq
open Go.IntKind renaming i64->L,u8->Zg,u64->Zh
open Go.Obj renaming cells->Z
open Go.Ending renaming returned->Zd
open Or renaming inl->Zi,inr->Zj
open Option renaming some->S,none->N
open Bool renaming true->Zk,false->Zl
open Decidable renaming decide->Zm
open Go.RowKit renaming Hid->Y
open Go renaming World->I6,Value->I7
namespace Go.Proofs.YtnfakamfmkhlbabGreatDoor.C
open Go.ChangeShapes Go.WideShapes Go.ChangeAt Go.RowKit Go.Shelf Go.Proofs.YtnfakamfmkhlbabGreatDoor.P Tryz
attribute [local go_sem] qd qe Oper.semAt_some
variable {z:I2}{wh:Bool}{b h m:Int}{PA A M:I0}{fc:I5}{w W a w' w1 V:I6}{f n i k g base d e l j x B Bp:Nat}{v:I7}{u:UInt8}{Q:Nat->Obj->Prop}{rs:I3}{y:I1}
theorem It.later{α:Type}{P:Program}{lb:I0}{a:α->I0}{T:Obj->Prop}{C:Nat->Prop}{d:List α}(h:It P g lb a T C d w)(f:Fr (λk _=>C k) w w'):It P g lb a T C d w' :=
 λl B J e W i m n b o j=>h l B J e W (f.trans i) m n b o j
theorem pu(tmps:I0)(w:I6)(b:Nat)(x y z v:I7)(h:tmps.getD 2 undef=ZI b)(i:tmps.getD 3 undef=ZI (b+1))(e:w.heap[b]?=S (Z #[x,y,z] 87))(g:w.heap[b+1]?=S (Z #[v] 4)):(results Tryz.f66 tmps).run prog w=.ok (Ze #[Zc #[x,y,z],v]) w:=by
 have a:tmps[2]?.getD undef=ZI b:=Vq;have d:tmps[3]?.getD undef=ZI (b+1):=by simpa using i
 obtain⟨c0,c1,c2⟩:=qm e;have c3:=(qi g).1;simp[results,results66,a,d,asAddr,go_sem,c0,c1,c2,c3]
theorem sr:(prog.info? 87).map (·.size)=S 3:=WR
theorem qjb{F:Fence}{i:Array Oper}{d:List Oper}{o:Oper}{a:Act}{Q:Exit->Act->I6->Prop}(p:o.guard=N)(x y:Operand)(j:o.op=.store 87 x y)(b:Nat)(cells:I0)(u:a.eval x=ZI b)(v:a.eval y=Zc cells)(g:I0)(q:w.heap[b]?=S (Z g 87))(z:g.size=3)(l:cells.size=3)(k:cells.all (·.oneCell')=Zk)
 (h:wpListIn F n prog i Q d (a.put o.dst undef) (w.setRow b cells)):wpListIn F n prog i Q (o :: d) a w :=
 wpListIn_plain p λK hK=>by
  refine⟨λf m=>?_,?_⟩
  .simp[Oper.about,j]at m
  .rw[Oper.semAt_eq _ _ _ (by rw[j];intro c e;cases e)];have r:(execOp a.eval o).run prog w=.ok .skip (w.setRow b cells):=by have:=run_storeVar_row (P:=prog) w b 87 87 g cells q (by rw[sr,l]) O k;unfold execOp;simp only[j,u,v,Instr.storeAt,Instr.sureAddr,Sem.run_bind,Sem.run_pure,XV,this]
   rw[r];exact hK _ _ h
theorem qzv{lb:I0}{C:Nat->Prop}{a4:List Mv}(W:It prog g lb vr (λ_=>False) C a4 w)(S:∀args w,(callFunc g args).run prog w=.ok (.enter g args) w)(y:∀k,C k->k<w.heap.size) :
 ZL 66 #[.func (.func g) #[] lb] w (Ze #[gJ (a4.headD (0,0,0)),Za (!a4.isEmpty)]):=by
 refine(ZY (n:=9)).1 ?_;refine callsIn_of_wp_marks func66 rfl trivial ?_ R;simp only[ntmps66,Nat.reduceAdd,Nat.reduceSub,Zr];refine Z9.2 ?_;go_wp2_with fail;obtain⟨h1,h2⟩:=x6 w (Z #[I L 0,I L 0,I Zg 0] 87) (Z #[Za Zl] 4);have z:Gr w ((w.alloc (Z #[I L 0,I L 0,I Zg 0] 87)).alloc (Z #[Za Zl] 4)):=ZN.al;have b0:((w.alloc (Z #[I L 0,I L 0,I Zg 0] 87)).alloc (Z #[Za Zl] 4)).heap.size=w.heap.size+2:=WU;generalize ((w.alloc (Z #[I L 0,I L 0,I Zg 0] 87)).alloc (Z #[Za Zl] 4))=n at h1 h2 z b0 |-;refine Z9.1 (xj (n:=9) (gf:=g) (lb:=lb) R S W (λ_ h=>h.elim) (λk a7=>by have:=y k a7;omega) (Fr.of_gr z) (λ_=>R)
  (λl V=>l=[]/\V.heap[w.heap.size]?=some (Z #[I L 0,I L 0,I Zg 0] 87)/\V.heap[w.heap.size+1]?=some (Z #[Za Zl] 4)/\Gr w V/\n.heap.size<=V.heap.size)
  (λc l V=>c=.ret/\∃x,l=[x]/\V.heap[w.heap.size]?=some (Z (pU x) 87)/\V.heap[w.heap.size+1]?=some (Z #[Za Zk] 4)/\Gr w V/\n.heap.size<=V.heap.size)
  ?sI ?sX ⟨R,h1,h2,z,Zy⟩ ?rnd ?done ?stop)
 case sI=>exact λs A A' h f=>⟨h.1,f.same _ _ h.2.1 (Zi O),f.same _ _ h.2.2.1 (Zi O),Below.trans h.2.2.2.1 (f.below (n:=w.heap.size) (ZR h.2.2.2.1) (λk o a7=>Zi O)),q7 h.2.2.2.2 f.size⟩
 case sX=>exact λc s A A' h f=>⟨h.1,h.2.elim λx E=>⟨x,E.1,f.same _ _ E.2.1 (Zi O),f.same _ _ E.2.2.1 (Zi O),Below.trans E.2.2.2.1 (f.below (n:=w.heap.size) (ZR E.2.2.2.1) (λk o a7=>Zi O)),q7 E.2.2.2.2 f.size⟩⟩
 case done=>
  rintro D V hD ⟨d,F,H,G,B⟩ hK;subst d;have a5:∀j o,V.heap[j]?=some o->(V.alloc (Z #[I L 0,I L 0,I Zg 0] 87)).heap[j]?=some o:=λj o h=>(YP V _ _ (qB.1 h).1).trans h;have K:=a5 _ _ F;have a0:=a5 _ _ H;have P:=a5 _ _ hK;have T:Gr w (V.alloc (Z #[I L 0,I L 0,I Zg 0] 87)):=G.alloc _ _;have i:((V.alloc (Z #[I L 0,I L 0,I Zg 0] 87)).setRow w.heap.size #[I L 0,I L 0,I Zg 0]).heap[w.heap.size]?=some (Z #[I L 0,I L 0,I Zg 0] 87):=Zt K;have a:((V.alloc (Z #[I L 0,I L 0,I Zg 0] 87)).setRow w.heap.size #[I L 0,I L 0,I Zg 0]).heap[w.heap.size+1]?=some (Z #[Za Zl] 4):=by rw[Zu O];exact a0
  have M:((V.alloc (Z #[I L 0,I L 0,I Zg 0] 87)).setRow w.heap.size #[I L 0,I L 0,I Zg 0]).heap[D]?=some (.deferred (some [])):=by rw[Zu O];exact P
  have b:Gr w ((V.alloc (Z #[I L 0,I L 0,I Zg 0] 87)).setRow w.heap.size #[I L 0,I L 0,I Zg 0]):=T.setRow _ Zy _;obtain⟨c3,c4⟩:=qi a;go_wp2_with(refine ZU R 87 _ _ R w.heap.size #[I L 0,I L 0,I Zg 0] R R 87 _ K sr R Vi ?_);generalize ((V.alloc (Z #[I L 0,I L 0,I Zg 0] 87)).setRow w.heap.size #[I L 0,I L 0,I Zg 0])=a6 at i a M b |-;have a8:(a6.setCell ⟨w.heap.size+1,0,N⟩ (Za Zl)).heap[D]?=some (.deferred (some [])):=(KeepsOthers.setCell a6 ⟨w.heap.size+1,0,N⟩ (Za Zl)).same D _ M R;refine⟨WU,Zi ⟨_,_,R,YU a8,?_⟩⟩;exact⟨_,pu _ _ w.heap.size _ _ _ _ R R (DA (by rw[Yg _ _ _ _ WU];exact i) O) (DA (jm a) O),R,Below.trans (Yr b (show w.heap.size<=w.heap.size+1 from O) _) (XZ (w:=n) (n₀:=w.heap.size) O _ D _ _ hD a8 R R)⟩
 case stop=>
  rintro D c l V hD J ⟨rfl,x,rfl,F,H,G,B⟩ hK;refine Z9.2 ?_;go_wp2_with fail;have e1:a4.headD (0,0,0)=x/\a4.isEmpty=Zl:=by obtain⟨r,rfl⟩:=J;exact⟨R,R⟩
  refine⟨WU,Zi ⟨_,_,R,YU hK,?_⟩⟩;exact⟨_,pu _ _ w.heap.size _ _ _ _ R R (DA F O) (DA H O),by rw[e1.1,e1.2];rfl,Below.trans G (XZ (w:=n) (n₀:=w.heap.size) O _ D _ _ hD hK R R)⟩
 case rnd=>
  rintro l1 l ⟨fr,m,u⟩ V a1 E ⟨d,F,H,G,B⟩ hl;subst d;have a2:l1<V.heap.size:=hl.elim λr hr=>(qB.1 hr).1;simp only[vr,gJ];gi_wp2;refine⟨ZP.alloc _,?_⟩;intro p f2 a9 a3;obtain⟨_,F,H,G,B⟩:=a9;have kx:p.heap[V.heap.size]?=some (Z (ZJ fr m u) 87):=f2.same _ _ (ZQ V _) O;have Q:n.heap.size<=V.heap.size:=O;generalize V.heap.size=Bx at kx Q |-;obtain⟨x0,x1,x2⟩:=qm kx;have a:(p.setRow w.heap.size (ZJ fr m u)).heap[w.heap.size+1]?=some (Z #[Za Zl] 4):=by rw[Zu O];exact H
  have i:(p.setRow w.heap.size (ZJ fr m u)).heap[w.heap.size]?=some (Z (ZJ fr m u) 87):=Zt F;obtain⟨c3,c4⟩:=qi a;have b:Gr w (p.setRow w.heap.size (ZJ fr m u)):=G.setRow _ Zy _;have v:Fr (jM n.heap.size (λ_=>False) C) p (p.setRow w.heap.size (ZJ fr m u)):=⟨R,R,R,by rw[Xa];exact Zy,λk o e q=>by
   rw[Zu (by
    rintro rfl;obtain q|q:=q
    .have:=y _ q;omega
    .omega)];exact e⟩
  gi_wp2_with (refine qjb R _ _ R w.heap.size (ZJ fr m u) R R _ F R R Vi ?_);generalize (p.setRow w.heap.size (ZJ fr m u))=a6 at i a b v |-;refine⟨v.setCell _ ?_,R,(fr,m,u),R,?_,jm a,Yr b (show w.heap.size<=w.heap.size+1 from O) _,?_⟩
  .rintro o-(q|q)
   .have:=y _ q;simp at this;omega
   .have:=q.1;simp at this;omega
  .rw[Yg _ _ _ _ WU];exact i
  .have:=v.size;simp[World.setCell];omega
theorem tC(x y:Mv)(k:Nat)(w:I6)(h:w.heap[k]?=S (Z (pU y) 87)):ZL 201 #[gJ x,ZI k] w (Za (x==y)):=by
 obtain⟨f,t,u⟩:=x;obtain⟨i,g,b⟩:=y;have n:(w.alloc (Z (ZJ f t u) 87)).heap[k]?=S (Z (ZJ i g b) 87):=(YP w _ _ (qB.1 h).1).trans h;obtain⟨c0,c1,c2⟩:=qm n;simp only[gJ];by_cases l:f=i;subst l;by_cases m:t=g;subst m;by_cases j:u=b;subst j;have a:(((f,t,u):Mv)==(f,t,u))=Zk:=WU;rw[a];rotate_left;have a:(((f,t,u):Mv)==(f,t,b))=Zl:=by simp[j]
 have d:(u.toNat:Int)≠(b.toNat:Int):=λe=>j (q6.1 O);rw[a];clear a j;rotate_left;have a:(((f,t,u):Mv)==(f,g,b))=Zl:=by simp[m]
 have d:(t:Int)≠(g:Int):=O;rw[a];clear a m;rotate_left;have a:(((f,t,u):Mv)==(i,g,b))=Zl:=by simp[l]
 have d:(f:Int)≠(i:Int):=O;rw[a];clear a l;all_goals
  go_enter func201,ntmps201;go_wp2_with fail;go_ret;exact⟨R,ZN⟩
structure cR(g:Nat)(lb:I0)(Bw Bt:Nat)(W:I6):Prop where
 th:W.heap[Bt]?=S (Z #[.func (.func g) #[] lb] 141)
 fi:W.heap[Bt+1]?=S (Z #[.func (.func 201) #[] #[ZI Bw]] 143)
 le:Bw<W.heap.size
theorem cR.gr{lb:I0}{b:Nat}{e:I6}(h:cR g lb d b W)(a:Gr W e):cR g lb d b e :=
 ⟨(ZE a h.th),(ZE a h.fi),qN h.le (ZR a)⟩
theorem B0{lb:I0}{C:Nat->Prop}{d:List Mv}(E:It prog g lb vr (λ_=>False) C d w)(A:∀args w,(callFunc g args).run prog w=.ok (.enter g args) w)(z:∀k,C k->k<w.heap.size)(y:Mv) :
 ZL 119 #[.func (.func g) #[] lb,gJ y] w (Za (d.any λx=>x==y)):=by
 have P:∀(K:Fn)(first cap:I0)(w:I6),(Instr.makeFunc K first cap).run prog w=.ok (.func K first cap) w:=λ_ _ _ _=>R;obtain⟨f,t,u⟩:=y;generalize J:((f,t,u):Mv)=y;have M:gJ y=Zc (ZJ f t u):=by rw[<-J];rfl
 rw[M];go_enter func119,ntmps119;go_upto_region 1 with fail;obtain⟨w1,b⟩:∃w1,w1=w.alloc (Z (ZJ f t u) 87):=⟨_,R⟩;rw[<-b];have p:Y (Gr w w1):=X (by rw[b];exact(Gr.refl w).alloc _ _);have j:w1.heap[w.heap.size]?=S (Z (pU y) 87):=by rw[b,<-J];exact Zv
 clear b M J;have a:Y (∀i W,Gr w1 W->cR g lb w.heap.size i W->ZL 66 #[.func (.func 155) #[] #[ZI i,ZI (i+1)]] W (Ze #[gJ ((d.filter (·==y)).headD (0,0,0)),Za (!(d.filter (·==y)).isEmpty)])):=X (λi W a0 v=>by
  have o:=(ZE a0 j);have q:Gr w W:=Gr.trans p.a a0;have m:∀k,(C k\/k=w.heap.size)->k<W.heap.size:=λk F=>F.elim (λh=>qN (z k h) (ZR q)) (λh=>h▸(qB.1 o).1);refine qzv (C:=λk=>(C k\/k=w.heap.size)\/k=i\/k=i+1) (qkg (C:=λk=>C k\/k=w.heap.size) ((E.later (Fr.of_gr q)).mono λk h=>Zi h) A (YC func201 WR R) (λ_ h=>h.elim) (λ_ _ h=>h) m i (i+1) (·==y) v.th v.fi (λx _ V a1=>tC x y w.heap.size V (a1.same _ _ o (Zj R)))) (YC func155 WR R) ?_;rintro k (F|rfl|rfl)
  .exact m k F
  .exact(qB.1 v.th).1
  .exact(qB.1 v.fi).1)
 have n:Y ((d.any λx=>x==y)=!(d.filter (·==y)).isEmpty):=X (by
  cases r:(d.filter (·==y)).isEmpty
  .rw[List.isEmpty_eq_false_iff_exists_mem]at r;obtain⟨x,T⟩:=r;rw[qV]at T;exact qY.2 ⟨x,T.1,T.2⟩
  .rw[List.isEmpty_iff,X1]at r;exact XD.2 r)
 generalize (!(d.filter (·==y)).isEmpty)=a3 at a n;generalize (d.filter (·==y)).headD (0,0,0)=a2 at a;have G:w.heap.size<w1.heap.size:=(qB.1 j).1;go_wp2_with(first
  | (go_at_call 67;refine Z0 (dV _ _ _ _ _) λa4⟨H,B,l⟩=>?_)
  | (go_at_call 66;refine Z0 (a.a _ _ l ⟨H,B,qN G (ZR l)⟩) λQ D=>?_)
  | (refine ZU R 87 _ _ R _ (pU a2) R R 87 #[I L 0,I L 0,I Zg 0] Zv sr R (by simp[pU,Value.oneCell']) ?_))
 go_ret;exact⟨by rw[n.a];rfl,Gr.trans p.a (Gr.trans l (Gr.trans D (ZN.setRow _ Zy _)))⟩
def yM:I0:=#[.func (.func 60) #[] #[],.func (.func 61) #[] #[]]
structure Il(w:I6)(PA:I0)(y:Mv)(W:I6):Prop where
 q:W.cell? ⟨w.heap.size,1,N⟩=S (.func (.func 61) #[] #[])
 pa:W.heap[w.heap.size+1]?=S (Z PA 70)
 mv:W.heap[w.heap.size+2]?=S (Z (pU y) 87)
 gr:Gr w W
theorem Il.next{y:Mv}(h:Il w PA y W)(g:Gr W a):Il w PA y a :=
 ⟨(ZW g (Ye W _ h.q)).trans h.q,(ZE g h.pa),(ZE g h.mv),Gr.trans h.gr g⟩
theorem wY{d:Array Oper}{op:Oper}{a:Act}{S:I6->Prop}(f:(prog.info? 70).map (·.size)=some PA.toList.length)(k:Region.wanted op (yielded d a.tmps)=Zk)(x:Operand)(g:op.op=.load 70 x)(b:Nat)(l:a.eval x=ZI b)(e:∀w,S w->w.heap[b]?=some (Z PA 70)):YieldsIf prog d S op (Zc PA) a:=by have:=XW (P:=prog) k 70 x g b 0 l PA.toList _ (λw h j v i=>by rw[Zs (e w h),Z2,<-qO];exact i) underlying70 rfl f;rwa[Yb]at this
theorem dl{g:Int}(r:jE z wh fc b h g PA)(A:xO z=Zk)(p:-1<=b)(v:b<=63)(y:Mv)(w:I6)(H:jF w)(G:jQ w) :
 ZL 57 #[Zc yM,Zc PA,gJ y] w (Za ((xC z wh fc b).any λx=>x==y)):=by
 have J:=X r;clear r;obtain⟨f,t,u⟩:=y;have d:Y (∀Bp W,Gr w W->W.heap[Bp]?=S (Z PA 70)->ZL 119 #[.func (.func 128) #[] #[ZI Bp],gJ (f,t,u)] W (Za ((xC z wh fc b).any λx=>x==(f,t,u)))):=X (λBp W o V =>
  B0 (qxq J.a A p v Bp (λ_=>False) (λ_ h=>h.elim) W V (H.gr o) (G.gr o)) (YC func128 WR R) (by
   rintro k (rfl|rfl|rfl)
   .exact(qB.1 V).1
   .exact(H.gr o).2
   .exact(G.gr o).2) (f,t,u))
 generalize hR:(xC z wh fc b).any (λx=>x==(f,t,u))=a3 at d |-;clear hR;have n:(prog.info? 70).map (·.size)=S PA.toList.length:=by rw[ZX,J.a.size];exact jJ
 simp only[gJ,yM]at d |-;have j:Il w PA (f,t,u) (((w.alloc (Z yM 74)).alloc (Z PA 70)).alloc (Z (pU (f,t,u)) 87)):=by have F:Gr (w.alloc (Z yM 74)) (((w.alloc (Z yM 74)).alloc (Z PA 70)).alloc (Z (pU (f,t,u)) 87)):=ZN.al;have a2:=(YG F w.heap.size Vj).trans (ZQ w _);obtain⟨D,E⟩:=x6 (w.alloc (Z yM 74)) (Z PA 70) (Z (pU (f,t,u)) 87);rw[Z3]at D E;exact⟨by rw[Zs a2];rfl,D,E,Gr.trans ZN F⟩
 go_enter func57,ntmps57;go_upto_region 1 with fail;show Code.wp _ _ _ _ (((w.alloc (Z yM 74)).alloc (Z PA 70)).alloc (Z (pU (f,t,u)) 87));generalize (((w.alloc (Z yM 74)).alloc (Z PA 70)).alloc (Z (pU (f,t,u)) 87))=P at j |-;refine ZT (S:=Il w PA (f,t,u)) WR (j.next ZO.drew) (λa=>?_);refine ZB 0 (.pointer (S ⟨w.heap.size,1,N⟩)) R (λw i=>Ua) a ?_;refine ZB 1 (.func (.func 61) #[] #[]) R (λw i=>Ua) a ?_;refine ty 2 (Zc PA) R (wY n Vb _ R (w.heap.size+1) R (λ_ h=>h.pa)) a ?_;refine ZB 4 (Zc (ZJ f t u)) R (λw i=>Ua) a ?_;refine rd 3 λK hK=>?_;go_simp;refine(zk PA _).mono ?_;rintro e Q ⟨rfl,B,l⟩;refine hK.out _ _ (a.next l) λa=>?_;clear hK K l;refine rd 5 λK hK=>?_;go_simp;refine Z0 (d.a _ _ a.gr B) λT m=>?_;refine hK.out _ _ (a.next m) λa=>?_;clear hK K m;refine rd 6 λK hK=>?_;go_simp;refine hK.out _ _ a λa=>?_;clear hK K;exact OT
theorem qvb(c:UInt8):∀(k:Nat)(x:I1) (r:List (I1)),(∀y∈x :: r,c∉y)->r.length<=k->Lib.splitK [c] 0 k (Lib.join (x :: r) [c])=x :: r
 | k,x,[],h,_=>by rw[Lib.join_one,qva c k x (h x WU)]
 | 0,x,y :: r,_,hk=>by simp at hk
 | k+1,x,y :: r,h,hk=>by
  rw[ve,qS];show Lib.splitK [c] 0 (k+1) (x++c :: Lib.join (y :: r) [c])=_;rw[qj6 c k x _ (h x WU),qvb c k y r (λz a=>h z (by simp at a |-;right;exact a)) (by simp at hk;omega)]
theorem qzr(a:I1):∀(x:I1) (r:List (I1)),r.length*a.length<=(Lib.join (x :: r) a).length
 | x,[]=>by simp
 | x,y :: r=>by
  have:=qzr a y r;rw[ve,qZ,qZ,Yq,Nat.add_mul];omega
theorem qv4(c:UInt8)(n:Nat)(x:I1)(r:List (I1))(h:∀y∈x :: r,c∉y)(d:r.length+1<=n)(s:I4)(b:s.data.toList=Lib.join (x :: r) [c]):(xL c n s).map (·.data.toList)=x :: r:=by rw[qjc,b];apply qvb c _ x r h;have a:=qzr [c] x r;rw[<-b]at a;simp at a;omega
theorem cL(s:I4)(k:Nat)(h:k<s.size):s.data.toList[k]?=S s[k]:=by rw[qO];exact qQ _
theorem xa(s:I4)(u:s.size<=maxLen)(c:UInt8)(w:I6):Calls prog 111 #[Zb s,I Zg c.toNat] w λe w'=>e=Zd (I L (Lib.indexByte s.data.toList c))/\w'=w:=by
 unfold maxLen at u;go_enter func111,ntmps111;go_wp2;go_loopg [5] s.size (λg i wr=>∃k:Nat,k+g=s.size/\i=I L k/\(∀j,j<k->s.data.toList[j]?≠S c)/\wr=w)
 case atStart=>exact⟨0,O,R,λj d=>absurd d (Yy j),R⟩
 case round=>
  obtain⟨k,v,rfl,q,rfl⟩:=hrel;have b:=X q;clear q;by_cases n:k<s.size
  .have p:=X (cL s k n);by_cases f:s[k]=c
   .have a:Y (Lib.indexByte s.data.toList c=(k:Int)):=X (sx b.a (by rw[p.a,f]));subst f;go_wp2;go_ret;exact⟨xo a.a.symm,R⟩
   .have r:((s[k].toNat:Int)==(c.toNat:Int))=Zl:=by rw[qM];intro h;exact f (q6.1 O)
    have l:=X f;go_wp2;go_roundg (gk-1)
    case measure=>omega
    case rel=>exact⟨k+1,O,Vg,(by
     intro j d;by_cases m:j=k
     .subst m;rw[p.a];intro h;exact l.a (qP h)
     .exact b.a j O),R⟩
  .have o:k=s.size:=O;have a:Y (Lib.indexByte s.data.toList c=-1):=X (sw (by intro j d;exact b.a j (by rw[o];rw[ZX]at d;exact d)));subst o;go_wp2;go_ret;exact⟨xo a.a.symm,R⟩
theorem gD(c:UInt8)(w:I6):Calls prog 111 #[Zb ⟨#[80,78,66,82,81,75,112,110,98,114,113,107]⟩,I Zg c.toNat] w λe w'=>e=Zd (I L (jB c))/\w'=w :=
 xa ⟨#[80,78,66,82,81,75,112,110,98,114,113,107]⟩ WW c w
theorem zp(c:UInt8)(w:I6):Calls prog 107 #[I Zg c.toNat] w λe w'=>e=Zd (I L (vE c))/\w'=w:=by
 have a:=rn c;have b:=X (gD c);have e:vE c=if 6<=jB c then jB c-6 else jB c:=R;rw[e];clear e;generalize jB c=x at a b |-;by_cases h:6<=x;rw[qI h];rotate_left;rw[qF h];all_goals
  go_enter func107,ntmps107;go_wp2_with(go_at_call 111;refine Z1 (b.a _) ?_);go_ret;exact⟨R,R⟩
theorem za(c:UInt8)(w:I6):Calls prog 115 #[I Zg c.toNat] w λe w'=>e=Zd (I L (vB c))/\w'=w:=by
 have b:=rn c;have a:=X (gD c);have e:vB c=if jB c<0 then 0 else if jB c<6 then 1 else -1:=R;rw[e];clear e;generalize jB c=x at b a |-;by_cases h:x<0;rw[qI h];rotate_left;rw[qF h];by_cases d:x<6;rw[qI d];rotate_left;rw[qF d];all_goals
  go_enter func115,ntmps115;go_wp2_with(go_at_call 111;refine Z1 (a.a _) ?_);go_ret;exact⟨R,R⟩
theorem DG(b:Bool)(w:I6):Calls prog 195 #[I L 0,I L (xK b)] w λe w'=>e=Zd (I Zg (yP 0 b).toNat)/\w'=w:=by exact IS
theorem DF(b:Bool)(w:I6):Calls prog 195 #[I L 3,I L (xK b)] w λe w'=>e=Zd (I Zg (yP 3 b).toNat)/\w'=w:=by exact IR
theorem DE(b:Bool)(w:I6):Calls prog 195 #[I L 5,I L (xK b)] w λe w'=>e=Zd (I Zg (yP 5 b).toNat)/\w'=w:=by exact IQ
theorem sj(b:Bool):yP 5 b=vk b:=by cases b<;>rfl
theorem zr(i:Nat)(a:i<4)(w:I6):Calls prog 196 #[I L i] w λe w'=>e=Zd (Ze #[I L (xY i),I L (vN i),I L (zD i),I L (xK (Zm (i<2)))])/\w'=w:=by
 have:i=0\/i=1\/i=2\/i=3:=O;obtain rfl|rfl|rfl|rfl:=this
 .go_enter func196,ntmps196;go_wp2;exact ZS (v:=Ze #[I L 4,I L 6,I L 7,I L 1]) VC R ⟨R,R⟩
 .go_enter func196,ntmps196;go_wp2;exact ZS (v:=Ze #[I L 4,I L 2,I L 0,I L 1]) VC R ⟨R,R⟩
 .go_enter func196,ntmps196;go_wp2;exact ZS (v:=Ze #[I L 60,I L 62,I L 63,I L (-1)]) VC R ⟨R,R⟩
 .go_enter func196,ntmps196;go_wp2;exact ZS (v:=Ze #[I L 60,I L 58,I L 56,I L (-1)]) VC R ⟨R,R⟩
theorem rB(n:Int)(w:I6):Calls prog 339 #[I L n] w λe w'=>e=Zd (I L (sg n))/\w'=w:=by
 obtain h|h|h:=Int.lt_trichotomy n 0
 .have a:¬ 0<n:=O;have e:sg n=-1:=by unfold sg;rw[qF a,qI h]
  go_enter func339,ntmps339;exact OU
 .subst h;go_enter func339,ntmps339;exact Wz
 .have e:sg n=1:=by unfold sg;rw[qI h]
  have a:=h;go_enter func339,ntmps339;exact OU
theorem xh(n:Int)(b:-1000<=n)(d:n<=1000)(w:I6):Calls prog 197 #[I L n] w λe w'=>e=Zd (I L (ab n))/\w'=w:=by
 by_cases h:n<0
 .have e:ab n=-n:=by unfold ab;rw[qI h]
  have a:=h;go_enter func197,ntmps197;exact OU
 .have e:ab n=n:=by unfold ab;rw[qF h]
  have a:=h;go_enter func197,ntmps197;exact OU
theorem zh(A:I0)(f:Nat->Int)(a0:∀i,i<64->A[i]?=S (I Zg (f i)))(x y:Int)(h0:0<=x)(H:x<=63)(u:0<=y)(h3:y<=63)
 (p:Nat->Int) (L:Nat) (hL:1<=L) (p1:p 1=x+8*sg (y/8-x/8)+sg (y%8-x%8)) (r:∀i,p (i+1)=p i+8*sg (y/8-x/8)+sg (y%8-x%8)) (K:p L=y)
 (M:∀i,i<=L->0<=p i/\p i<=63) (a1:∀i,1<=i->i<L->p i≠y) (w:I6) :
 ZL 299 #[Zc A,I .i64 x,I .i64 y] w (Za (freeI f p L)):=by
 have W:=C5 (y/8-x/8);have a3:=C5 (y%8-x%8);generalize a5:sg (y/8-x/8)=Q at W p1 r;generalize a7:sg (y%8-x%8)=P at a3 p1 r;have B:=X p1;have F:=X r;have C:=X K;have D:=X M;have E:=X a1;have v:=X a0;clear p1 r K M a1 a0;go_enter func299,ntmps299;go_wp2_with(go_at_call 339;refine Z1 (rB _ _) ?_);go_loopg [9] (L-1) (λk n wr=>∃i:Nat,1<=i/\i+k=L/\n=I .i64 (p i)/\(∀j,j<i->1<=j->f (p j).toNat=46)/\wr=w.alloc (Obj.cells A 67))
 case atStart=>exact⟨1,Zy,O,by rw[B.a],λj H u=>O,R⟩
 case round=>
  obtain⟨i,J,i2,rfl,a,rfl⟩:=hrel;have d:=X a;clear a;have a2:=D.a i O;by_cases l:i<L
  .have z:(p i==y)=Zl:=by simpa using E.a i J l
   have b:(w.alloc (Obj.cells A 67)).cell? ⟨w.heap.size,(p i).toNat,N⟩=S (I Zg (f (p i).toNat)):=by rw[Zs Zv];exact v.a _ O
   have o:Y (p (i+1)=p i+8*Q+P):=F.a i;generalize G:f (p i).toNat=c at b;have g:=X G;clear G;generalize em:p i=m at z b o a2;have a4:=X em;clear em;by_cases q:c=46
   .have a6:=X q;subst q;go_wp2;go_roundg (gk-1)
    case measure=>omega
    case rel=>
     refine⟨i+1,O,O,by rw[o.a],?_,R⟩;intro j H u;by_cases e:j=i
     .subst e;exact g.a
     .exact d.a j O u
   .have T:(c==46)=Zl:=Ul;go_wp2;go_ret;refine⟨?_,ZN⟩;have:freeI f p L=Zl:=by unfold freeI;rw[qX];intro h;exact q (g.a.symm.trans (h i l J))
    rw[this];rfl
  .have e:i=L:=O;subst e;have V:=C.a;rw[V];go_wp2;go_ret;refine⟨?_,ZN⟩;have:freeI f p i=Zk:=by unfold freeI;rw[qG];exact d.a
   rw[this];rfl
theorem nb(A:I0)(f:Nat->Int)(b:∀i,i<64->A[i]?=S (I Zg (f i)))(d:A.size=64)(s:Int)(x y:Int)(k:0<=x)(l:x<=63)(m:0<=y)(n:y<=63)(w:I6) :
 ZL 247 #[Zc A,I L 0,I L s,I L x,I L y] w (Za (xS f 0 s x y)):=by
 have g:=X b;clear b;have h:=nw (y%8-x%8) O O;have j:=nw (y/8-x/8) O O;have a:xS f 0 s x y=((ab (y%8-x%8)==1)&&(y/8-x/8==s)):=R;rw[a];clear a;rcases Wa (ab (y%8-x%8)==ab (y/8-x/8))with c1|c1;all_goals
  rcases Wa (ab (y%8-x%8)==1)with c2|c2
  all_goals
   rw[c2];go_enter func247,ntmps247;go_wp2_with((go_at_call 197;refine Z1 (xh _ O O _) ?_));go_ret;exact⟨R,ZN⟩
theorem nZ(A:I0)(f:Nat->Int)(b:∀i,i<64->A[i]?=S (I Zg (f i)))(d:A.size=64)(s:Int)(x y:Int)(k:0<=x)(l:x<=63)(m:0<=y)(n:y<=63)(w:I6) :
 ZL 247 #[Zc A,I L 1,I L s,I L x,I L y] w (Za (xS f 1 s x y)):=by
 have j:=X b;clear b;have g:=nw (y%8-x%8) O O;have h:=nw (y/8-x/8) O O;have a:xS f 1 s x y=(ab (y%8-x%8)*ab (y/8-x/8)==2):=R;rw[a];clear a;have o:=mO _ _ g h;rcases Wa (ab (y%8-x%8)==ab (y/8-x/8))with c1|c1;all_goals
  go_enter func247,ntmps247;go_wp2_with((go_at_call 197;refine Z1 (xh _ O O _) ?_));go_ret;exact⟨R,ZN⟩
theorem nV(A:I0)(f:Nat->Int)(b:∀i,i<64->A[i]?=S (I Zg (f i)))(d:A.size=64)(s:Int)(x y:Int)(k:0<=x)(l:x<=63)(m:0<=y)(n:y<=63)(w:I6) :
 ZL 247 #[Zc A,I L 5,I L s,I L x,I L y] w (Za (xS f 5 s x y)):=by
 have g:=X b;clear b;have h:=nw (y%8-x%8) O O;have j:=nw (y/8-x/8) O O;have a:xS f 5 s x y=(Zm (ab (y%8-x%8)<=1)&&Zm (ab (y/8-x/8)<=1)&&Zm (0<ab (y%8-x%8)+ab (y/8-x/8))):=R;rw[a];clear a;rcases Wa (ab (y%8-x%8)==ab (y/8-x/8))with c1|c1;all_goals
  rcases Wa (Zm (ab (y%8-x%8)<=1))with c2|c2
  all_goals
   rcases Wa (Zm (ab (y/8-x/8)<=1))with c3|c3
   all_goals
    rw[c2,c3];go_enter func247,ntmps247;go_wp2_with((go_at_call 197;refine Z1 (xh _ O O _) ?_));go_ret;exact⟨R,ZN⟩
theorem nY(A:I0)(f:Nat->Int)(o:∀i,i<64->A[i]?=S (I Zg (f i)))(q:A.size=64)(s:Int)(x y:Int)(g:0<=x)(h:x<=63)(j:0<=y)(k:y<=63)(w:I6) :
  ZL 247 #[Zc A,I L 2,I L s,I L x,I L y] w (Za (xS f 2 s x y)):=by
 have m:=X o;clear o;have r:=nw (y%8-x%8) O O;have u:=nw (y/8-x/8) O O;have n:xS f 2 s x y=(yg x y&&freeI f (pI x y) (LI x y)):=R;have a:yd x y=((y%8-x%8==0) != (y/8-x/8==0)):=R;have b:yg x y=((ab (y%8-x%8)==ab (y/8-x/8))&&Zm (0<ab (y%8-x%8))):=R;rw[n];clear n;rcases cC (y%8-x%8) (y/8-x/8)with⟨c1,c2,c3,d⟩|⟨c1,c2,c3,d⟩|⟨c1,c2,c3,d⟩|⟨c1,c2,c3,d⟩|⟨c1,c2,c3,d⟩
 .rw[c3,d]at a;exact Wx
 .rw[c3,d]at a;exact Wx
 .rw[c3,d]at a;exact Wx
 .rw[c3,d]at a;rw[c1,c2]at b;try rw[a]
  try rw[b]
  have l:Y (yd x y=Zk\/yg x y=Zk):=X Ux;clear a b;go_enter func247,ntmps247;go_wp2_with(first|(go_at_call 197;refine Z1 (xh _ O O _) ?_)|(refine ZV R 67 _ R w.heap.size R 67 A (0,0) _ Zv underlying67 rfl (by rw[q];exact x7) ?_)|(go_at_call 299;refine Z0 (zh A f m.a x y g h j k (pI x y) (LI x y) (FC x y g h j k l.a) (IX x y) (FF x y) (FD x y g h j k l.a) (Dp x y g h j k l.a) (FE x y g h j k l.a) _) λw' p=>?_));go_ret;exact⟨R,ZN.trans p⟩
 .rw[c3,d]at a;exact Wx
theorem nX(A:I0)(f:Nat->Int)(p:∀i,i<64->A[i]?=S (I Zg (f i)))(q:A.size=64)(s:Int)(x y:Int)(d:0<=x)(g:x<=63)(h:0<=y)(j:y<=63)(w:I6) :
  ZL 247 #[Zc A,I L 3,I L s,I L x,I L y] w (Za (xS f 3 s x y)):=by
 have m:=X p;clear p;have r:=nw (y%8-x%8) O O;have u:=nw (y/8-x/8) O O;have o:xS f 3 s x y=(yd x y&&freeI f (pI x y) (LI x y)):=R;have a:yd x y=((y%8-x%8==0) != (y/8-x/8==0)):=R;have b:yg x y=((ab (y%8-x%8)==ab (y/8-x/8))&&Zm (0<ab (y%8-x%8))):=R;rw[o];clear o;rcases cC (y%8-x%8) (y/8-x/8)with⟨c1,c2,c3,k⟩|⟨c1,c2,c3,k⟩|⟨c1,c2,c3,k⟩|⟨c1,c2,c3,k⟩|⟨c1,c2,c3,k⟩
 .rw[c3,k]at a;exact Wx
 .exact WJ
 .exact WJ
 .rw[c3,k]at a;exact Wx
 .rw[c3,k]at a;exact Wx
theorem nW(A:I0)(f:Nat->Int)(q:∀i,i<64->A[i]?=S (I Zg (f i)))(o:A.size=64)(s:Int)(x y:Int)(d:0<=x)(g:x<=63)(h:0<=y)(j:y<=63)(w:I6) :
 ZL 247 #[Zc A,I L 4,I L s,I L x,I L y] w (Za (xS f 4 s x y)):=by
 have m:=X q;clear q;have r:=nw (y%8-x%8) O O;have u:=nw (y/8-x/8) O O;have p:xS f 4 s x y=((yd x y||yg x y)&&freeI f (pI x y) (LI x y)):=R;have a:yd x y=((y%8-x%8==0) != (y/8-x/8==0)):=R;have b:yg x y=((ab (y%8-x%8)==ab (y/8-x/8))&&Zm (0<ab (y%8-x%8))):=R;rw[p];clear p;rcases cC (y%8-x%8) (y/8-x/8)with⟨c1,c2,c3,l⟩|⟨c1,c2,c3,l⟩|⟨c1,c2,c3,l⟩|⟨c1,c2,c3,l⟩|⟨c1,c2,c3,l⟩
 .exact OS
 .exact ZM
 .exact ZM
 .exact ZM
 .exact OS
theorem qzz(A:I0)(f:Nat->Int)(h:∀i,i<64->A[i]?=S (I Zg (f i)))(j:A.size=64)(k:Nat)(l:k<=5)(s:Int)(x y:Int)(a:0<=x)(b:x<=63)(d:0<=y)(g:y<=63)(w:I6) :
 ZL 247 #[Zc A,I L k,I L s,I L x,I L y] w (Za (xS f k s x y)):=by
 have:k=0\/k=1\/k=2\/k=3\/k=4\/k=5:=O;obtain rfl|rfl|rfl|rfl|rfl|rfl:=this
 .exact nb A f h j s x y a b d g w
 .exact nZ A f h j s x y a b d g w
 .exact nY A f h j s x y a b d g w
 .exact nX A f h j s x y a b d g w
 .exact nW A f h j s x y a b d g w
 .exact nV A f h j s x y a b d g w
theorem aD{c:UInt8}{b:Bool}(h:vB c=xK b):∃k:Nat,k<=5/\vE c=(k:Int):=by
 have:=rn c;unfold vB xK at h;unfold vE;cases b
 .simp only[qR,YH]at h;refine⟨(jB c-6).toNat,?_,?_⟩
  .exact OH
  .rw[qI VR];exact OH
 .simp only[YS]at h;refine⟨(jB c).toNat,?_,?_⟩
  .exact OH
  .rw[qF VR];exact OH
def Bd(b:Nat)(A:I0)(w:I6):Prop:=w.heap[b]?=S (Z A 67)/\b<w.heap.size
theorem Bd.gr{b:Nat}(h:Bd b A w)(g:Gr w w'):Bd b A w':=⟨by rw[Zz g h.2];exact h.1,qN h.2 (ZR g)⟩
theorem Bd.cell{b:Nat}(h:Bd b A w)(a:A[i]?=S v):w.cell? ⟨b,i,N⟩=S v:=by rw[Zs h.1];exact a
theorem lH(c:UInt8)(w:I6):ZL 107 #[I Zg c.toNat] w (I L (vE c)) :=
 (zp c w).mono λ_ _ h=>⟨h.1,by rw[h.2];exact ZO⟩
theorem gU{b:Nat}(h:Bd b A w1)(d:A[k]?=S v)(g:Gr w1 w'):Gr w1 w'/\w'.rangeAt b 0 A.toList/\w'.cell? ⟨b,k,N⟩=S v :=
 ⟨g,(λj u a=>by rw[Z2];exact(h.gr g).cell (by rw[<-qO];exact a)),(h.gr g).cell d⟩
theorem nK(e:A.size=64)(d:∀i,i<64->A[i]?=S (I Zg (z i).toNat)):∀v∈A.toList,v.oneCell'=Zk:=by
 intro v f;obtain⟨i,b,rfl⟩:=List.getElem_of_mem f;have a:i<64:=by simpa[e]using b
 have:=d i a;rw[<-qO,Yf b]at this;simp at this;simp[this,Value.oneCell']
theorem ju(z:I2)(A:I0)(P:A.size=64)(a1:∀i,i<64->A[i]?=S (I Zg (z i).toNat))(y:Int)(h0:0<=y)(h1:y<=63)(b:Bool)(w:I6):ZL 192 #[Zc A,I L y,I L (xK b)] w (Za (zM z y b)):=by
 obtain⟨f,a2⟩:∃f:I5,Y (f=λn=>Zm (vB (z n)=xK b)&&xS (zI z) (vE (z n)).toNat (xK b) (n:Int) y):=⟨_,X R⟩;have m:zM z y b=(List.range 64).any f:=by rw[a2.a];rfl
 rw[m];clear m;have D:=X (λ(k:Nat)(hk:k<=5)(n:Nat)(hn:n<64) W=>qzz A (zI z) (λi a5=>a1 i a5) P k hk (xK b) (n:Int) y O O h0 h1 W);have a8:Y (Bd w.heap.size A (w.alloc (Z A 67))):=X ⟨Zv,Vj⟩;have K:Y (Gr w (w.alloc (Z A 67))):=X ZN;have a6:=X a1;have hu:=underlying67;have a5:(prog.info? 67).map (·.size)=S A.toList.length:=by rw[x7];simp[P]
 have hl:A.toList.length=64:=by simpa using P
 have a0:∀v∈A.toList,v.oneCell'=Zk:=nK P a1;clear a1;have a7:xK b=1\/xK b=-1:=by cases b<;>simp[xK]
 have M:Y (∀c:UInt8,vB c=xK b->∃k:Nat,k<=5/\vE c=(k:Int)):=X λc h=>aD h;generalize xK b=J at a2 D a7 M |-;go_enter func192,ntmps192;go_wp2;go_loopg [7] 64 (λg n wr=>∃k:Nat,k+g=64/\n=I L k/\(∀j,j<k->f j=Zl)/\Gr (w.alloc (Z A 67)) wr)
 case atStart=>exact⟨0,R,R,λj e=>absurd e (Yy j),ZO⟩
 case round=>
  obtain⟨k,k1,rfl,q,o⟩:=hrel;have a3:=X q;clear q;by_cases x:k<64
  .have a:=a8.a.gr o;have H:=a6.a k x;have V:=Bd.cell a H;have u:Y (f k=(Zm (vB (z k)=J)&&xS (zI z) (vE (z k)).toNat J (k:Int) y)):=X (by rw[a2.a]);by_cases E:vB (z k)=J
   .obtain⟨Q,C,p⟩:=M.a (z k) E;have a4:=X p;have T:(vB (z k)==J)=Zk:=by rw[E];simp
    have B:Y (f k=xS (zI z) Q J (k:Int) y):=X (by rw[u.a,qJ E,p];simp);obtain⟨av,r⟩:=Zo (xS (zI z) Q J (k:Int) y);clear u p E;cases av
    .have d:Y (f k=Zl):=X (by rw[B.a,r]);go_wp2_with(go_at_call 115;refine Z1 (za _ _) ?_);go_region_held3 (λw'=>Gr wr w'/\w'.rangeAt w.heap.size 0 A.toList/\w'.cell? ⟨w.heap.size,k,N⟩=S (I Zg (z k).toNat)) (first|exact gU a H ZO.drew|exact gU a H ‹_›|exact gU a H (Gr.alloc (vy ‹_›) _ _)) (first|(go_at_call 107;refine Z0 (lH _ _) λw' F=>?_;rw[a4.a];have l:=Gr.trans (vy ‹_›) F)|(go_at_call 247;refine Z0 (D.a Q C k x _) λw' F=>?_;rw[r];have l:=Gr.trans (vy ‹_›) F));go_wp2;go_roundg (gk-1)
     case measure=>omega
     case rel=>exact⟨k+1,O,Vg,(by
      intro j e;by_cases G:j=k
      .subst G;exact d.a
      .exact a3.a j O),Gr.trans o l⟩
    .have d:Y (f k=Zk):=X (by rw[B.a,r]);go_wp2_with(go_at_call 115;refine Z1 (za _ _) ?_);go_region_held3 (λw'=>Gr wr w'/\w'.rangeAt w.heap.size 0 A.toList/\w'.cell? ⟨w.heap.size,k,N⟩=S (I Zg (z k).toNat)) (first|exact gU a H ZO.drew|exact gU a H ‹_›|exact gU a H (Gr.alloc (vy ‹_›) _ _)) (first|(go_at_call 107;refine Z0 (lH _ _) λw' F=>?_;rw[a4.a];have l:=Gr.trans (vy ‹_›) F)|(go_at_call 247;refine Z0 (D.a Q C k x _) λw' F=>?_;rw[r];have l:=Gr.trans (vy ‹_›) F));go_wp2;go_ret;exact⟨by rw[qY.2 ⟨k,qK.2 x,d.a⟩];rfl,Gr.trans K.a (Gr.trans o l)⟩
   .have T:(vB (z k)==J)=Zl:=by simpa using E
    have d:Y (f k=Zl):=X (by rw[u.a,qE E];rfl);clear u E;go_wp2_with(go_at_call 115;refine Z1 (za _ _) ?_);go_roundg (gk-1)
    case measure=>omega
    case rel=>exact⟨k+1,O,Vg,(by
     intro j e;by_cases G:j=k
     .subst G;exact d.a
     .exact a3.a j O),o⟩
  .have ek:k=64:=O;subst ek;go_wp2;go_ret;exact⟨by
    have:(List.range 64).any f=Zl:=by rw[XD];intro j e;rw[a3.a j (qK.1 e)];decide
    rw[this];rfl,Gr.trans K.a o⟩
theorem man5(b:Bool)(w:I6):ZL 195 #[I L 5,I L (xK b)] w (I Zg (vk b).toNat):=by rw[<-sj];exact(DE b w).mono λ_ _ h=>⟨h.1,by rw[h.2];exact ZO⟩
theorem gT{b:Nat}(h:Bd b A w1)(a:A[k]?=S v)(g:Gr w1 w'):Gr w1 w'/\w'.cell? ⟨b,k,N⟩=S v :=
 ⟨g,(h.gr g).cell a⟩
theorem qzo(z:I2)(A:I0)(G:∀i,i<64->A[i]?=S (I Zg (z i).toNat))(b:Bool)(w:I6):ZL 193 #[Zc A,I L (xK b)] w (I L (xR z b)):=by
 have C:Y (Bd w.heap.size A (w.alloc (Z A 67))):=X ⟨Zv,Vj⟩;have u:Y (Gr w (w.alloc (Z A 67))):=X ZN;have B:=X G;clear G;have x:=X (man5 b);have l:=X (λk h K y=>qkm (z:=z) (b:=b) (k:=k) h K y);have o:=X (λh=>aC (z:=z) (b:=b) h);generalize vk b=e at x l o;generalize xK b=Q at x |-;generalize xR z b=V at l o |-;go_enter func193,ntmps193;go_wp2;go_loopg [5] 64 (λg n wr=>∃k:Nat,k+g=64/\n=I L k/\(∀j,j<k->(z j==e)=Zl)/\Gr (w.alloc (Z A 67)) wr)
 case atStart=>exact⟨0,R,R,λj H=>absurd H (Yy j),ZO⟩
 case round=>
  obtain⟨k,T,rfl,P,f⟩:=hrel;have p:=X P;clear P;by_cases v:k<64
  .have a:=C.a.gr f;have q:=B.a k v;by_cases r:z k=e
   .have d:Y (V=(k:Int)):=X (l.a k p.a (by simp[r]) v);subst r;go_wp2;go_region_held3 (λw'=>Gr wr w'/\w'.cell? ⟨w.heap.size,k,N⟩=S (I Zg (z k).toNat)) (first|exact gT a q ZO.drew|exact gT a q ‹_›|exact gT a q (Gr.alloc (vy ‹_›) _ _)) (first|(go_at_call 195;refine Z0 (x.a _) λw' E=>?_;have m:=Gr.trans (vy ‹_›) E));go_wp2;go_ret;exact⟨xo d.a.symm,Gr.trans u.a (Gr.trans f m)⟩
   .have M:(((z k).toNat:Int)==(e.toNat:Int))=Zl:=by rw[qM];intro h;exact r (q6.1 O)
    have D:Y ((z k==e)=Zl):=X (by simpa using r);clear r;go_wp2;go_region_held3 (λw'=>Gr wr w'/\w'.cell? ⟨w.heap.size,k,N⟩=S (I Zg (z k).toNat)) (first|exact gT a q ZO.drew|exact gT a q ‹_›|exact gT a q (Gr.alloc (vy ‹_›) _ _)) (first|(go_at_call 195;refine Z0 (x.a _) λw' E=>?_;have m:=Gr.trans (vy ‹_›) E));go_wp2;go_roundg (gk-1)
    case measure=>omega
    case rel=>exact⟨k+1,O,Vg,(by
     intro j H;by_cases F:j=k
     .subst F;exact D.a
     .exact p.a j O),Gr.trans f m⟩
  .have J:k=64:=O;subst J;have d:Y (V=-1):=X (o.a p.a);go_wp2;go_ret;exact⟨xo d.a.symm,Gr.trans u.a f⟩
section
theorem qxr(z:I2)(b:Bool)(k:Nat):ka z b (k+1)=ka z b k+(if vB (z k)=xK b then 1 else 0):=by
 unfold ka;rw[YI,YJ,qZ];by_cases h:vB (z k)=xK b
 .rw[qI h];simp[h]
 .rw[qF h];simp[h]
theorem qxw(z:I2)(b:Bool)(k:Nat):vZ z b (k+1)=vZ z b k+(if jB (z k)=((bg b+5:Nat):Int)then 1 else 0):=by
 unfold vZ;rw[YI,YJ,qZ];by_cases h:jB (z k)=((bg b+5:Nat):Int)
 .rw[qI h];simp only[List.filter_cons,h,decide_true,YS,List.filter_nil,Yq,XN]
 .rw[qF h];simp only[List.filter_cons,h,decide_false,qR,YH,List.filter_nil,XN]
theorem cB{f:I5}:∀k,((List.range k).filter f).length<=k:=λk=>by
 have:=Y8 f (List.range k);simpa using this
theorem t8(d:k<64)(h:vf z k=Zk)(wh:Bool)(f:I5)(b a g:Int):zT z wh f b a g=Zl:=by grind[vf,qK,zT]
def au(z:I2)(k:Nat)(k0 k1 m0 m1:Nat):Prop:=k0=vZ z Zk k/\k1=vZ z Zl k/\m0=ka z Zk k/\m1=ka z Zl k
theorem au.le{a b:Nat}(h:au z k a b d e):a<=k/\b<=k/\d<=k/\e<=k:=by obtain⟨rfl,rfl,rfl,rfl⟩:=h;exact⟨cB k,cB k,cB k,cB k⟩
theorem au.none{b:Nat}(h:au z k b d f g)(e:z k=46):au z (k+1) b d f g:=by
 obtain⟨rfl,rfl,rfl,rfl⟩:=h;have i:jB (z k)=-1:=by rw[e];exact uo
 have a:vB (z k)=0:=by unfold vB;rw[qI O]
 refine⟨?_,?_,?_,?_⟩
 .rw[qxw,qF O];rfl
 .rw[qxw,qF O];rfl
 .rw[qxr,qF (by rw[a];decide)];rfl
 .rw[qxr,qF (by rw[a];decide)];rfl
theorem au.some{m o p:Nat}(h:au z k m n o p)(b:Bool)(d:vB (z k)=xK b):au z (k+1) (m+if b&&Zm (vE (z k)=5)then 1 else 0) (n+if !b&&Zm (vE (z k)=5)then 1 else 0) (o+if b then 1 else 0) (p+if b then 0 else 1):=by
 obtain⟨rfl,rfl,rfl,rfl⟩:=h;obtain⟨i,r,g,j⟩:=zq d;have l:vE (z k)=(i:Int):=by have:=rn (z k);unfold vE at j |-;have q:bg b=0\/bg b=6:=Tw;split<;>split at j<;>omega
 have e:bg Zk=0:=R;have f:bg Zl=6:=R;refine⟨?_,?_,?_,?_⟩
 .rw[qxw,g,l];cases b
  .rw[qF (show ¬ (((bg Zl+i:Nat):Int)=((bg Zk+5:Nat):Int)) by rw[e,f];omega)];rfl
  .congr 1;by_cases a:i=5
   .subst a;rfl
   .rw[qF (show ¬ (((bg Zk+i:Nat):Int)=((bg Zk+5:Nat):Int)) from O),qF (show ¬ ((Zk&&Zm ((i:Int)=5))=Zk) from WX)]
 .rw[qxw,g,l];cases b
  .congr 1;by_cases a:i=5
   .subst a;rfl
   .rw[qF (show ¬ (((bg Zl+i:Nat):Int)=((bg Zl+5:Nat):Int)) from O),qF (show ¬ ((!false&&Zm ((i:Int)=5))=Zk) from WX)]
  .rw[qF (show ¬ (((bg Zk+i:Nat):Int)=((bg Zl+5:Nat):Int)) by rw[e,f];omega)];rfl
 .rw[qxr,d];cases b<;>rfl
 .rw[qxr,d];cases b<;>rfl
theorem DW(w:I6)(PA a b:I0)(t u:TypeId):zJ w.heap.size PA (((w.alloc (Z PA 70)).alloc (Z a t)).alloc (Z b u)) :=
 zJ.gr (w:=w.alloc (Z PA 70)) (qy Zv) ZN.al
theorem AS(w:I6)(PA a b:I0)(t u:TypeId)(o:Nat)(v:I7)(h:PA[o]?=S v):(((w.alloc (Z PA 70)).alloc (Z a t)).alloc (Z b u)).cell? ⟨w.heap.size,o,N⟩=S v:=by rw[YZ _ _ _ UA,YZ _ _ _ Vj,Z8 _ _ _ _ R];exact h
theorem i7(b:Bool)(j:Int)(w:I6)(a:j=5\/j=3):Calls prog 195 #[I L j,I L (xK b)] w λe w'=>e=Zd (I Zg (fC b j))/\w'=w:=by
 obtain rfl|rfl:=a
 .refine(DE b w).mono λ_ _ h=>⟨h.1.trans ?_,h.2⟩;cases b<;>rfl
 .refine(DF b w).mono λ_ _ h=>⟨h.1.trans ?_,h.2⟩;cases b<;>rfl
attribute [local go_sem] i8 lA lB lC
def HH(w1:I6)(b:Nat)(PA:I0)(w:I6):Prop:=zJ b PA w/\Gr w1 w
theorem HH.gr{b:Nat}(h:HH w1 b PA w)(g:Gr w w'):HH w1 b PA w':=⟨h.1.gr g,Gr.trans h.2 g⟩
theorem si{a:Nat}(e:au z 64 a d f g)(l:a=1)(m:d=1)(b:Bool):∃y:Nat,y<64/\xR z b=(y:Int):=by
 obtain⟨j,k,_,_⟩:=e;have:vZ z b 64=1:=by cases b<;>omega
 obtain⟨y,h,_,i⟩:=js this;exact⟨y,h,i⟩
theorem FN{f:I5}{g:Int}(r:jE z wh f b h g PA):(PA.toList.take 64).toArray.size=64/\∀i,i<64->(PA.toList.take 64).toArray[i]?=S (I Zg (z i).toNat):=by exact IG
theorem DB{d:Array Oper}{op:Oper}{a:Act}(l:PA.size=72){S:I6->Prop}(i:Region.wanted op (yielded d a.tmps)=Zk)(x:Operand)(g:op.op=.load 67 x)(b:Nat)(k:a.eval x=ZI b)(f:∀w,S w->zJ b PA w):YieldsIf prog d S op (Zc (PA.toList.take 64).toArray) a :=
 XW (P:=prog) i 67 x g b 0 k (PA.toList.take 64) _ (λw h=>λj v e=>(f w h).2 j v (by
  rw[Yv]at e;split at e
  .exact e
  .cases e)) underlying67 rfl (by rw[x7];simp[l])
theorem Dv{f:I5}{g:Int}(r:jE z wh f b h g PA)(w:I6):ZL 116 #[Zc PA] w (I L (xK wh)):=by
 have a:(w.alloc (Z PA 70)).cell? ⟨w.heap.size,64,N⟩=S (Za wh):=by rw[Z8 _ _ _ _ R];exact r.wh
 cases wh
 .go_enter func116,ntmps116;go_wp2;exact WM
 .go_enter func116,ntmps116;go_wp2;exact WM
theorem nJ{a:Nat}(l:au z 64 a d e i)(k:∀j,j<64->vf z j=Zl)(wh:Bool)(f:I5)(b h g:Int):zT z wh f b h g=(Zm (a=1)&&Zm (d=1)&&Zm (e<=16)&&Zm (i<=16)&&jH z f&&xX z wh b&&!(zM z (xR z (!wh)) wh)&&zP h g):=by
 obtain⟨rfl,rfl,rfl,rfl⟩:=l;have:((List.range 64).all λn=>!(vf z n))=Zk:=by rw[qW];intro j m;rw[k j (qK.1 m)];rfl
 unfold zT;rw[this,Xc]
theorem beh_k(z:I2)(wh:Bool):∃d:Int,((xK wh<0/\d=2)\/(¬ xK wh<0/\d=5))/\(∀b:Int,b≠-1->¬ (8*d<=b/\b<8*d+8)->xX z wh b=Zl)/\∀n:Nat,8*d<=(n:Int)->(n:Int)<8*d+8->∃U D:Nat,U<64/\D<64/\(U:Int)=n+8*xK wh/\(D:Int)=n-8*xK wh/\xX z wh n=(Zm (((z n).toNat:Int)=46)&&Zm (((z U).toNat:Int)=46)&&Zm (((z D).toNat:Int)=((yP 0 (!wh)).toNat:Int))):=by
 cases wh
 .refine⟨2,Zi ⟨WW,R⟩,λb j k=>by unfold xX;simp[j];omega,λn a b=>⟨n-8,n+8,O,O,by show _=(n:Int)+8*-1;omega,by show _=(n:Int)-8*-1;omega,?_⟩⟩;have e:Zm ((n:Int)=-1)=Zl:=qE O;have f:Zm ((16:Int)<=n)=Zk:=qJ O;have g:Zm ((n:Int)<24)=Zk:=qJ O;exact Ik
 .refine⟨5,Zj ⟨WW,R⟩,λb j k=>by unfold xX;simp[j];omega,λn a b=>⟨n+8,n-8,O,O,by show _=(n:Int)+8*1;omega,by show _=(n:Int)-8*1;omega,?_⟩⟩;have e:Zm ((n:Int)=-1)=Zl:=qE O;have f:Zm ((40:Int)<=n)=Zk:=qJ O;have g:Zm ((n:Int)<48)=Zk:=qJ O;exact Ik
theorem cast_k(z:I2)(f:I5)(a:k<4):∃(b h d:Nat)(g:Bool),b<64/\d<64/\(∀W:I6,Calls prog 196 #[I L k] W λe w'=>e=Zd (Ze #[I L b,I L h,I L d,I L (xK g)])/\w'=W)/\zX z f k=(!(f k)||(Zm (((z b).toNat:Int)=fC g 5)&&Zm (((z d).toNat:Int)=fC g 3))):=by
 have i:k=0\/k=1\/k=2\/k=3:=O;obtain rfl|rfl|rfl|rfl:=i
 .exact⟨4,6,7,Zk,O,O,λW=>zr 0 a W,R⟩
 .exact⟨4,2,0,Zk,O,O,λW=>zr 1 a W,R⟩
 .exact⟨60,62,63,Zl,O,O,λW=>zr 2 a W,R⟩
 .exact⟨60,58,56,Zl,O,O,λW=>zr 3 a W,R⟩
theorem tz{f:I5}{g:Int}(r:jE z wh f b h g PA)(w:I6):ZL 114 #[Zc PA] w (Za (zT z wh f b h g)):=by
 have t0:=X r.sq;have a3:Y (∀k,k<64->vf z k=Zk->zT z wh f b h g=Zl):=X λk hk hb=>t8 hk hb wh f b h g;have s7:Y (∀o1 o2:I0,Gr w (((w.alloc (Z PA 70)).alloc (Z o1 281)).alloc (Z o2 281))):=X λo1 o2=>ZN.al.al;go_enter func114,ntmps114;go_wp2;go_loopg [5] 64 (λg n wr=>∃k:Nat,k+g=64/\n=I L k/\(∀j,j<k->vf z j=Zl)/\∃p k1 m0 m1:Nat,au z k p k1 m0 m1/\wr=((w.alloc (Z PA 70)).alloc (Z #[I L p,I L k1] 281)).alloc (Z #[I L m0,I L m1] 281))
 case atStart=>exact⟨0,R,R,λj hj=>absurd hj (Yy j),0,0,0,0,⟨R,R,R,R⟩,R⟩
 case round=>
  obtain⟨k,n5,rfl,k3,p,k1,m0,m1,a0,rfl⟩:=hrel;have k0:=X k3;clear k3;have m6:=a0.le;have u:=X a0;clear a0;by_cases M:k<64
  .have c6:=AS w PA #[I L p,I L k1] #[I L m0,I L m1] 281 281 k _ (t0.a k M);by_cases hd:z k=46
   .have g2:Y (vf z k=Zl):=X (by unfold vf;rw[hd];rfl);have A:=X (u.a.none hd);rw[hd]at c6;go_wp2;go_roundg (gk-1)
    case measure=>omega
    case rel=>exact⟨k+1,O,Vg,(by
     intro j hj;by_cases a4:j=k
     .subst a4;exact g2.a
     .exact k0.a j O),p,k1,m0,m1,A.a,R⟩
   .have r7:(((z k).toNat:Int)==46)=Zl:=by rw[qM];intro h;exact hd (q6.1 (by show(z k).toNat=46;omega))
    have l:Y (vf z k=(Zm (vE (z k)<0)||(Zm (vE (z k)=0)&&(Zm (k/8=0)||decide (k/8=7))))):=X (by
     unfold vf;have:(z k==46)=Zl:=by simpa using hd
     rw[this];rfl)
    have a6:vB (z k)=0\/vB (z k)=xK Zk\/vB (z k)=xK Zl:=by
     unfold vB;split
     .exact Zi R
     .split
      .exact Zj (Zi R)
      .exact Zj (Zj R)
    have t2:vB (z k)=0->vE (z k)<0:=by
     unfold vB vE;intro h;split at h
     .rw[qF O];assumption
     .split at h<;>omega
    have l5:-1<=vE (z k)/\vE (z k)<=5:=by have:=rn (z k);unfold vE;split<;>omega
    have d5:=X (zp (z k));have d1:=X (za (z k));have a1:=X (λb hc=>u.a.some b hc);have G:=X (a3.a k M);clear hd;generalize vE (z k)=x at l t2 l5 d5 a1;generalize vB (z k)=y at a6 t2 d1 a1;obtain⟨bv,g3⟩:=Zn (vf z k);rw[g3.a]at l G;obtain⟨q,hq⟩:∃q:Int,(k:Int)/8=q:=⟨_,R⟩;have l:Y (bv=(Zm (x<0)||(Zm (x=0)&&(Zm (q=0)||decide (q=7))))):=X (by rw[l.a,XB.2 (show k/8=0↔q=0 from O),XB.2 (show k/8=7↔q=7 from O)]);cases bv
    .have f9:Y (∀j,j<k+1->vf z j=Zl):=X λj hj=>by
      by_cases a4:j=k
      .subst a4;exact g3.a
      .exact k0.a j O
     have hx:¬ x<0/\¬ (x=0/\(q=0\/q=7)):=by have:=l.a.symm;simpa using this
     obtain⟨n3,n4⟩:=hx;obtain⟨bb,T⟩:∃bb,y=xK bb:=by
      obtain T|T|T:=a6
      .exact absurd (t2 T) n3
      .exact⟨_,T⟩
      .exact⟨_,T⟩
     have A:=a1.a bb T;have f5:(x=0/\(q==0)=Zl/\(q==7)=Zl)\/((x==0)=Zl/\x=5)\/((x==0)=Zl/\(x==5)=Zl/\¬ x=5):=by simp only[qM];omega
     clear a1 t2 a6 G l n4;cases bb;all_goals
      have f6:=T;unfold xK at f6;simp only[qR,YH,YS]at f6;subst f6;clear T;obtain⟨rfl,f8,k5⟩|⟨h9,rfl⟩|⟨h9,r3,s1⟩:=f5
      all_goals
       simp[*]at A;have d0:=X A;clear A;go_wp2_with(first|(go_at_call 107;refine Z1 (d5.a _) ?_)|(go_at_call 115;refine Z1 (d1.a _) ?_));go_roundg (gk-1)
       case measure=>omega
       case rel=>exact⟨k+1,O,Vg,f9.a,_,_,_,_,d0.a,WU⟩
    .have a:=X (G.a R);have f5:x<0\/(x=0/\q=0)\/(x=0/\¬ q=0/\q=7):=by have:=l.a.symm;simp at this;omega
     clear a1 t2 a6 G l;obtain hx|⟨rfl,f8⟩|⟨rfl,f8,k5⟩:=f5;all_goals
      go_wp2_with(first|(go_at_call 107;refine Z1 (d5.a _) ?_)|(go_at_call 115;refine Z1 (d1.a _) ?_));go_ret;exact⟨Vy,s7.a _ _⟩
  .have ek:k=64:=O;subst ek;have d:=X (nJ u.a k0.a wh f b h g);have b0:=u;clear u k0 a3;by_cases h0:p=1
   .by_cases h1:k1=1
    .by_cases h2:m0<=16
     .by_cases h3:m1<=16
      .rw[qJ h0,qJ h1,qJ h2,qJ h3]at d;have a8:Y (∀bb:Bool,∃y:Nat,y<64/\xR z bb=(y:Int)):=X (si b0.a h0 h1);clear b0;subst h0 h1;go_upto_region 19 with fail;generalize hW:((w.alloc (Z PA 70)).alloc (Z #[I L 1,I L 1] 281)).alloc (Z #[I L m0,I L m1] 281)=w4;have h6:Y (zJ w.heap.size PA w4):=X (by rw[<-hW];exact DW w PA _ _ _ _);have o:Y (Gr w w4):=X (by rw[<-hW];exact s7.a _ _);clear hW s7 m6;have g4:=X r.c;have t3:Y (∀k,k<4->zX z f k=Zl->zT z wh f b h g=Zl):=X λk hk hc=>by rw[d.a,xt hk hc];simp
       go_wp2;go_loopg [9] 4 (λgg n wr=>∃k:Nat,k+gg=4/\n=I L k/\(∀j,j<k->zX z f j=Zk)/\Gr w4 wr)
       case atStart=>exact⟨0,R,R,λj hj=>absurd hj (Yy j),ZO⟩
       case round=>
        obtain⟨k,n5,rfl,k3,d3⟩:=hrel;have k0:=X k3;have i:=X d3;clear k3;have s8:=h6.a.gr d3;clear d3;by_cases M:k<4
        .obtain⟨K0,M0,R0,bb,u1,u2,b4,b3⟩:=cast_k z f M;have d4:=X b4;have F:=X b3;have f2:=X (i7 bb);have l4:=s8.at' (g4.a k M);have m2:=s8.at' (t0.a K0 u1);have n1:=s8.at' (t0.a R0 u2);have l3:=X (t3.a k M);have a9:Y (zX z f k=Zk->∀j,j<k+1->zX z f j=Zk):=X λq j hj=>by
          by_cases a4:j=k
          .subst a4;exact q
          .exact k0.a j O
         obtain⟨fv,g5⟩:=Zo (f k);obtain⟨kv,g8⟩:=Zo ((z K0).toNat:Int);obtain⟨rv,h7⟩:=Zo ((z R0).toNat:Int);obtain⟨KM,k9⟩:=Zo (fC bb 5);obtain⟨RM,l1⟩:=Zo (fC bb 3);rw[g5]at l4 F;rw[g8]at m2 F;rw[h7]at n1 F;rw[k9,l1]at F;have v1:(k:Int)<4:=O;have v2:(K0:Int)<64:=O;have v3:(R0:Int)<64:=O;clear s8 g5 g8 h7 b4 b3;by_cases hg:fv=Zk->kv=KM/\rv=RM
         .have n0:=X (a9.a (by rw[F.a];cases fv;rfl;simp[hg R]));cases fv;rotate_left;obtain⟨h1,h2⟩:=hg R;subst h1 h2;all_goals
           clear F a9;go_wp2_with(go_at_call 196;refine Z1 (d4.a _) ?_);go_quiet((go_at_call 195;exact YT (f2.a _ _ UQ)));go_wp2;go_roundg (gk-1)
           case measure=>omega
           case rel=>exact⟨k+1,O,Vg,n0.a,Gr.drewN i.a _⟩
         .obtain⟨rfl,a7⟩:fv=Zk/\¬ (kv=KM/\rv=RM):=⟨by cases fv;simp at hg;rfl,λq=>hg λ_=>q⟩;have a:=X (l3.a (by rw[F.a];simpa using a7));by_cases h1:kv=KM
          .have r6:(rv != RM)=Zk:=qU.2 λq=>a7 ⟨h1,q⟩;subst h1;exact OQ
          .have k4:(kv != KM)=Zk:=qU.2 h1;exact OQ
        .have h5:Y (jH z f=Zk):=X (qvw (by
          intro j hj;exact k0.a j O))
         have ek:k=4:=O;subst ek;clear M k0 t3 g4;rw[h5.a]at d;have l2:=X r.b;have f7:=r.size;have a5:=X r;clear r;have f4:=X (λW=>Dv a5.a W);obtain⟨me,Q⟩:=Zn (xK wh);rw[Q.a]at f4;go_upto_region 26 with(first|(refine ql Vb _ R w.heap.size R f7 s8 ?_)|(go_at_call 116;refine Z0 (f4.a _) λw5 d2=>?_));have H:=s8.gr d2;have B:=X d2;clear s8 d2 f4;have g1:=H.at' l2.a;go_upto_if 117 with fail;go_cut [15]from 118 to 165 (λ_ wx=>(∃nq,wx=w5.drewN nq)/\xX z wh b=Zk)
         case first=>
          obtain⟨RK,b6,c5,V⟩:=beh_k z wh;have P:=X (DG (!wh));have f3:IntKind.i64.wrap (-me)=xK (!wh):=Tn;have f0:me=1\/me=-1:=Tn;rw[Q.a]at b6 V;generalize xK (!wh)=mn at P f3;generalize ((yP 0 (!wh)).toNat:Int)=PW at P V;obtain⟨m8,f1⟩:=Zo (8*me);have v1:IntKind.i64.wrap (8*me)=m8:=Vc;by_cases b7:b=-1
          .subst b7;have t1:Y (xX z wh (-1)=Zk):=X (by unfold xX;simp);clear f0 f1;go_wp2_with fail;go_meet
           case rel=>exact⟨⟨0,R⟩,t1.a⟩
          .have r0:(b != -1)=Zk:=qU.2 b7;by_cases hl:8*RK<=b/\b<8*RK+8
           .obtain⟨g9,h4⟩:=hl;obtain⟨n,rfl⟩:∃n:Nat,b=n:=⟨b.toNat,O⟩;obtain⟨U,D,hU,hD,eU,eD,b2⟩:=V n g9 h4;have l:=X b2;have v2:IntKind.i64.wrap ((n:Int)+m8)=(U:Int):=Vc;have v3:IntKind.i64.wrap ((n:Int)-m8)=(D:Int):=Vc;have q1:(n:Int)<64:=O;have q4:¬ (63:Int)<n:=O;have q5:¬ (n:Int)<0:=O;have q2:(U:Int)<64:=O;have q3:(D:Int)<64:=O;have p0:=H.at' (t0.a n O);have p7:=H.at' (t0.a U hU);have p8:=H.at' (t0.a D hD);have hq:(n:Int)/8=RK:=O;generalize ((z n).toNat:Int)=x0 at p0 l;generalize ((z U).toNat:Int)=x1 at p7 l;generalize ((z D).toNat:Int)=x2 at p8 l;clear b2 eU eD V c5 f1 f0;have a:Y (¬ (x0=46/\x1=46/\x2=PW)->zT z wh f n h g=Zl):=X λq=>by
             have e:(Zm (x0=46)&&Zm (x1=46)&&Zm (x2=PW))=Zl:=by rw[Bool.eq_false_iff];intro e;simp only[qH,qG]at e;exact q ⟨e.1.1,e.1.2,e.2⟩
             rw[d.a,l.a,e];simp
            obtain⟨hm,rfl⟩|⟨hm,rfl⟩:=b6;all_goals
             by_cases p:x0=46
             .subst p;by_cases k1:x1=46
              .subst k1;by_cases k2:x2=PW
               .have t1:Y (xX z wh (n:Int)=Zk):=X (by rw[l.a,k2];simp);have n7:(x2 != PW)=Zl:=by rw[k2];simp
                clear k2;go_wp2;go_quiet((go_at_call 195;exact YT (P.a _)));go_wp2_with fail;go_meet
                case rel=>exact⟨⟨nq,R⟩,t1.a⟩
               .have a2:=X (a.a λq=>k2 q.2.2);have n7:(x2 != PW)=Zk:=qU.2 k2;go_wp2;go_quiet((go_at_call 195;exact YT (P.a _)));go_wp2;go_ret;exact⟨by rw[a2.a];rfl,Gr.trans o.a (Gr.trans i.a (Gr.drewN B.a _))⟩
              .have a2:=X (a.a λq=>k1 q.2.1);have s5:(x1 != 46)=Zk:=qU.2 k1;go_wp2;go_quiet((go_at_call 195;exact YT (P.a _)));go_wp2;go_ret;exact⟨by rw[a2.a];rfl,Gr.trans o.a (Gr.trans i.a (Gr.drewN B.a _))⟩
             .have a2:=X (a.a λq=>p q.1);have s2:(x0 != 46)=Zk:=qU.2 p;go_wp2;go_quiet((go_at_call 195;exact YT (P.a _)));go_wp2;go_ret;exact⟨by rw[a2.a];rfl,Gr.trans o.a (Gr.trans i.a (Gr.drewN B.a _))⟩
           .have a:Y (zT z wh f b h g=Zl):=X (by rw[d.a,c5 b b7 hl];simp);obtain⟨q,hq⟩:∃q:Int,b/8=q:=⟨_,R⟩;have s0:(q != RK)=Zk:=qU.2 λe=>hl O;clear c5 V f1 f0 hl;obtain⟨hm,rfl⟩|⟨hm,rfl⟩:=b6;all_goals
             by_cases g9:b<0
             .go_wp2;go_ret;exact⟨Vy,Gr.trans o.a (Gr.trans i.a B.a)⟩
             .by_cases h4:63<b
              .go_wp2;go_ret;exact⟨Vy,Gr.trans o.a (Gr.trans i.a B.a)⟩
              .go_wp2;go_ret;exact⟨Vy,Gr.trans o.a (Gr.trans i.a B.a)⟩
         case rest=>
          obtain⟨⟨nq,n2⟩,b1⟩:=hcut;subst n2;have t1:=X b1;have f3:Y (IntKind.i64.wrap (-me)=xK (!wh)):=X Tn;clear b1 g1;go_upto_region 34 with fail;obtain⟨y,r4,T⟩:=a8.a (!wh);have b5:=X (FN a5.a);have l0:Y (∀W:I6,ZL 193 #[Zc (PA.toList.take 64).toArray,I L (xK (!wh))] W (I L y)):=X λW=>by rw[<-T];exact qzo z _ b5.a.2 (!wh) W
          obtain⟨av,g0⟩:=Zn (zM z (y:Int) wh);have k8:Y (∀W:I6,ZL 192 #[Zc (PA.toList.take 64).toArray,I L y,I L me] W (Za av)):=X λW=>by rw[<-g0.a,<-Q.a];exact ju z _ b5.a.1 b5.a.2 (y:Int) O O wh W
          have E:Y (zT z wh f b h g=(!av&&zP h g)):=X (by
           rw[d.a,t1.a];show(Zk&&Zk&&Zk&&Zk&&Zk&&Zk&&!(zM z (xR z (!wh)) wh)&&zP h g)=_;rw[T,g0.a];rfl)
          have h8:HH (w5.drewN nq) w.heap.size PA (w5.drewN nq).drew:=⟨(zJ.gr H (Gr.drewN ZO _)).gr ZO.drew,ZO.drew⟩;refine ZT (S:=HH (w5.drewN nq) w.heap.size PA) WR h8 (λJ=>?_);refine ty 0 (ZI w.heap.size) R (Or.inl ⟨Vb,λw _=>?_⟩) J ?_
          .go_simp
          refine ty 1 (Zc (PA.toList.take 64).toArray) R (DB f7 Vb _ R w.heap.size R (λ_ h=>h.1)) J ?_;refine ty 2 (ZI w.heap.size) R (Or.inl ⟨Vb,λw _=>?_⟩) J ?_
          .go_simp
          refine ty 3 (Zc (PA.toList.take 64).toArray) R (DB f7 Vb _ R w.heap.size R (λ_ h=>h.1)) J ?_;refine ty 4 (I L me) R (Or.inl ⟨Vb,λw _=>?_⟩) J ?_
          .go_simp
          refine ty 5 (I L (xK (!wh))) R (Or.inl ⟨Vb,λw _=>?_⟩) J ?_
          .go_simp;exact f3.a
          refine ty 7 (I L me) R (Or.inl ⟨Vb,λw _=>?_⟩) J ?_
          .go_simp
          refine rd 6 λK hK=>?_;go_simp;refine Z0 (l0.a _) λw6 g6=>?_;refine hK.out _ _ (J.gr g6) λJ=>?_;clear hK K h8 g6;refine rd 8 λK hK=>?_;go_simp;refine Z0 (k8.a _) λw7 g7=>?_;refine hK.out _ _ (J.gr g7) λJ=>?_;clear hK K g7;refine rd 9 λK hK=>?_;go_simp;refine hK.out _ _ J λJ=>?_;clear hK K;refine ZZ WR ?_ _;have r1:=J.1.at' a5.a.h;have r2:=J.1.at' a5.a.g;have s9:Y (Gr w w7):=X (Gr.trans (Gr.trans o.a (Gr.trans i.a (Gr.drewN B.a _))) J.2);clear J;cases av
          .by_cases c1:0<=h
           .by_cases c2:h<=65535
            .by_cases c3:1<=g
             .by_cases c4:g<=65535
              .have a:Y (zT z wh f b h g=Zk):=X (by rw[E.a];unfold zP;simp[c1,c2,c3,c4]);exact O2
              .have a:Y (zT z wh f b h g=Zl):=X (by rw[E.a];unfold zP;simp[c4]);exact O2
             .have a:Y (zT z wh f b h g=Zl):=X (by rw[E.a];unfold zP;simp[c3]);exact O2
            .have a:Y (zT z wh f b h g=Zl):=X (by rw[E.a];unfold zP;simp[c2]);exact O2
           .have a:Y (zT z wh f b h g=Zl):=X (by rw[E.a];unfold zP;simp[c1]);exact O2
          .have a:Y (zT z wh f b h g=Zl):=X (by rw[E.a];rfl);exact O2
      .have a:Y (zT z wh f b h g=Zl):=X (by rw[d.a,qE h3];simp);exact In
     .have a:Y (zT z wh f b h g=Zl):=X (by rw[d.a,qE h2];simp);exact In
    .have k4:((k1:Int)==1)=Zl:=Vp;have a:Y (zT z wh f b h g=Zl):=X (by rw[d.a,qE h1];simp);exact In
   .have r5:((p:Int)==1)=Zl:=Vp;have a:Y (zT z wh f b h g=Zl):=X (by rw[d.a,qE h0];simp);exact In
end
def ixd(c:UInt8):Int:=Lib.indexByte [48,49,50,51,52,53,54,55,56,57] c
def ixf(c:UInt8):Int:=Lib.indexByte [97,98,99,100,101,102,103,104] c
def ixr(c:UInt8):Int:=Lib.indexByte [49,50,51,52,53,54,55,56] c
theorem EY:∀c:UInt8,ixd c=if dg c then(c.toNat:Int)-48 else -1:=vg WS
theorem EX:∀c:UInt8,ixf c=if 97<=c.toNat/\c.toNat<=104 then(c.toNat:Int)-97 else -1:=vg WS
theorem EV:∀c:UInt8,ixr c=if 49<=c.toNat/\c.toNat<=56 then(c.toNat:Int)-49 else -1:=vg WS
def kV(l:I1):Int:=match vR l with|some n=>(n:Int)|none=>-1
def dJ(s:I4):Int:=match uX s with|some n=>(n:Int)|none=>-1
theorem zb(s:I4)(w:I6):Calls prog 104 #[Zb s] w λe w'=>e=Zd (I L (dJ s))/\w'=w:=by
 by_cases m:s.size=2
 .have a:Y (dJ s=if 97<=s[0].toNat/\s[0].toNat<=104/\49<=s[1].toNat/\s[1].toNat<=56 then((s[0].toNat-97+8*(s[1].toNat-49):Nat):Int)else -1):=X (by
   unfold dJ uX;rw[Wf m];by_cases h:97<=s[0].toNat/\s[0].toNat<=104/\49<=s[1].toNat/\s[1].toNat<=56
   .rw[qI h,qI h]
   .rw[qF h,qF h])
  have b:=EX s[0];have d:=EV s[1];obtain⟨x,j⟩:=Zn (Lib.indexByte (ByteArray.mk #[97,98,99,100,101,102,103,104]).data.toList s[0]);obtain⟨y,k⟩:=Zn (Lib.indexByte (ByteArray.mk #[49,50,51,52,53,54,55,56]).data.toList s[1]);rw[show ixf s[0]=x from j.a]at b;rw[show ixr s[1]=y from k.a]at d;have f:=s[0].toNat_lt;have g:=s[1].toNat_lt;generalize dJ s=V at a |-;by_cases c1:97<=s[0].toNat/\s[0].toNat<=104;rw[qI c1]at b;by_cases c2:49<=s[1].toNat/\s[1].toNat<=56;rw[qI c2]at d;have i:Y (V=8*y+x):=X (by rw[a.a,qI ⟨c1.1,c1.2,c2.1,c2.2⟩,b,d];omega);have l:0<=x/\x<=7:=O;have n:0<=y/\y<=7:=O;clear b d c1 c2 a f g;rotate_left;rw[qF c2]at d;have i:Y (V=-1):=X (by rw[a.a,qF (λh=>c2 ⟨h.2.2.1,h.2.2.2⟩)]);have l:0<=x/\x<=7:=O;subst d;clear b c1 c2 a f g;rotate_left;rw[qF c1]at b;have i:Y (V=-1):=X (by rw[a.a,qF (λh=>c1 ⟨h.1,h.2.1⟩)]);subst b;clear d c1 a f g;all_goals
   go_enter func104,ntmps104;go_wp2_with(go_at_call 111;refine Z1 (xa _ WW _ _) ?_;(first|rw[j.a]|rw[k.a]));go_ret;exact⟨xo i.a.symm,R⟩
 .have a:dJ s=-1:=by unfold dJ uX;rw[dif_neg m]
  rw[a];go_enter func104,ntmps104;exact Wz
theorem dX(s:I4)(i:s.size<=maxLen)(h:s.size<1\/5<s.size\/(1<s.size/\s.data.toList.head?=S 48))(w:I6):Calls prog 199 #[Zb s,I L 5,I L 65535] w λe w'=>e=Zd (I L (kV s.data.toList))/\w'=w:=by
 have a:kV s.data.toList=-1:=by
  have:vR s.data.toList=N:=by
   unfold vR;rw[qF];rintro⟨f,g,d,_⟩;simp only[ZX,YY]at f g d;obtain h|h|h:=h
   .omega
   .omega
   .exact d h.1 h.2
  unfold kV;rw[this]
 rw[a];clear a;unfold maxLen at i;by_cases c1:s.size=0
 .exact IW
 .by_cases c2:5<s.size
  .exact IW
  .have c3:1<s.size:=O;have b:s[0]=48:=by exact OV
   have j:s[0].toNat=48:=by rw[b];rfl
   clear h b;exact IW
theorem dW(s:I4)(C:1<=s.size)(W:s.size<=5)(q:s.size<=1\/s.data.toList.head?≠S 48)(w:I6):Calls prog 199 #[Zb s,I L 5,I L 65535] w λe w'=>e=Zd (I L (kV s.data.toList))/\w'=w:=by
 have m:Y (∀k (h:k<s.size),dg s[k]=Zl->kV s.data.toList=-1):=by
  intro k h p;have:vR s.data.toList=N:=by unfold vR;rw[qF];rintro⟨_,_,_,g,_⟩;rw[iy s k h p]at g;exact absurd g WW
  unfold kV;rw[this]
 have l:Y (s.data.toList.all dg=Zk->kV s.data.toList=if dv s.data.toList<=65535 then(dv s.data.toList:Int)else -1):=by
  intro f;have r:1<=s.data.toList.length/\s.data.toList.length<=5/\(1<s.data.toList.length->s.data.toList.head?≠S 48):=by simp only[ZX,YY];exact⟨C,W,λh=>q.resolve_left O⟩
  unfold kV vR;by_cases p:dv s.data.toList<=65535
  .rw[qI ⟨r.1,r.2.1,r.2.2,f,p⟩,qI p]
  .rw[qF (λg=>p g.2.2.2.2),qF p]
 have r:s.size<=1\/((s[0].toNat:Int)==48)=Zl:=by exact OW
 clear q;generalize kV s.data.toList=V at m l |-;by_cases a2:s.size<=1;all_goals
  have A:1<s.size->((s[0].toNat:Int)==48)=Zl:=λh=>r.resolve_left O
  clear r
  try have a4:=A O
  clear A;have K:((s.size:Int)==0)=Zl:=Vp
  have a3:¬ s.size=0:=O
  have M:¬ s=ByteArray.empty:=λe=>by rw[e]at C;exact absurd C WW
  go_enter func199,ntmps199;go_wp2;go_loopg [7,8] s.size (λg n i wr=>∃k:Nat,k+g=s.size/\i=I L k/\n=I L (dv (s.data.toList.take k))/\(s.data.toList.take k).all dg=Zk/\wr=w)
  case atStart=>exact⟨0,O,R,R,R,R⟩
  case round =>
   obtain⟨k,T,rfl,rfl,f,rfl⟩:=hrel;have B:=tP k (s.data.toList.take k) WX f;have b:=X f;clear f;by_cases y:k<s.size
   .have D:10 ^ k<=10 ^ 4:=X8 O O;have E:dv (s.data.toList.take k)<=9999:=O
    clear B D;have z:=X (xi s k y);generalize p:dv (s.data.toList.take k)=d at E;have F:=X p;clear p;have u:=EY s[k];obtain⟨x,H⟩:=Zn (Lib.indexByte (ByteArray.mk #[48,49,50,51,52,53,54,55,56,57]).data.toList s[k]);rw[show ixd s[k]=x from H.a]at u;cases j:dg s[k]with
    | false =>
     rw[j,qF WW]at u;have a:=X (m.a k y j);subst u;clear j;go_wp2_with(go_at_call 111;refine Z1 (xa _ WW _ _) ?_;rw[H.a]);go_ret;exact⟨xo a.a.symm,R⟩
    | true =>
     rw[j,qI R]at u;have a0:48<=s[k].toNat/\s[k].toNat<=57:=by unfold dg at j;simpa using j
     have Q:0<=x/\x<=9:=O
     have G:Y (((10*d+(s[k].toNat-48):Nat):Int)=10*(d:Int)+x):=X O;have v:=X j;clear j u a0;go_wp2_with(go_at_call 111;refine Z1 (xa _ WW _ _) ?_;rw[H.a]);go_roundg (gk-1)
     case measure=>omega
     case rel =>
      refine⟨k+1,O,Vg,?_,?_,R⟩
      .rw[z.a,yz,F.a,G.a]
      .rw[z.a,Xf,b.a];simp[v.a]
   .have a1:k=s.size:=O
    subst a1;have o:s.data.toList.take s.size=s.data.toList:=Yk WU;rw[o]at b B |-;clear o;have a:=X (l.a b.a);clear l b m;generalize dv s.data.toList=d at a B |-;have P:d<100000:=by have:10 ^ s.size<=10 ^ 5:=X8 O O;omega
    clear B;by_cases J:d<=65535
    .rw[qI J]at a;go_wp2;go_ret;exact⟨xo a.a.symm,R⟩
    .rw[qF J]at a;go_wp2;go_ret;exact⟨xo a.a.symm,R⟩
theorem qzj(s:I4)(a:s.size<=maxLen)(w:I6):Calls prog 199 #[Zb s,I L 5,I L 65535] w λe w'=>e=Zd (I L (kV s.data.toList))/\w'=w:=by
 by_cases h:s.size<1\/5<s.size\/(1<s.size/\s.data.toList.head?=S 48)
 .exact dX s a h w
 .exact dW s O O (by
   by_cases g:s.size<=1
   .exact Or.inl g
   .exact Or.inr λe=>h (Or.inr (Or.inr ⟨O,e⟩))) w
theorem qxo(n:Nat)(h:n<64)(w:I6):ZL 110 #[I L n] w (Zb ⟨(xQ n).toArray⟩):=by
 obtain⟨q,b⟩:∃q:Nat,n/8=q:=⟨_,R⟩;obtain⟨r,f⟩:∃q:Nat,n%8=q:=⟨_,R⟩;have m:(n:Int).tdiv 8=(q:Int):=Uh;have o:(n:Int).tmod 8=(r:Int):=Vu;have i:q<8:=O;have j:r<8:=O;have k:IntKind.i64.wrap ((q:Int)+1)=(q:Int)+1:=Vc;have l:IntKind.i64.wrap ((r:Int)+1)=(r:Int)+1:=Vc;have p:∀W:I6,(Instr.sliceAt 9 (Zb ⟨#[97,98,99,100,101,102,103,104]⟩) (S (I L r)) (S (I L ((r:Int)+1))) N).run prog W=.ok (Zb ⟨#[UInt8.ofNat (97+r)]⟩) W:=λW=>by have:r=0\/r=1\/r=2\/r=3\/r=4\/r=5\/r=6\/r=7:=O;rcases this with rfl|rfl|rfl|rfl|rfl|rfl|rfl|rfl<;>rfl
 have u:∀W:I6,(Instr.sliceAt 9 (Zb ⟨#[49,50,51,52,53,54,55,56]⟩) (S (I L q)) (S (I L ((q:Int)+1))) N).run prog W=.ok (Zb ⟨#[UInt8.ofNat (49+q)]⟩) W:=λW=>by have:q=0\/q=1\/q=2\/q=3\/q=4\/q=5\/q=6\/q=7:=O;rcases this with rfl|rfl|rfl|rfl|rfl|rfl|rfl|rfl<;>rfl
 go_enter func110,ntmps110;go_wp2;go_quiet(fail);go_wp2;go_ret;refine⟨?_,(Gr.refl w).drewN _⟩;have g:xQ n=[UInt8.ofNat (97+r),UInt8.ofNat (49+q)]:=by unfold xQ;rw[b,f]
 rw[g];have d:r=0\/r=1\/r=2\/r=3\/r=4\/r=5\/r=6\/r=7:=O;have a:q=0\/q=1\/q=2\/q=3\/q=4\/q=5\/q=6\/q=7:=O;have e:((⟨#[97+UInt8.ofNat r]⟩:I4)++⟨#[49+UInt8.ofNat q]⟩)=⟨[UInt8.ofNat (97+r),UInt8.ofNat (49+q)].toArray⟩:=by rcases d with rfl|rfl|rfl|rfl|rfl|rfl|rfl|rfl<;>rcases a with rfl|rfl|rfl|rfl|rfl|rfl|rfl|rfl<;>decide
 show Ending.returned (Zb ((⟨#[97+UInt8.ofNat r]⟩:I4)++⟨#[49+UInt8.ofNat q]⟩))=_;rw[e]
theorem CW{f:I5}{g:Int}(r:jE z wh f b h g PA)(w:I6):ZL 114 #[Zc PA] w (Za (k6 z wh f b h g)):=by rw[<-aY];exact tz r w
end Go.Proofs.YtnfakamfmkhlbabGreatDoor.C
